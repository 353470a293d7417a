import Derived.Test.YtfolanohokflkaaGreatDoorTabC
import Derived.Laws.Cover4
import Derived.Laws.IdiomStrings
import Derived.Shelf.SlSortCmp.WholeK
import Derived.Test.YtfolanohokflkaaGreatDoorProg
import Derived.Test.YtfolanohokflkaaGreatDoorSvB
import Derived.Shelf.SlSortCmp.NoneTotal
import Derived.Sort.OwnSorted
import Derived.Deep.QuietTactic
import Derived.BigQuiet
import Derived.BigRegion
import Derived.WalkKit
import Derived.WalkSpells
import Derived.WalkLawsBesides
import Derived.Deep.AppendLies
import Derived.Deep.RegionLaw
namespace Go.Proofs.YtfolanohokflkaaGreatDoor
abbrev af:=List (Int×Int)
def dw (l:af) (c:Int):Bool:=l.any fun x=>decide (x.1<=c)&&decide (c<=x.2)
theorem eP (c:Int):dw [] c=false:=rfl
theorem gT (x:Int×Int) (l:af) (c:Int):dw (x::l) c=(decide (x.1<=c/\c<=x.2)||dw l c):=by
 simp [dw,Bool.decide_and]
theorem bR {x:Int×Int} {l:af} {c:Int}:dw (x::l) c=true↔(x.1<=c/\c<=x.2)\/dw l c=true:=by
 rw [gT];simp
theorem aD {n:Int}:aF n=true↔0<=n/\n<=1114111/\(n<55296\/57343<n):=by simp [aF]
def zB {α:Type} (gt:α->α->Bool) (c:α):List α->List α
 | []=>[c]
 | x::r=>if gt x c=true then c::x::r else x::zB gt c r
theorem AZ {α:Type} {gt:α->α->Bool} {c x:α}:∀ {l:List α},x∈zB gt c l↔x=c\/x∈l
 | []=>by simp [zB]
 | y::r=>by
  rw [zB]
  split
  ·simp
  ·simp [AZ (l:=r)]
   constructor
   ·rintro (h | h | h)<;>simp [h]
   ·rintro (h | h | h)<;>simp [h]
def o5 {α:Type} [BEq α] (gt:α->α->Bool) (c:α) (l:List α):List α:=if l.contains c=true then l else zB gt c l
theorem tq {α:Type} [BEq α] [LawfulBEq α] {gt:α->α->Bool} {c x:α} {l:List α}:x∈o5 gt c l↔x=c\/x∈l:=by
 unfold o5
 split
 ·rename_i h
  have h':c∈l:=by simpa using h
  constructor
  ·exact .inr
  ·rintro (rfl | h2)
   ·exact h'
   ·exact h2
 ·exact AZ
theorem rz {α:Type} {gt:α->α->Bool} (htr:∀ a b c,gt b a=true->gt c b=true->gt c a=true) {c:α} :
  ∀ {l:List α},(∀ x∈l,gt x c=true\/gt c x=true)->l.Pairwise (fun a b=>gt b a=true)->(zB gt c l).Pairwise (fun a b=>gt b a=true)
 | [],_,_=>by simp [zB]
 | y::r,hc,hp=>by
  rw [zB]
  have hp':=List.pairwise_cons.1 hp
  split
  ·rename_i h
   refine List.pairwise_cons.2 ⟨fun z hz=>?_,hp⟩
   rcases List.mem_cons.1 hz with rfl | hz
   ·exact h
   ·exact htr _ _ _ h (hp'.1 z hz)
  ·rename_i h
   refine List.pairwise_cons.2 ⟨fun z hz=>?_,rz htr (fun x hx=>hc x (List.mem_cons_of_mem _ hx)) hp'.2⟩
   rcases AZ.1 hz with rfl | hz
   ·rcases hc y (List.mem_cons_self ..) with h2 | h2
    ·exact absurd h2 h
    ·exact h2
   ·exact hp'.1 z hz
theorem uM {α:Type} {gt:α->α->Bool} (Yv:∀ a,gt a a=false) (htr:∀ a b c,gt b a=true->gt c b=true->gt c a=true) :
  ∀ {l m:List α},l.Pairwise (fun a b=>gt b a=true)->m.Pairwise (fun a b=>gt b a=true)->(∀ x,x∈l↔x∈m)->l=m
 | [],[],_,_,_=>rfl
 | [],y::m,_,_,h=>absurd ((h y).2 (List.mem_cons_self ..)) (by simp)
 | x::l,[],_,_,h=>absurd ((h x).1 (List.mem_cons_self ..)) (by simp)
 | x::l,y::m,hl,hm,h=>by
  have hl':=List.pairwise_cons.1 hl
  have hm':=List.pairwise_cons.1 hm
  have e:x=y:=by
   rcases List.mem_cons.1 ((h x).1 (List.mem_cons_self ..)) with e | e
   ·exact e
   ·rcases List.mem_cons.1 ((h y).2 (List.mem_cons_self ..)) with e2 | e2
    ·exact e2.symm
    ·have h1:=hm'.1 x e
     have h2:=hl'.1 y e2
     have h3:=htr _ _ _ h1 h2
     rw [Yv] at h3;exact absurd h3 (by simp)
  subst e
  have hx:∀ z,z∈l↔z∈m:=by
   intro z
   constructor
   ·intro hz
    rcases List.mem_cons.1 ((h z).1 (List.mem_cons_of_mem _ hz)) with e | e
    ·subst e;have h3:=hl'.1 z hz;rw [Yv] at h3;exact absurd h3 (by simp)
    ·exact e
   ·intro hz
    rcases List.mem_cons.1 ((h z).2 (List.mem_cons_of_mem _ hz)) with e | e
    ·subst e;have h3:=hm'.1 z hz;rw [Yv] at h3;exact absurd h3 (by simp)
    ·exact e
  rw [uM Yv htr hl'.2 hm'.2 hx]
def gtI (a b:Int):Bool:=decide (b<a)
theorem zQ {a b:Int}:gtI a b=true↔b<a:=by simp [gtI]
def jv (c:Int):Int:=if 55296<=c/\c<=57343 then 57344 else c
def fD (l:List Int) (c:Int):List Int:=if 1114111<jv c then l else o5 gtI (jv c) l
def uj (l:List Int):Prop:=l.Pairwise (fun a b=>gtI b a=true)
theorem F3 {l:List Int} (h:uj l) (c:Int):uj (o5 gtI c l):=by
 unfold o5
 split
 ·exact h
 ·rename_i hc
  refine rz (fun a b c h1 h2=>?_) (fun x hx=>?_) h
  ·rw [zQ] at *;omega
  ·rw [zQ,zQ]
   have:¬ x=c:=by rintro rfl;exact hc (by simpa using hx)
   omega
theorem rA {l:List Int} (h:uj l) (c:Int):uj (fD l c):=by
 unfold fD;split
 ·exact h
 ·exact F3 h _
theorem yS {l:List Int} {c x:Int}:x∈fD l c↔x∈l\/(x=jv c/\x<=1114111):=by
 unfold fD
 split
 ·constructor
  ·exact .inl
  ·rintro (h | ⟨rfl,h⟩)
   ·exact h
   ·omega
 ·rw [tq]
  constructor
  ·rintro (rfl | h)
   ·exact .inr ⟨rfl,by omega⟩
   ·exact .inl h
  ·rintro (h | ⟨rfl,h⟩)
   ·exact .inr h
   ·exact .inl rfl
theorem Ud (c:Int):c<=jv c:=by unfold jv;split<;>omega
theorem Ue {c x:Int} (hx:aF x=true) (h:c<=x):jv c<=x:=by
 rw [aD] at hx;unfold jv;split<;>omega
theorem El {c:Int} (h0:0<=c) (h:jv c<=1114111):aF (jv c)=true:=by
 rw [aD];unfold jv at *;split at h<;>omega
def Pos (a:af):Prop:=∀ x∈a,0<=x.1/\0<=x.2
def m_ (l:List Int) (a:af):List Int:=a.foldl (fun l x=>fD (fD l x.1) (x.2+1)) l
def mF (a b:af):List Int:=m_ (m_ [0] a) b
theorem oI:∀ (a:af) {l:List Int},uj l->uj (m_ l a)
 | [],_,h=>h
 | x::a,l,h=>oI a (l:=fD (fD l x.1) (x.2+1)) (rA (rA h _) _)
theorem uN:∀ (a:af) {l:List Int} {y:Int},y∈m_ l a↔y∈l\/∃ x∈a,(y=jv x.1\/y=jv (x.2+1))/\y<=1114111
 | [],l,y=>by simp [m_]
 | x::a,l,y=>by
  rw [show m_ l (x::a)=m_ (fD (fD l x.1) (x.2+1)) a from rfl,uN a,yS,yS]
  constructor
  ·rintro (((h | ⟨h1,h2⟩) | ⟨h1,h2⟩) | ⟨z,hz,h⟩)
   ·exact .inl h
   ·exact .inr ⟨x,List.mem_cons_self ..,.inl h1,h2⟩
   ·exact .inr ⟨x,List.mem_cons_self ..,.inr h1,h2⟩
   ·exact .inr ⟨z,List.mem_cons_of_mem _ hz,h⟩
  ·rintro (h | ⟨z,hz,h1,h2⟩)
   ·exact .inl (.inl (.inl h))
   ·rcases List.mem_cons.1 hz with rfl | hz
    ·rcases h1 with h1 | h1
     ·exact .inl (.inl (.inr ⟨h1,h2⟩))
     ·exact .inl (.inr ⟨h1,h2⟩)
    ·exact .inr ⟨z,hz,h1,h2⟩
theorem o6 {a b:af} {y:Int}:y∈mF a b↔y=0\/(∃ x∈a,(y=jv x.1\/y=jv (x.2+1))/\y<=1114111)\/∃ x∈b,(y=jv x.1\/y=jv (x.2+1))/\y<=1114111:=by
 rw [mF,uN,uN,or_assoc];simp
theorem iX (a b:af):uj (mF a b):=oI _ (oI _ (by simp [uj]))
theorem kZ {a b:af} (ha:Pos a) (hb:Pos b):∀ y∈mF a b,aF y=true:=by
 intro y hy
 have key:∀ l:af,Pos l->(∃ x∈l,(y=jv x.1\/y=jv (x.2+1))/\y<=1114111)->aF y=true:=by
  rintro l hl ⟨x,hx,rfl | rfl,h⟩
  ·exact El (hl x hx).1 h
  ·exact El (by have:=(hl x hx).2;omega) h
 rcases o6.1 hy with rfl | h | h
 ·decide
 ·exact key a ha h
 ·exact key b hb h
theorem ng {x:Int} {r:List Int} (h:uj (x::r)):∀ y∈r,x<y:=fun y hy=>zQ.1 ((List.pairwise_cons.1 h).1 y hy)
theorem iK {x:Int} {r:List Int} (h:uj (x::r)):uj r:=(List.pairwise_cons.1 h).2
def Hq:List Int->Int->Int
 | [],c=>c
 | [x],_=>x
 | x::y::r,c=>if y<=c then Hq (y::r) c else x
theorem Ir:∀ (l:List Int) (c:Int),uj l->(∃ x r,l=x::r/\x<=c)->Hq l c∈l/\Hq l c<=c/\∀ y∈l,y<=c->y<=Hq l c
 | [],_,_,h=>by obtain ⟨x,r,h,_⟩:=h;cases h
 | [x],c,_,h=>by
  obtain ⟨x',r,e,hx⟩:=h
  cases e
  exact ⟨by simp [Hq],hx,fun y hy _=>by simp at hy;simp [Hq,hy]⟩
 | x::y::r,c,hs,h=>by
  obtain ⟨x',r',e,hx⟩:=h
  cases e
  rw [Hq]
  have h1:=ng hs
  split
  ·rename_i hy
   obtain ⟨h2,h3,h4⟩:=Ir (y::r) c (iK hs) ⟨y,r,rfl,hy⟩
   refine ⟨List.mem_cons_of_mem _ h2,h3,fun z hz hzc=>?_⟩
   rcases List.mem_cons.1 hz with rfl | hz
   ·have:=h4 y (List.mem_cons_self ..) hy
    have:=h1 y (List.mem_cons_self ..)
    omega
   ·exact h4 z hz hzc
  ·rename_i hy
   refine ⟨List.mem_cons_self ..,hx,fun z hz hzc=>?_⟩
   rcases List.mem_cons.1 hz with rfl | hz
   ·exact Int.le_refl _
   ·rcases List.mem_cons.1 hz with rfl | hz
    ·exact absurd hzc hy
    ·have:=ng (iK hs) z hz
     omega
theorem Em {l:List Int} (hs:uj l) (h0:0∈l) (hp:∀ y∈l,0<=y):∃ r,l=0::r:=by
 cases l with
 | nil=>simp at h0
 | cons x r=>
  rcases List.mem_cons.1 h0 with h | h
  ·exact ⟨r,by rw [h]⟩
  ·have:=ng hs 0 h
   have:=hp x (List.mem_cons_self ..)
   omega
theorem OB {a:af} {l:List Int} (hs:uj l) (h0:∃ x r,l=x::r/\x<=0) (hl:∀ y∈l,aF y=true)
  (hc:∀ x∈a,∀ y,y=jv x.1\/y=jv (x.2+1)->y<=1114111->y∈l) {c:Int} (hy:aF c=true):dw a c=dw a (Hq l c):=by
 have hc0:=aD.1 hy
 obtain ⟨h1,h2,h3⟩:=Ir l c hs (by obtain ⟨x,r,e,h⟩:=h0;exact ⟨x,r,e,by omega⟩)
 have hsy:=hl _ h1
 have key:∀ x∈a,(x.1<=c/\c<=x.2)↔(x.1<=Hq l c/\Hq l c<=x.2):=by
  intro x hx
  have up:∀ z:Int,(∀ y,y=jv z->y<=1114111->y∈l)->(z<=c↔z<=Hq l c):=by
   intro z hz
   constructor
   ·intro hzc
    have h4:=Ue hy hzc
    have h5:=hz _ rfl (by omega)
    have:=h3 _ h5 h4
    have:=Ud z
    omega
   ·intro h;omega
  have u1:=up x.1 (fun y e=>hc x hx y (.inl e))
  have u2:=up (x.2+1) (fun y e=>hc x hx y (.inr e))
  omega
 unfold dw
 rw [Bool.eq_iff_iff,List.any_eq_true,List.any_eq_true]
 constructor
 ·rintro ⟨x,hx,h⟩;exact ⟨x,hx,by have:=key x hx;simp at h ⊢;omega⟩
 ·rintro ⟨x,hx,h⟩;exact ⟨x,hx,by have:=key x hx;simp at h ⊢;omega⟩
theorem rC {a b:af} (ha:Pos a) (hb:Pos b) {c:Int} (hy:aF c=true):dw a c=dw a (Hq (mF a b) c)/\dw b c=dw b (Hq (mF a b) c):=by
 have hs:=iX a b
 have hl:=kZ ha hb
 obtain ⟨r,hr⟩:=Em hs (o6.2 (.inl rfl)) (fun y h=>(aD.1 (hl y h)).1)
 have h0:∃ x r,mF a b=x::r/\x<=0:=⟨0,r,hr,Int.le_refl _⟩
 exact ⟨OB hs h0 hl (fun x hx y h1 h2=>o6.2 (.inr (.inl ⟨x,hx,h1,h2⟩))) hy,OB hs h0 hl (fun x hx y h1 h2=>o6.2 (.inr (.inr ⟨x,hx,h1,h2⟩))) hy⟩
def vR:List Int->Int
 | []=>1114111
 | y::_=>if y - 1=57343 then 55295 else y - 1
def qK (p:Int->Bool):List Int->Bool
 | []=>false
 | y::_=>p y
def o7 (x h:Int) (b:Bool) (l:af):af:=match b,l with
 | true,z::q=>(x,z.2)::q
 | _,l=>(x,h)::l
def gU (p:Int->Bool):List Int->af
 | []=>[]
 | x::r=>if p x=true then o7 x (vR r) (qK p r) (gU p r) else gU p r
def kD (h:Int):Int:=if h=55295 then 57344 else h+1
def eD (m:Int):af->Prop
 | []=>True
 | x::r=>m<x.1/\aF x.1=true/\aF x.2=true/\x.1<=x.2/\eD (kD x.2) r
abbrev Tidy (l:af):Prop:=eD (-1) l
theorem eD.ge {m c:Int}:∀ {l:af},eD m l->dw l c=true->m<c
 | [],_,h=>by simp [dw] at h
 | x::r,h,hc=>by
  rcases bR.1 hc with h1 | h1
  ·have:=h.1;omega
  ·have h2:=h.2.2.2.2.ge h1
   have:x.2<kD x.2:=by unfold kD;split<;>omega
   have:=h.1
   have:=h.2.2.2.1
   omega
theorem eD.pos {m:Int}:∀ {l:af},eD m l->Pos l
 | [],_=>fun x h=>by simp at h
 | y::r,h=>fun x hx=>by
  rcases List.mem_cons.1 hx with rfl | hx
  ·exact ⟨(aD.1 h.2.1).1,(aD.1 h.2.2.1).1⟩
  ·exact h.2.2.2.2.pos x hx
theorem OC {h y:Int} (hh:aF h=true) (hy:aF y=true) (hlt:h<y):aF (kD h)=true/\kD h<=y/\h<kD h:=by
 rw [aD] at *;unfold kD;split<;>omega
theorem iL:∀ {m n:Int} {a b:af},eD m a->eD n b->(∀ c,aF c=true->dw a c=dw b c)->a=b
 | _,_,[],[],_,_,_=>rfl
 | _,_,[],y::b,_,hb,h=>by
  have:=h y.1 hb.2.1
  rw [eP,gT] at this
  simp [hb.2.2.2.1] at this
 | _,_,x::a,[],ha,_,h=>by
  have:=h x.1 ha.2.1
  rw [eP,gT] at this
  simp [ha.2.2.2.1] at this
 | _,_,x::a,y::b,ha,hb,h=>by
  have xin:dw (x::a) x.1=true:=bR.2 (.inl ⟨Int.le_refl _,ha.2.2.2.1⟩)
  have yin:dw (y::b) y.1=true:=bR.2 (.inl ⟨Int.le_refl _,hb.2.2.2.1⟩)
  have lo:∀ {m:Int} {z:Int×Int} {l:af} {c:Int},eD m (z::l)->dw (z::l) c=true->z.1<=c:=by
   intro m z l c hz hc
   rcases bR.1 hc with h1 | h1
   ·exact h1.1
   ·have:=hz.2.2.2.2.ge h1
    have:z.2<kD z.2:=by unfold kD;split<;>omega
    have:=hz.2.2.2.1
    omega
  have e1:x.1=y.1:=by
   have h1:=lo hb (by rw [<-h x.1 ha.2.1];exact xin)
   have h2:=lo ha (by rw [h y.1 hb.2.1];exact yin)
   omega
  have no:∀ {m:Int} {z:Int×Int} {l:af} {c:Int},eD m (z::l)->z.2<c->c<=kD z.2->¬ dw (z::l) c=true:=by
   intro m z l c hz h1 h2 hc
   rcases bR.1 hc with h3 | h3
   ·omega
   ·have:=hz.2.2.2.2.ge h3
    omega
  have e2:x.2=y.2:=by
   rcases Int.lt_trichotomy x.2 y.2 with hlt | he | hgt
   ·obtain ⟨h1,h2,h3⟩:=OC ha.2.2.1 hb.2.2.1 hlt
    refine absurd ?_ (no ha h3 (Int.le_refl _))
    rw [h _ h1]
    exact bR.2 (.inl ⟨by have:=ha.2.2.2.1;omega,h2⟩)
   ·exact he
   ·obtain ⟨h1,h2,h3⟩:=OC hb.2.2.1 ha.2.2.1 hgt
    refine absurd ?_ (no hb h3 (Int.le_refl _))
    rw [<-h _ h1]
    exact bR.2 (.inl ⟨by have:=hb.2.2.2.1;omega,h2⟩)
  have e:x=y:=Prod.ext e1 e2
  subst e
  have hr:∀ c,aF c=true->dw a c=dw b c:=by
   intro c hc
   have h1:=h c hc
   rw [gT,gT] at h1
   by_cases hin:x.1<=c/\c<=x.2
   ·have g:∀ {l:af},eD (kD x.2) l->dw l c=false:=by
     intro l hl
     cases hb2:dw l c with
     | false=>rfl
     | true=>
      have:=hl.ge hb2
      have:x.2<kD x.2:=by unfold kD;split<;>omega
      omega
    rw [g ha.2.2.2.2,g hb.2.2.2.2]
   ·simpa [hin] using h1
  rw [iL ha.2.2.2.2 hb.2.2.2.2 hr]
theorem uO {p:Int->Bool} {y:Int} {r:List Int} (h:p y=true):∃ z q,gU p (y::r)=(y,z)::q:=by
 rw [gU,if_pos h]
 unfold o7
 split
 ·exact ⟨_,_,rfl⟩
 ·exact ⟨_,_,rfl⟩
theorem lg (p:Int->Bool):∀ (l:List Int) (m:Int),uj l->(∀ y∈l,aF y=true)->(∀ y∈l,m<y)->eD m (gU p l)
 | [],_,_,_,_=>trivial
 | x::r,m,hs,hy,hm=>by
  rw [gU]
  have hx:=ng hs
  have hr:∀ y∈r,aF y=true:=fun y h=>hy y (List.mem_cons_of_mem _ h)
  have hmx:=hm x (List.mem_cons_self ..)
  have hxs:=hy x (List.mem_cons_self ..)
  split
  ·cases r with
   | nil=>exact ⟨hmx,hxs,by show aF 1114111=true;decide,by show x<=1114111;have:=aD.1 hxs;omega,trivial⟩
   | cons y r=>
    have hxy:=hx y (List.mem_cons_self ..)
    have hys:=aD.1 (hr y (List.mem_cons_self ..))
    have hxs':=aD.1 hxs
    cases hp:p y with
    | true=>
     have ih:=lg p (y::r) x (iK hs) hr hx
     obtain ⟨z,q,e⟩:=uO (r:=r) hp
     rw [e] at ih ⊢
     rw [show qK p (y::r)=true from hp]
     exact ⟨hmx,hxs,ih.2.2.1,by show x<=z;have:=ih.2.2.2.1;simp at this;omega,ih.2.2.2.2⟩
    | false=>
     have ih:=lg p r y (iK (iK hs)) (fun z h=>hr z (List.mem_cons_of_mem _ h)) (ng (iK hs))
     rw [show qK p (y::r)=false from hp,gU,if_neg (by rw [hp];decide)]
     have e1:kD (vR (y::r))=y:=by simp only [vR,kD];split<;>split<;>omega
     refine ⟨hmx,hxs,?_,?_,?_⟩
     ·show aF (vR (y::r))=true
      rw [aD];simp only [vR];split<;>omega
     ·show x<=vR (y::r)
      simp only [vR];split<;>omega
     ·show eD (kD (vR (y::r))) _
      rw [e1];exact ih
  ·exact lg p r m (iK hs) hr (fun y h=>hm y (List.mem_cons_of_mem _ h))
theorem vS (p:Int->Bool):∀ (l:List Int) (c:Int),uj l->(∀ y∈l,aF y=true)->aF c=true->(∃ x r,l=x::r/\x<=c)->dw (gU p l) c=p (Hq l c)
 | [],_,_,_,_,h=>by obtain ⟨x,r,h,_⟩:=h;cases h
 | [x],c,_,_,hc,h=>by
  obtain ⟨x',r,e,hx⟩:=h
  cases e
  rw [Hq,gU]
  have:=aD.1 hc
  split
  ·rename_i hp
   rw [hp]
   exact bR.2 (.inl ⟨hx,by show c<=1114111;omega⟩)
  ·rename_i hp
   simp [gU,dw]
   simpa using hp
 | x::y::r,c,hs,hy,hc,h=>by
  obtain ⟨x',r',e,hx⟩:=h
  cases e
  have hxy:=ng hs y (List.mem_cons_self ..)
  have hr:∀ z∈y::r,aF z=true:=fun z h=>hy z (List.mem_cons_of_mem _ h)
  have hcs:=aD.1 hc
  have hys:=aD.1 (hr y (List.mem_cons_self ..))
  rw [Hq]
  by_cases hyc:y<=c
  ·rw [if_pos hyc,<-vS p (y::r) c (iK hs) hr hc ⟨y,r,rfl,hyc⟩]
   rw [gU]
   split
   ·cases hp:p y with
    | true=>
     obtain ⟨z,q,e⟩:=uO (r:=r) hp
     rw [e,show qK p (y::r)=true from hp]
     show dw ((x,z)::q) c=_
     rw [gT,gT]
     have hiff:(x<=c/\c<=z)↔(y<=c/\c<=z):=by omega
     simp only [hiff]
    | false=>
     rw [show qK p (y::r)=false from hp]
     show dw ((x,vR (y::r))::gU p (y::r)) c=_
     rw [gT]
     have:vR (y::r)<c:=by simp only [vR];split<;>omega
     simp;omega
   ·rfl
  ·rw [if_neg hyc]
   have hbelow:dw (gU p (y::r)) c=false:=by
    cases hb:dw (gU p (y::r)) c with
    | false=>rfl
    | true=>
     have:=(lg p (y::r) (y - 1) (iK hs) hr (fun z hz=>by
      rcases List.mem_cons.1 hz with rfl | hz
      ·omega
      ·have:=ng (iK hs) z hz;omega)).ge hb
     omega
   rw [gU]
   split
   ·rename_i hpx
    rw [hpx]
    cases hp:p y with
    | true=>
     have ht:=lg p (y::r) (-1) (iK hs) hr (fun z hz=>by have:=aD.1 (hr z hz);omega)
     obtain ⟨z,q,e⟩:=uO (r:=r) hp
     rw [e] at ht ⊢
     rw [show qK p (y::r)=true from hp]
     exact bR.2 (.inl ⟨hx,by have:=ht.2.2.2.1;simp at this;show c<=z;omega⟩)
    | false=>
     rw [show qK p (y::r)=false from hp]
     exact bR.2 (.inl ⟨hx,by show c<=vR (y::r);simp only [vR];split<;>omega⟩)
   ·rename_i hpx
    rw [hbelow];simpa using hpx
def qR (a b:af):af:=gU (fun x=>dw a x||dw b x) (mF a b)
def Iu (a b:af):af:=gU (fun x=>dw a x&&dw b x) (mF a b)
def fE (a:af):af:=gU (fun x=>!dw a x) (mF a [])
theorem xM {a b:af} (ha:Pos a) (hb:Pos b) {c:Int} (hc:aF c=true):∃ x r,mF a b=x::r/\x<=c:=by
 obtain ⟨r,hr⟩:=Em (iX a b) (o6.2 (.inl rfl)) (fun y h=>(aD.1 (kZ ha hb y h)).1)
 exact ⟨0,r,hr,(aD.1 hc).1⟩
theorem og {a b:af} (ha:Pos a) (hb:Pos b) {c:Int} (hc:aF c=true):dw (qR a b) c=(dw a c||dw b c):=by
 rw [qR,vS _ _ c (iX a b) (kZ ha hb) hc (xM ha hb hc),<-(rC ha hb hc).1,<-(rC ha hb hc).2]
theorem vT {a b:af} (ha:Pos a) (hb:Pos b) {c:Int} (hc:aF c=true):dw (Iu a b) c=(dw a c&&dw b c):=by
 rw [Iu,vS _ _ c (iX a b) (kZ ha hb) hc (xM ha hb hc),<-(rC ha hb hc).1,<-(rC ha hb hc).2]
theorem oh:Pos []:=fun x h=>by simp at h
theorem kE {a:af} (ha:Pos a) {c:Int} (hc:aF c=true):dw (fE a) c=!dw a c:=by
 rw [fE,vS _ _ c (iX a []) (kZ ha oh) hc (xM ha oh hc),<-(rC ha oh hc).1]
theorem F4 {a b:af} (ha:Pos a) (hb:Pos b) (p:Int->Bool):Tidy (gU p (mF a b)):=
 lg _ _ _ (iX a b) (kZ ha hb) (fun y hy=>by have:=aD.1 (kZ ha hb y hy);omega)
theorem iY {a b:af} (ha:Pos a) (hb:Pos b):Tidy (qR a b):=F4 ha hb _
theorem xN {a b:af} (ha:Pos a) (hb:Pos b):Tidy (Iu a b):=F4 ha hb _
theorem dC {a:af} (ha:Pos a):Tidy (fE a):=F4 ha oh _
def aa5 {α:Type} (gt:α->α->Bool) (c:α) (l:List α):Bool:=l.any fun x=>gt x c
def mAt {α:Type} (gt:α->α->Bool) (c:α) (l:List α):List α:=if aa5 gt c l=true then zB gt c l else l
theorem Yw {α:Type} (gt:α->α->Bool) (c:α) (l:List α):(mAt gt c l).length<=l.length+1:=by
 have h:=A7 gt c l
 unfold mAt;split<;>omega
where A7 {α:Type} (gt:α->α->Bool) (c:α):∀ l:List α,(zB gt c l).length=l.length+1
 | []=>rfl
 | x::l=>by rw [zB];split<;>simp [A7 gt c l]
theorem yT (l:List Int) (c:Int):(fD l c).length<=l.length+1:=by
 unfold fD
 split
 ·omega
 ·unfold o5
  split
  ·omega
  ·rw [Yw.A7];omega
theorem uP:∀ (a:af) (l:List Int),(m_ l a).length<=l.length+2*a.length
 | [],l=>by simp [m_]
 | x::a,l=>by
  have h1:=yT l x.1
  have h2:=yT (fD l x.1) (x.2+1)
  have h3:=uP a (fD (fD l x.1) (x.2+1))
  rw [List.length_cons]
  show (m_ (fD (fD l x.1) (x.2+1)) a).length<=_
  omega
theorem QY (a b:af):(mF a b).length<=1+2*(a.length+b.length):=by
 have h1:=uP b (m_ [0] a)
 have h2:=uP a [0]
 unfold mF
 simp at h2
 omega
theorem F5 (x h:Int) (b:Bool) (l:af):(o7 x h b l).length<=l.length+1:=by
 unfold o7;split<;>simp
theorem En (p:Int->Bool):∀ l:List Int,2*(gU p l).length<=l.length+(if qK p l=true then 1 else 0)
 | []=>by simp [gU]
 | x::r=>by
  have ih:=En p r
  rw [gU,List.length_cons]
  by_cases hx:p x=true
  ·rw [if_pos hx,show qK p (x::r)=true from hx,if_pos rfl]
   cases hr:qK p r with
   | true=>
    rw [hr,if_pos rfl] at ih
    cases ht:gU p r with
    | nil=>simp [o7]
    | cons z q=>rw [ht] at ih;simp [o7] at ih ⊢;omega
   | false=>
    rw [hr,if_neg (by decide)] at ih
    have:=F5 x (vR r) false (gU p r)
    omega
  ·rw [if_neg hx]
   have:qK p (x::r)=false:=by simpa [qK] using hx
   rw [this,if_neg (by decide)]
   split at ih<;>omega
theorem aa6 {a b:af} {p:Int->Bool}:(gU p (mF a b)).length<=a.length+b.length+1:=by
 have h1:=En p (mF a b)
 have h2:=QY a b
 split at h1<;>omega
theorem Uf (a b:af):(qR a b).length<=a.length+b.length+1:=aa6
def Iw (l:List (Int×Int)):Prop:=l.Pairwise fun a b=>a.1<=b.1
def jw (p:Int×Int):Prop:=aF p.1=true/\aF p.2=true/\p.1<=p.2
def lX (acc:af) (p:Int×Int):af:=match acc.getLast? with
 | some x=>if p.1<=kD x.2 then acc.dropLast++[(x.1,max x.2 p.2)] else acc++[p]
 | none=>acc++[p]
def gz (l:af):af:=l.foldl lX []
theorem xO (p:Int×Int):lX [] p=[p]:=rfl
theorem lh (L:af) (x p:Int×Int):lX (L++[x]) p=if p.1<=kD x.2 then L++[(x.1,max x.2 p.2)] else L++[x]++[p]:=by
 unfold lX
 rw [List.getLast?_concat]
 simp only [List.dropLast_concat]
def vU (m:Int):af->Int
 | []=>m
 | x::l=>vU (kD x.2) l
theorem mH:∀ {m:Int} {l r:af},eD m (l++r)↔eD m l/\eD (vU m l) r
 | m,[],r=>by simp [eD,vU]
 | m,x::l,r=>by
  rw [List.cons_append]
  show (m<x.1/\aF x.1=true/\aF x.2=true/\x.1<=x.2/\eD (kD x.2) (l++r))↔(m<x.1/\aF x.1=true/\aF x.2=true/\x.1<=x.2/\eD (kD x.2) l)/\eD (vU (kD x.2) l) r
  rw [mH]
  constructor
  ·rintro ⟨h1,h2,h3,h4,h5,h6⟩;exact ⟨⟨h1,h2,h3,h4,h5⟩,h6⟩
  ·rintro ⟨⟨h1,h2,h3,h4,h5⟩,h6⟩;exact ⟨h1,h2,h3,h4,h5,h6⟩
theorem ll (a b:af) (c:Int):dw (a++b) c=(dw a c||dw b c):=by simp [dw]
theorem step_ok {acc:af} {p:Int×Int} (ht:Tidy acc) (hp:jw p) (hlo:∀ x∈acc,x.1<=p.1):Tidy (lX acc p)/\(∀ c,aF c=true->dw (lX acc p) c=(dw acc c||dw [p] c))/\∀ x∈lX acc p,x.1<=p.1:=by
 rcases List.eq_nil_or_concat acc with rfl | ⟨L,x,rfl⟩
 ·rw [xO]
  refine ⟨⟨by show (-1:Int)<p.1;have:=aD.1 hp.1;omega,hp.1,hp.2.1,hp.2.2,trivial⟩,fun c _=>by simp [dw],fun x hx=>by simp at hx;subst hx;exact Int.le_refl _⟩
 ·simp only [List.concat_eq_append] at *
  have hx1:=hlo x (by simp)
  rw [lh]
  obtain ⟨tL,tx⟩:=mH.1 ht
  split
  ·rename_i hle
   have hmax:aF (max x.2 p.2)=true:=by
    rcases Int.le_total x.2 p.2 with h | h
    ·rw [Int.max_eq_right h];exact hp.2.1
    ·rw [Int.max_eq_left h];exact tx.2.2.1
   refine ⟨mH.2 ⟨tL,tx.1,tx.2.1,hmax,by show x.1<=max x.2 p.2;have:=tx.2.2.2.1;omega,trivial⟩,fun c hc=>?_,fun y hy=>?_⟩
   ·rw [ll,ll,Bool.or_assoc]
    congr 1
    have hcs:=aD.1 hc
    have hxs:=aD.1 tx.2.2.1
    have hab:∀ c,aF c=true->x.2<c->kD x.2<=c:=by
     intro c hc h;have:=aD.1 hc;unfold kD;split<;>omega
    have key:(x.1<=c/\c<=max x.2 p.2)↔(x.1<=c/\c<=x.2)\/(p.1<=c/\c<=p.2):=by
     constructor
     ·rintro ⟨h1,h2⟩
      by_cases h3:c<=x.2
      ·exact .inl ⟨h1,h3⟩
      ·have:=hab c hc (by omega)
       exact .inr ⟨by omega,by omega⟩
     ·rintro (⟨h1,h2⟩ | ⟨h1,h2⟩)
      ·exact ⟨h1,by omega⟩
      ·exact ⟨by omega,by omega⟩
    rw [Bool.eq_iff_iff,Bool.or_eq_true,bR,bR,bR]
    simp only [eP,Bool.false_eq_true,or_false]
    exact key
   ·rcases List.mem_append.1 hy with hy | hy
    ·exact hlo y (List.mem_append_left _ hy)
    ·simp at hy;subst hy;exact hx1
  ·rename_i hgt
   have e:vU (-1) (L++[x])=kD x.2:=by
    clear hlo ht tL tx hgt hx1
    generalize (-1:Int)=m
    induction L generalizing m with
    | nil=>rfl
    | cons y L ih=>exact ih _
   refine ⟨mH.2 ⟨ht,by rw [e];exact ⟨by omega,hp.1,hp.2.1,hp.2.2,trivial⟩⟩,fun c _=>ll _ _ _,fun y hy=>?_⟩
   rcases List.mem_append.1 hy with hy | hy
   ·exact hlo y hy
   ·simp at hy;subst hy;exact Int.le_refl _
theorem F6:∀ (l:af) {acc:af},Tidy acc->(∀ p∈l,jw p)->Iw l->(∀ x∈acc,∀ p∈l,x.1<=p.1)->Tidy (l.foldl lX acc)/\∀ c,aF c=true->dw (l.foldl lX acc) c=(dw acc c||dw l c)
 | [],acc,ht,_,_,_=>⟨ht,fun c _=>by simp [dw]⟩
 | p::l,acc,ht,hp,hs,hlo=>by
  have hs':=List.pairwise_cons.1 hs
  obtain ⟨h1,h2,h3⟩:=step_ok ht (hp p (List.mem_cons_self ..)) (fun x hx=>hlo x hx p (List.mem_cons_self ..))
  obtain ⟨h4,h5⟩:=F6 l h1 (fun q hq=>hp q (List.mem_cons_of_mem _ hq)) hs'.2 (fun x hx q hq=>by
   have:=h3 x hx
   have:=hs'.1 q hq
   omega)
  refine ⟨h4,fun c hc=>?_⟩
  rw [List.foldl_cons,h5 c hc,h2 c hc,Bool.or_assoc]
  congr 1
  rw [show p::l=[p]++l from rfl,ll]
theorem Ug {a b:af} (h:a.Perm b) (c:Int):dw a c=dw b c:=by
 unfold dw
 rw [Bool.eq_iff_iff,List.any_eq_true,List.any_eq_true]
 exact ⟨fun ⟨x,hx,h1⟩=>⟨x,h.mem_iff.1 hx,h1⟩,fun ⟨x,hx,h1⟩=>⟨x,h.mem_iff.2 hx,h1⟩⟩
theorem lY {l:af} (h:∀ p∈l,jw p):Pos l:=fun x hx=>⟨(aD.1 (h x hx).1).1,(aD.1 (h x hx).2.1).1⟩
def iM (ps:af):af:=qR [] ps
theorem iN {ps:af} (h:Pos ps):Tidy (iM ps):=iY oh h
theorem o8 {ps:af} (h:Pos ps) {c:Int} (hc:aF c=true):dw (iM ps) c=dw ps c:=by rw [iM,og oh h hc];rfl
theorem Iy {ps ts:af} (hg:∀ p∈ps,jw p) (hp:ts.Perm ps) (hs:Iw ts):gz ts=iM ps:=by
 have hgt:∀ p∈ts,jw p:=fun p h=>hg p (hp.mem_iff.1 h)
 obtain ⟨h1,h2⟩:=F6 ts (acc:=[]) trivial hgt hs (by simp)
 refine iL h1 (iN (lY hg)) fun c hc=>?_
 rw [show gz ts=ts.foldl lX [] from rfl,h2 c hc,o8 (lY hg) hc,eP,Bool.false_or,Ug hp]
theorem Ml (l:af) (p:Int×Int):gz (l++[p])=lX (gz l) p:=by simp [gz]
theorem Uh (acc:af) (p:Int×Int):(lX acc p).length<=acc.length+1:=by
 rcases List.eq_nil_or_concat acc with rfl | ⟨L,x,rfl⟩
 ·simp [xO]
 ·simp only [List.concat_eq_append]
  rw [lh];split<;>simp
theorem Iz:∀ (l acc:af),(l.foldl lX acc).length<=acc.length+l.length
 | [],_=>by simp
 | p::l,acc=>by
  have:=Iz l (lX acc p)
  have:=Uh acc p
  rw [List.foldl_cons,List.length_cons];omega
theorem QZ (l:af):(gz l).length<=l.length:=by have:=Iz l [];simpa [gz] using this
def bD:af->List Int
 | []=>[]
 | x::l=>x.1::x.2::bD l
theorem mI (a b:af):bD (a++b)=bD a++bD b:=by
 induction a with
 | nil=>rfl
 | cons x a ih=>simp [bD,ih]
theorem fF (a:af):(bD a).length=a.length*2:=by
 induction a with
 | nil=>rfl
 | cons x a ih=>simp [bD,ih];omega
def encS (l:af):ByteArray:=runesBytes (bD l)
theorem Yx (pre e post:ByteArray) (k:Nat) (h:k<e.size):(pre++e++post).get! (pre.size+k)=e.get! k:=by
 have h1:pre.size+k<(pre++e++post).size:=by rw [ByteArray.size_append,ByteArray.size_append];omega
 have h2:pre.size+k<(pre++e).size:=by rw [ByteArray.size_append];omega
 rw [Au _ _ h1,Au _ _ h,ByteArray.getElem_append_left h2,ByteArray.getElem_append_right (by omega)]
 congr 1
 omega
theorem ofNat_toNat {n:Nat} (h:n<256):(UInt8.ofNat n).toNat=n:=UInt8.toNat_ofNat_of_lt' h
theorem Q0 {c:Int} (hc:aF c=true):Utf8.valid c=true:=by
 have:=aD.1 hc
 simp only [Utf8.valid,Bool.or_eq_true,Bool.and_eq_true,decide_eq_true_eq];omega
theorem encode_decode (c:Int) (hc:aF c=true) (pre post:ByteArray):Utf8.decode (pre++Utf8.encode c++post) pre.size=(c.toNat,(Utf8.encode c).size):=by
 obtain ⟨n,rfl⟩:=Int.eq_ofNat_of_zero_le (aD.1 hc).1
 have hn:=aD.1 hc
 have hv:=Q0 hc
 have hsz:∀ k,k<(Utf8.encode (n:Int)).size->pre.size+k<(pre++Utf8.encode (n:Int)++post).size:=by
  intro k hk;rw [ByteArray.size_append,ByteArray.size_append];omega
 have hg:=fun k h=>Yx pre (Utf8.encode (n:Int)) post k h
 have d1:n / 64 / 64=n / 4096:=by rw [Nat.div_div_eq_div_mul]
 have d2:n / 4096 / 64=n / 262144:=by rw [Nat.div_div_eq_div_mul]
 rw [Int.toNat_natCast]
 have hE:Utf8.encode (n:Int)=if n<128 then ⟨#[UInt8.ofNat n]⟩ else if n<2048 then ⟨#[UInt8.ofNat (192+n / 64),UInt8.ofNat (128+n % 64)]⟩ else if n<65536 then ⟨#[UInt8.ofNat (224+n / 4096),UInt8.ofNat (128+n / 64 % 64),UInt8.ofNat (128+n % 64)]⟩ else ⟨#[UInt8.ofNat (240+n / 262144),UInt8.ofNat (128+n / 4096 % 64),UInt8.ofNat (128+n / 64 % 64),UInt8.ofNat (128+n % 64)]⟩:=by
  unfold Utf8.encode
  rw [hv]
  simp
 by_cases h1:n<128
 ·rw [if_pos h1] at hE
  rw [hE] at hg hsz ⊢
  have g0:=hg 0 (show 0<1 by decide)
  rw [Nat.add_zero] at g0
  have t0:((pre++(⟨#[UInt8.ofNat n]⟩:ByteArray)++post).get! pre.size).toNat=n:=by rw [g0];show (UInt8.ofNat n).toNat=n;exact ofNat_toNat (by omega)
  unfold Utf8.decode
  simp only [Nat.add_zero,t0]
  rw [if_pos h1];rfl
 ·rw [if_neg h1] at hE
  by_cases h2:n<2048
  ·rw [if_pos h2] at hE
   rw [hE] at hg hsz ⊢
   have g0:=hg 0 (by decide:0<2)
   have g1:=hg 1 (by decide:1<2)
   have s1:=hsz 1 (by decide:1<2)
   rw [Nat.add_zero] at g0
   generalize hS:pre++(⟨#[UInt8.ofNat (192+n / 64),UInt8.ofNat (128+n % 64)]⟩:ByteArray)++post=S at *
   have t0:(S.get! pre.size).toNat=192+n / 64:=by rw [g0];show (UInt8.ofNat (192+n / 64)).toNat=_;exact ofNat_toNat (by omega)
   have t1:(S.get! (pre.size+1)).toNat=128+n % 64:=by rw [g1];show (UInt8.ofNat (128+n % 64)).toNat=_;exact ofNat_toNat (by omega)
   unfold Utf8.decode
   simp only [Nat.add_zero,t0,t1,s1,decide_true,Bool.true_and,Bool.and_eq_true,beq_iff_eq]
   rw [if_neg (by omega),if_pos (by omega),if_pos (by omega)]
   exact Prod.ext (by show (192+n / 64) % 32*64+(128+n % 64) % 64=n;omega) rfl
  ·rw [if_neg h2] at hE
   by_cases h3:n<65536
   ·rw [if_pos h3] at hE
    rw [hE] at hg hsz ⊢
    have g0:=hg 0 (by decide:0<3)
    have g1:=hg 1 (by decide:1<3)
    have g2:=hg 2 (by decide:2<3)
    have s1:=hsz 1 (by decide:1<3)
    have s2:=hsz 2 (by decide:2<3)
    rw [Nat.add_zero] at g0
    generalize hS:pre++(⟨#[UInt8.ofNat (224+n / 4096),UInt8.ofNat (128+n / 64 % 64),UInt8.ofNat (128+n % 64)]⟩:ByteArray)++post=S at *
    have t0:(S.get! pre.size).toNat=224+n / 4096:=by rw [g0];show (UInt8.ofNat (224+n / 4096)).toNat=_;exact ofNat_toNat (by omega)
    have t1:(S.get! (pre.size+1)).toNat=128+n / 64 % 64:=by rw [g1];show (UInt8.ofNat (128+n / 64 % 64)).toNat=_;exact ofNat_toNat (by omega)
    have t2:(S.get! (pre.size+2)).toNat=128+n % 64:=by rw [g2];show (UInt8.ofNat (128+n % 64)).toNat=_;exact ofNat_toNat (by omega)
    have ev:(224+n / 4096) % 16*4096+(128+n / 64 % 64) % 64*64+(128+n % 64) % 64=n:=by omega
    unfold Utf8.decode
    simp only [Nat.add_zero,t0,t1,t2,s1,s2,decide_true,Bool.true_and,Bool.and_eq_true,beq_iff_eq,ev,hv,decide_eq_true_eq,and_true,ge_iff_le]
    rw [if_neg (by omega),if_neg (by omega),if_pos (by omega),if_pos (by omega)]
    rfl
   ·rw [if_neg h3] at hE
    rw [hE] at hg hsz ⊢
    have g0:=hg 0 (by decide:0<4)
    have g1:=hg 1 (by decide:1<4)
    have g2:=hg 2 (by decide:2<4)
    have g3:=hg 3 (by decide:3<4)
    have s1:=hsz 1 (by decide:1<4)
    have s2:=hsz 2 (by decide:2<4)
    have s3:=hsz 3 (by decide:3<4)
    rw [Nat.add_zero] at g0
    generalize hS:pre++(⟨#[UInt8.ofNat (240+n / 262144),UInt8.ofNat (128+n / 4096 % 64),UInt8.ofNat (128+n / 64 % 64),UInt8.ofNat (128+n % 64)]⟩:ByteArray)++post=S at *
    have t0:(S.get! pre.size).toNat=240+n / 262144:=by rw [g0];show (UInt8.ofNat (240+n / 262144)).toNat=_;exact ofNat_toNat (by omega)
    have t1:(S.get! (pre.size+1)).toNat=128+n / 4096 % 64:=by rw [g1];show (UInt8.ofNat (128+n / 4096 % 64)).toNat=_;exact ofNat_toNat (by omega)
    have t2:(S.get! (pre.size+2)).toNat=128+n / 64 % 64:=by rw [g2];show (UInt8.ofNat (128+n / 64 % 64)).toNat=_;exact ofNat_toNat (by omega)
    have t3:(S.get! (pre.size+3)).toNat=128+n % 64:=by rw [g3];show (UInt8.ofNat (128+n % 64)).toNat=_;exact ofNat_toNat (by omega)
    have ev:(240+n / 262144) % 8*262144+(128+n / 4096 % 64) % 64*4096+(128+n / 64 % 64) % 64*64+(128+n % 64) % 64=n:=by omega
    unfold Utf8.decode
    simp only [Nat.add_zero,t0,t1,t2,t3,s1,s2,s3,decide_true,Bool.true_and,Bool.and_eq_true,beq_iff_eq,ev,hv,decide_eq_true_eq,and_true,ge_iff_le]
    rw [if_neg (by omega),if_neg (by omega),if_neg (by omega),if_pos (by omega),if_pos (by omega)]
    rfl
theorem mh (c:Int) (l:List Int):runesBytes (c::l)=Utf8.encode c++runesBytes l:=by
 have key:∀ (l:List Int) (s:ByteArray),l.foldl (fun r n=>r++Utf8.encode n) s=s++l.foldl (fun r n=>r++Utf8.encode n) ByteArray.empty:=by
  intro l
  induction l with
  | nil=>intro s;simp
  | cons d l ih=>
   intro s
   rw [List.foldl_cons,List.foldl_cons,ih,ih (ByteArray.empty++Utf8.encode d)]
   simp [ByteArray.append_assoc]
 unfold runesBytes
 rw [List.foldl_cons,key]
 simp
theorem zC (c:Int):1<=(Utf8.encode c).size:=by
 unfold Utf8.encode
 simp only
 repeat' split
 all_goals simp [ByteArray.size]
theorem qL:∀ (ns:List Int) (pre:ByteArray) (bound:Nat) (acc:Array Value),(∀ c∈ns,aF c=true)->(runesBytes ns).size<=bound ->
  Conv.runesFrom (pre++runesBytes ns) bound pre.size acc=acc++(ns.map (Value.int .i32)).toArray
 | [],pre,bound,acc,_,_=>by
  have e:runesBytes []=ByteArray.empty:=rfl
  rw [e,ByteArray.append_empty]
  cases bound with
  | zero=>simp [Conv.runesFrom]
  | succ b=>rw [Conv.runesFrom,if_neg (by omega)];simp
 | c::ns,pre,bound,acc,hs,hb=>by
  have hp:=zC c
  rw [mh,ByteArray.size_append] at hb
  cases bound with
  | zero=>omega
  | succ b=>
   have hd:=encode_decode c (hs c (List.mem_cons_self ..)) pre (runesBytes ns)
   rw [Conv.runesFrom,mh,<-ByteArray.append_assoc,if_pos (by rw [ByteArray.size_append,ByteArray.size_append];omega),hd]
   simp only []
   have ih:=qL ns (pre++Utf8.encode c) b (acc.push (.int .i32 (Int.ofNat c.toNat))) (fun d h=>hs d (List.mem_cons_of_mem _ h)) (by omega)
   rw [ByteArray.size_append] at ih
   rw [ih]
   have hc0:=(aD.1 (hs c (List.mem_cons_self ..))).1
   have:Int.ofNat c.toNat=c:=Int.toNat_of_nonneg hc0
   rw [this]
   simp
theorem uQ {l:af} (h:∀ p∈l,jw p):Conv.runesFrom (encS l) (encS l).size 0 #[]=((bD l).map (Value.int .i32)).toArray:=by
 have hs:∀ c∈bD l,aF c=true:=by
  intro c hc
  induction l with
  | nil=>simp [bD] at hc
  | cons x l ih=>
   simp only [bD,List.mem_cons] at hc
   have hx:=h x (List.mem_cons_self ..)
   rcases hc with rfl | rfl | hc
   ·exact hx.1
   ·exact hx.2.1
   ·exact ih (fun p hp=>h p (List.mem_cons_of_mem _ hp)) hc
 have:=qL (bD l) ByteArray.empty (encS l).size #[] hs (Nat.le_refl _)
 simpa [encS] using this
theorem bA:∀ {m:Int} {l:af},eD m l->∀ p∈l,jw p
 | _,[],_=>by simp
 | _,x::l,h=>by
  intro p hp
  rcases List.mem_cons.1 hp with rfl | hp
  ·exact ⟨h.2.1,h.2.2.1,h.2.2.2.1⟩
  ·exact bA h.2.2.2.2 p hp
def zD (c:Int):Int:=if c=57344 then 55295 else c - 1
def lq (low:Int):af->af
 | []=>if low<=1114111 then [(low,1114111)] else []
 | p::l=>(if low<p.1 then [(low,zD p.1)] else [])++lq (kD p.2) l
def Ui (low:Int):Prop:=aF low=true\/low=1114112
theorem Yy {h:Int} (hh:aF h=true):Ui (kD h):=by
 unfold Ui
 rw [aD] at *
 unfold kD
 split<;>omega
theorem Uj {m:Int} {l:af} (h:eD m l) {q:Int×Int} (hq:q∈l):dw l q.1=true:=by
 have hg:=bA h q hq
 unfold dw
 rw [List.any_eq_true]
 exact ⟨q,hq,by simp [hg.2.2]⟩
theorem xP:∀ (l:af) (m low:Int),eD m l->Ui low->(∀ p∈l,low<=p.1)->(∀ p∈lq low l,jw p/\low<=p.1)/\∀ c,aF c=true->(dw (lq low l) c=(decide (low<=c)&&!dw l c))
 | [],_,low,_,hlow,_=>by
  rw [lq]
  split
  ·rename_i h
   have hs:aF low=true:=by
    rcases hlow with h1 | h1
    ·exact h1
    ·omega
   refine ⟨fun p hp=>by simp at hp;subst hp;exact ⟨⟨hs,(show aF 1114111=true by decide),h⟩,Int.le_refl _⟩,fun c hc=>?_⟩
   have:=aD.1 hc
   rw [gT,eP]
   simp;omega
  ·refine ⟨by simp,fun c hc=>?_⟩
   have:=aD.1 hc
   rw [eP]
   simp;omega
 | p::l,m,low,ht,hlow,hle=>by
  have hp1:=hle p (List.mem_cons_self ..)
  have s1:=aD.1 ht.2.1
  have s2:=aD.1 ht.2.2.1
  have hab:p.2<kD p.2:=by unfold kD;split<;>omega
  have hr:∀ q∈l,kD p.2<=q.1:=by
   intro q hq
   have:=ht.2.2.2.2.ge (Uj ht.2.2.2.2 hq)
   omega
  obtain ⟨g1,g2⟩:=xP l (kD p.2) (kD p.2) ht.2.2.2.2 (Yy ht.2.2.1) hr
  have aax:aF low=true:=by
   rcases hlow with h | h
   ·exact h
   ·omega
  have sl:=aD.1 aax
  have hbel:low<p.1->aF (zD p.1)=true/\low<=zD p.1:=by
   intro h
   rw [aD]
   unfold zD
   split<;>omega
  rw [lq]
  constructor
  ·intro q hq
   rcases List.mem_append.1 hq with hq | hq
   ·split at hq
    ·rename_i h
     simp at hq;subst hq
     exact ⟨⟨aax,(hbel h).1,(hbel h).2⟩,Int.le_refl _⟩
    ·simp at hq
   ·have:=g1 q hq
    exact ⟨this.1,by have:=this.2;have:=ht.2.2.2.1;omega⟩
  ·intro c hc
   have sc:=aD.1 hc
   rw [ll,g2 c hc,gT]
   have acR:p.2<c->kD p.2<=c:=by intro h;unfold kD;split<;>omega
   have hpp:=ht.2.2.2.1
   have hno:c<=p.2->dw l c=false:=by
    intro h
    cases hb:dw l c with
    | false=>rfl
    | true=>have:=ht.2.2.2.2.ge hb;omega
   by_cases h1:low<p.1
   ·rw [if_pos h1,gT,eP]
    have hb:c<p.1↔c<=zD p.1:=by unfold zD;split<;>omega
    by_cases h2:c<p.1
    ·rw [hno (by omega)]
     have h4:¬ kD p.2<=c:=by omega
     have h5:¬ p.1<=c:=by omega
     simp [h4,h5,<-hb,h2]
    ·by_cases h3:c<=p.2
     ·rw [hno h3]
      have h4:¬ kD p.2<=c:=by omega
      have h5:p.1<=c:=by omega
      simp [h4,h5,h3,<-hb,h2]
     ·have h4:=acR (by omega)
      have h5:low<=c:=by omega
      simp [h4,h5,h3,<-hb,h2]
   ·rw [if_neg h1,eP]
    by_cases h3:c<=p.2
    ·rw [hno h3]
     have h4:¬ kD p.2<=c:=by omega
     by_cases h5:p.1<=c
     ·simp [h4,h5,h3]
     ·have h6:¬ low<=c:=by omega
      simp [h4,h5,h6]
    ·have h4:=acR (by omega)
     have h5:low<=c:=by omega
     simp [h4,h5,h3]
theorem Eo {l:af} (h:Tidy l):∀ p∈lq 0 l,jw p:=fun p hp=>
 ((xP l (-1) 0 h (.inl (by decide)) (fun q hq=>(aD.1 (bA h q hq).1).1)).1 p hp).1
theorem Mm {l:af} (h:Tidy l):iM (lq 0 l)=fE l:=by
 have hs:=xP l (-1) 0 h (.inl (by decide)) (fun q hq=>(aD.1 (bA h q hq).1).1)
 have hp:=lY (Eo h)
 refine iL (iN hp) (dC h.pos) fun c hc=>?_
 rw [o8 hp hc,hs.2 c hc,kE h.pos hc]
 have:=aD.1 hc
 simp [this.1]
theorem IA:∀ (l:af) (low:Int),(lq low l).length<=l.length+1
 | [],low=>by rw [lq];split<;>simp
 | p::l,low=>by
  have:=IA l (kD p.2)
  rw [lq,List.length_append,List.length_cons]
  split<;>simp<;>omega
def gM (a:af×Int) (p:Int×Int):af×Int:=(a.1++(if a.2<p.1 then [(a.2,zD p.1)] else []),kD p.2)
def aT (l:af):af×Int:=l.foldl gM ([],0)
theorem vV (l:af) (p:Int×Int):aT (l++[p])=gM (aT l) p:=by
 unfold aT
 rw [List.foldl_append];rfl
theorem A8:∀ (l:af) (a:af) (low:Int),a++lq low l=(l.foldl gM (a,low)).1++(if (l.foldl gM (a,low)).2<=1114111 then [((l.foldl gM (a,low)).2,1114111)] else [])
 | [],a,low=>rfl
 | p::l,a,low=>by
  have ih:=A8 l (a++(if low<p.1 then [(low,zD p.1)] else [])) (kD p.2)
  rw [lq,<-List.append_assoc]
  exact ih
theorem IB (l:af):lq 0 l=(aT l).1++(if (aT l).2<=1114111 then [((aT l).2,1114111)] else []):=A8 l [] 0
end Go.Proofs.YtfolanohokflkaaGreatDoor
namespace Go.Proofs
open Go.Shelf
def Tryz.Mo:Go.Shelf.Ren:=⟨fun | 6=>269 | 15=>230 | 14=>290 | 28=>267 | 29=>255 | 20=>309 | 21=>310 | 22=>311 | 23=>312 | 24=>313 | 25=>314 | 26=>315 | 27=>316 | 46=>324 | 47=>285 | 48=>286 | 49=>325 | 50=>326 | 57=>336 | n=>n,fun | 22=>237 | 24=>248 | 25=>295 | 3=>3 | 39=>99 | 0=>0 | 53=>304 | 55=>278 | 4=>4 | 46=>308 | 45=>307 | 50=>69 | 5=>5 | 9=>9 | 66=>326 | 70=>330 | 76=>344 | 77=>141 | n=>n,fun | n=>n⟩
theorem Tryz.F7:Go.Proofs.SlLaysF0.n6 Tryz.prog Tryz.Mo:={
 mixed:=by kernel_rfl
 f6:=⟨ "slices.SortFunc[[]motif/motif.piece,motif/motif.piece]",by decide,Tryz.func269.trans (congrArg some (by kernel_rfl))⟩
 f14:=⟨ "slices.pdqsortCmpFunc[motif/motif.piece]",by decide,Tryz.func290.trans (congrArg some (by kernel_rfl))⟩
 f15:=Tryz.func230.trans (congrArg some (by kernel_rfl))
 f20:=⟨ "slices.insertionSortCmpFunc[motif/motif.piece]",by decide,Tryz.func309.trans (congrArg some (by kernel_rfl))⟩
 f21:=⟨ "slices.heapSortCmpFunc[motif/motif.piece]",by decide,Tryz.func310.trans (congrArg some (by kernel_rfl))⟩
 f22:=⟨ "slices.breakPatternsCmpFunc[motif/motif.piece]",by decide,Tryz.func311.trans (congrArg some (by kernel_rfl))⟩
 f23:=⟨ "slices.choosePivotCmpFunc[motif/motif.piece]",by decide,Tryz.func312.trans (congrArg some (by kernel_rfl))⟩
 f24:=⟨ "slices.reverseRangeCmpFunc[motif/motif.piece]",by decide,Tryz.func313.trans (congrArg some (by kernel_rfl))⟩
 f25:=⟨ "slices.partialInsertionSortCmpFunc[motif/motif.piece]",by decide,Tryz.func314.trans (congrArg some (by kernel_rfl))⟩
 f26:=⟨ "slices.partitionEqualCmpFunc[motif/motif.piece]",by decide,Tryz.func315.trans (congrArg some (by kernel_rfl))⟩
 f27:=⟨ "slices.partitionCmpFunc[motif/motif.piece]",by decide,Tryz.func316.trans (congrArg some (by kernel_rfl))⟩
 f28:=Tryz.func267.trans (congrArg some (by kernel_rfl))
 f29:=Tryz.func255.trans (congrArg some (by kernel_rfl))
 f46:=⟨ "slices.siftDownCmpFunc[motif/motif.piece]",by decide,Tryz.func324.trans (congrArg some (by kernel_rfl))⟩
 f47:=Tryz.func285.trans (congrArg some (by kernel_rfl))
 f48:=Tryz.func286.trans (congrArg some (by kernel_rfl))
 f49:=⟨ "slices.medianAdjacentCmpFunc[motif/motif.piece]",by decide,Tryz.func325.trans (congrArg some (by kernel_rfl))⟩
 f50:=⟨ "slices.medianCmpFunc[motif/motif.piece]",by decide,Tryz.func326.trans (congrArg some (by kernel_rfl))⟩
 f57:=⟨ "slices.order2CmpFunc[motif/motif.piece]",by decide,Tryz.func336.trans (congrArg some (by kernel_rfl))⟩
 t0:=Tryz.underlying0
 a0:=Tryz.isAgg0
 z0:=Tryz.sizeOf0
 v0:=Tryz.zeroValue0
 t3:=Tryz.underlying3
 a3:=Tryz.isAgg3
 z3:=Tryz.sizeOf3
 v3:=Tryz.zeroValue3
 t4:=Tryz.underlying4
 a4:=Tryz.isAgg4
 z4:=Tryz.sizeOf4
 v4:=Tryz.zeroValue4
 t5:=Tryz.underlying5
 a5:=Tryz.isAgg5
 z5:=Tryz.sizeOf5
 v5:=Tryz.zeroValue5
 t9:=Tryz.underlying9
 a9:=Tryz.isAgg9
 z9:=Tryz.sizeOf9
 v9:=Tryz.zeroValue9
 t22:=Tryz.underlying237
 a22:=Tryz.isAgg237
 z22:=Tryz.sizeOf237
 v22:=Tryz.zeroValue237
 t25:=Tryz.underlying295
 a25:=Tryz.isAgg295
 z25:=Tryz.sizeOf295
 v25:=Tryz.zeroValue295
 t39:=Tryz.underlying99
 a39:=Tryz.isAgg99
 z39:=Tryz.sizeOf99
 v39:=Tryz.zeroValue99
 t45:=Tryz.underlying307
 a45:=Tryz.isAgg307
 z45:=Tryz.sizeOf307
 v45:=Tryz.zeroValue307
 t46:=Tryz.underlying308
 a46:=Tryz.isAgg308
 z46:=Tryz.sizeOf308
 v46:=Tryz.zeroValue308
 t50:=Tryz.underlying69
 a50:=Tryz.isAgg69
 z50:=Tryz.sizeOf69
 v50:=Tryz.zeroValue69
 t53:=Tryz.underlying304
 a53:=Tryz.isAgg304
 z53:=Tryz.sizeOf304
 v53:=Tryz.zeroValue304
 t55:=Tryz.underlying278
 a55:=Tryz.isAgg278
 z55:=Tryz.sizeOf278
 v55:=Tryz.zeroValue278
 t66:=Tryz.underlying326
 a66:=Tryz.isAgg326
 z66:=Tryz.sizeOf326
 v66:=Tryz.zeroValue326
 t70:=Tryz.underlying330
 a70:=Tryz.isAgg330
 z70:=Tryz.sizeOf330
 v70:=Tryz.zeroValue330
 t76:=Tryz.underlying344
 a76:=Tryz.isAgg344
 z76:=Tryz.sizeOf344
 v76:=Tryz.zeroValue344
 t77:=Tryz.underlying141
 a77:=Tryz.isAgg141
 z77:=Tryz.sizeOf141
 v77:=Tryz.zeroValue141 }
end Go.Proofs
namespace Go.Proofs.YtfolanohokflkaaGreatDoor
open Go.RowKit Go.Shelf Go.Sort Go.Lib
def o9 (x:Int×Int):List Value:=[.int .i32 x.1,.int .i32 x.2]
def xQ (a b:Int):Int:=if a<b then -1 else if b<a then 1 else 0
set_option maxHeartbeats 1000000 in
theorem uR (x:Int) (w:World):Calls Tryz.prog 253 #[.int .i32 x] w fun e w'=>e=.returned (.bool false)/\w=w':=by
 go_enter Tryz.func253,Tryz.ntmps253
 go_wp2
 go_ret
 exact ⟨rfl,rfl⟩
set_option maxHeartbeats 1000000 in
theorem F8 (x y:Int) (w:World):Calls Tryz.prog 238 #[.int .i32 x,.int .i32 y] w fun e w'=>e=.returned (.int .i64 (xQ x y))/\w=w':=by
 by_cases h1:x<y
 ·go_enter Tryz.func238,Tryz.ntmps238
  go_wp2_with (go_at_call 253;refine (uR _ _).mono ?_;rintro e w' ⟨rfl,rfl⟩)
  go_ret
  exact ⟨by simp [xQ,h1],rfl⟩
 ·by_cases h2:y<x
  ·go_enter Tryz.func238,Tryz.ntmps238
   go_wp2_with (go_at_call 253;refine (uR _ _).mono ?_;rintro e w' ⟨rfl,rfl⟩)
   go_ret
   exact ⟨by simp [xQ,h1,h2],rfl⟩
  ·go_enter Tryz.func238,Tryz.ntmps238
   go_wp2_with (go_at_call 253;refine (uR _ _).mono ?_;rintro e w' ⟨rfl,rfl⟩)
   go_ret
   exact ⟨by rw [xQ,if_neg (by omega),if_neg (by omega)];rfl,rfl⟩
set_option maxHeartbeats 1000000 in
theorem Mq (x y:Int×Int) (W:World):Calls Tryz.prog 237 #[.agg #[.int .i32 x.1,.int .i32 x.2],.agg #[.int .i32 y.1,.int .i32 y.2]] W fun e w'=>e=.returned (.int .i64 (xQ x.1 y.1))/\∃ q os',w'=grow (W.drewN q) os':=by
 have hcon:=fun W'=>F8 x.1 y.1 W'
 generalize xQ x.1 y.1=r at hcon ⊢
 go_enter Tryz.func237,Tryz.ntmps237
 go_wp2_with (go_at_call 238;refine (hcon _).mono ?_;rintro e w' ⟨rfl,rfl⟩)
 go_ret
 exact ⟨rfl,0,_,by rw [alloc_eq_grow,alloc_eq_grow,grow_grow];rfl⟩
theorem Mr (blk off size:Nat) (w:World):CmpLays Tryz.prog 237 #[] o9 2 (fun x y=>xQ x.1 y.1) blk off size w:=
 fun _ _ _ _ x y=>Mq x y _
theorem Yz (x y:Int×Int):ltOf (fun x y:Int×Int=>xQ x.1 y.1) x y=decide (x.1<y.1):=by
 unfold ltOf xQ
 by_cases h1:x.1<y.1
 ·simp [h1]
 ·by_cases h2:y.1<x.1<;>simp [h1,h2]
theorem acS:SWO (ltOf fun x y:Int×Int=>xQ x.1 y.1) where
 irrefl x:=by rw [Yz];simp
 trans x y z h1 h2:=by rw [Yz] at *;simp at *;omega
 ntrans x y z h1 h2:=by rw [Yz] at *;simp at *;omega
theorem iO:∀ (l:List (Int×Int)) (i:Nat) (h:i<l.length),(aJ l)[i*2]? = some (.int .i32 l[i].1)/\(aJ l)[i*2+1]? = some (.int .i32 l[i].2)
 | [],_,h=>by simp at h
 | x::l,0,_=>⟨rfl,rfl⟩
 | x::l,i+1,h=>by
  have ih:=iO l i (by simpa using h)
  rw [show (i+1)*2=i*2+1+1 from by omega]
  simpa [aJ] using ih
theorem OD (d:Array (Int×Int)):flatK o9 2 d=(aJ d.toList).toArray:=by
 apply Array.ext
 ·simp [iI]
 ·intro t h1 h2
  rw [size_flatK] at h1
  have hlt:t / 2<d.toList.length:=by simp;omega
  have hd:d[t / 2]! = d.toList[t / 2]:=by
   rw [getElem!_pos d (t / 2) (by simpa using hlt)];simp
  have hg:=iO d.toList (t / 2) hlt
  have e1:(flatK o9 2 d)[t]=(o9 d[t / 2]!)[t % 2]! := by rw [<-get_flatK o9 2 d t h1,getElem!_pos _ t (by simpa using h1)]
  rw [e1,hd]
  have e2:(aJ d.toList).toArray[t]=((aJ d.toList)[t]?).getD default:=by
   rw [List.getElem?_eq_getElem (by simpa using h2)];simp
  rw [e2]
  rcases Nat.mod_two_eq_zero_or_one t with h | h
  ·have e3:(aJ d.toList)[t]? = some (.int .i32 d.toList[t / 2].1):=by
    have:=hg.1
    rwa [show t / 2*2=t from by omega] at this
   rw [h,e3];rfl
  ·have e3:(aJ d.toList)[t]? = some (.int .i32 d.toList[t / 2].2):=by
    have:=hg.2
    rwa [show t / 2*2+1=t from by omega] at this
   rw [h,e3];rfl
theorem Uk {w:World} {g:Nat} {cur:Array Value} {e:TypeId} {zs:List (Int×Int)} (hb:w.heap[g]? = some (.cells cur e (0,0))) (ht:cur.toList.take (zs.length*2)=aJ zs):HoldsK o9 2 w g 0 zs.toArray:=by
 unfold HoldsK
 rw [OD]
 intro j hj
 have hj':j<(aJ zs).length:=by simpa using hj
 have hj2:j<zs.length*2:=by rw [<-iI];exact hj'
 refine ⟨?_,by simp [World.frozen?,hb]⟩
 have h1:(cur.toList.take (zs.length*2))[j]? = (aJ zs)[j]? := by rw [ht]
 rw [List.getElem?_take_of_lt hj2] at h1
 simp only [World.cell?,hb,Nat.zero_add]
 simp only [Option.isSome_none,Bool.false_eq_true,if_false]
 rw [<-Array.getElem?_toList,h1]
 simp [hj']
theorem F9 {w:World} {g n:Nat} {os:Array Obj} {cur:Array Value} {e:TypeId} {fr:Nat×Nat} (d:Array (Int×Int)) (hb:w.heap[g]? = some (.cells cur e fr)) :
  (sortWorldK o9 2 w g 0 n d os).heap[g]? = some (.cells (putCells id 0 (flatK o9 2 d) cur) e fr):=by
 have hg:g<w.heap.size:=(Array.getElem?_eq_some_iff.1 hb).1
 unfold sortWorldK putRowK
 rw [heap_grow_old _ _ (by simpa using hg)]
 simp [putRow,mapBlock,Sort.ahead,Array.getElem?_modify,hb,onCells]
theorem DT {w:World} {g n:Nat} {os:Array Obj} (d:Array (Int×Int)):w.grownBy (sortWorldK o9 2 w g 0 n d os) (some g):=by
 unfold sortWorldK putRowK
 refine ⟨rfl,rfl,rfl,by simp,fun k hk hne=>?_⟩
 rw [heap_grow_old _ _ (by simpa using hk)]
 have:g≠k:=fun e=>hne (by rw [e])
 simp [putRow,mapBlock,Sort.ahead,Array.getElem?_modify,this]
theorem F_ {w:World} {base g cap n:Nat} {e:TypeId} {os:Array Obj} {cur:Array Value} {ts:List (Int×Int)} {m:Nat} (hl:ts.length=m) (hbase:base<=g) (hb:w.heap[g]? = some (.cells cur e (0,0)))
  (h1:m<=cap) (h2:cap<=maxLen) (h3:cur.size=cap*2) :
  (sortWorldK o9 2 w g 0 n ts.toArray os).ownsRow base e 2 (.slice (some ⟨g,0,none⟩) m cap) m (aJ ts):=by
 refine ⟨by rw [iI,hl],.inr ⟨g,cap,_,rfl,hbase,F9 _ hb,h1,h2,by simp [putCells,h3],?_⟩⟩
 rw [OD]
 apply List.ext_getElem?
 intro j
 have hlen:=iI ts
 by_cases hj:j<m*2
 ·rw [List.getElem?_take_of_lt hj,Array.getElem?_toList]
  have hj2:j<(aJ ts).length:=by omega
  have hj3:j<cur.size:=by omega
  simp [putCells,hj2,hj3]
 ·rw [List.getElem?_take_eq_none (by omega),List.getElem?_eq_none (by omega)]
theorem aa7 {d:Array (Int×Int)} (h:SortedIn (ltOf fun x y:Int×Int=>xQ x.1 y.1) 0 d.size d):Iw d.toList:=by
 rw [Iw,List.pairwise_iff_getElem]
 intro i j hi hj hij
 have:=h i j (Nat.zero_le _) hij (by simpa using hj)
 rw [Yz,getElem!_pos d j (by simpa using hj),getElem!_pos d i (by simpa using hi)] at this
 simp at this ⊢
 omega
theorem YA {d d':Array (Int×Int)} (h:PermIn 0 d.size d d'):d'.toList.Perm d.toList:=by
 have:=h.2.2
 have e1:d'.extract 0 d.size=d':=by rw [<-h.1];simp
 have e2:d.extract 0 d.size=d:=by simp
 rwa [e1,e2] at this
set_option maxRecDepth 100000 in
set_option maxHeartbeats 2000000 in
theorem Ms (lb:Array Value) (zs:List (Int×Int)) (hz:zs.length<=100000) (w:World)
  (hseq:SeqStopsK Fence.wide 5 Tryz.prog 270 lb (fun x:Int×Int=>#[ry x]) (Below w.heap.size) (fun ys=>ys=zs) (fun pre=>pre <+: zs) zs.length w) :
  Calls Tryz.prog 235 #[.func (.func 270) #[] lb,.func (.func 237) #[] #[]] w fun e w'=>
   ∃ v ts,e=.returned v/\ts.Perm zs/\Iw ts/\w'.ownsRow w.heap.size 248 2 v zs.length (aJ ts)/\Below w.heap.size w w':=by
 have hC:=callsIn_wide.1 (collect_in 7 (by omega) lb zs hz w hseq)
 have eg:∀ args w,(callFunc 237 args).run Tryz.prog w=.ok (.enter 237 args) w:=enters_of Tryz.func237 (by kernel_rfl) rfl
 clear hseq
 go_enter Tryz.func235,Tryz.ntmps235
 go_wp2_with (go_at_call 268;refine hC.mono ?_;rintro e W ⟨v,rfl,hrow,hb⟩)
 rcases hrow.2 with ⟨rfl,hz0⟩ | ⟨gb,cap,cur,rfl,hbase,hgb,r1,r2,r3,r4⟩
 ·have hss:zs=[]:=List.eq_nil_of_length_eq_zero hz0
  subst hss
  have hN:Calls Tryz.prog 269 #[.slice none 0 0,.func (.func 237) #[] #[]] W fun e w'=>e=.returned (.tuple #[])/\w'=W:=AnyF.slices_SortFunc_none Tryz.F7 none 0 _ W
  go_wp2_with (go_at_call 269;refine hN.mono ?_;rintro e w' ⟨rfl,rfl⟩)
  go_ret
  exact ⟨_,[],rfl,List.Perm.refl _,List.Pairwise.nil,hrow,hb⟩
 ·have hgl:gb<W.heap.size:=(Array.getElem?_eq_some_iff.1 hgb).1
  have hS:Calls Tryz.prog 269 #[.slice (some ⟨gb,0,none⟩) zs.length cap,.func (.func 237) #[] #[]] W fun e w'=>e=.returned (.tuple #[])/\∃ d' n os,PermIn 0 zs.toArray.size zs.toArray d'/\SortedIn (ltOf fun x y:Int×Int=>xQ x.1 y.1) 0 zs.toArray.size d'/\w'=sortWorldK o9 2 W gb 0 n d' os:=
   AnyQ.slices_SortFunc Tryz.F7 2 Tryz.isAgg248 Tryz.sizeOf248 o9 (fun _=>rfl) (fun x v hv=>by simp [o9] at hv;rcases hv with rfl | rfl<;>rfl) (fun x y=>xQ x.1 y.1) acS 237 #[] gb 0 cap zs.toArray W eg (Mr gb 0 _ W) (Uk hgb r4) hgl (by simp;omega)
  have HR:=hide hrow
  have HB:=hide hb
  have HS:=hide hS
  clear hrow hb hS
  go_wp2_with (go_at_call 269;refine (aa HS).mono ?_;rintro e w' ⟨rfl,d',n,os,hp,hs,rfl⟩)
  go_ret
  have hsz:d'.toList.length=zs.length:=by have:=hp.1;simpa using this
  refine ⟨_,d'.toList,rfl,by simpa using YA hp,aa7 (by have:=hp.1;rw [this];exact hs),?_,?_⟩
  ·have:=F_ (n:=n) (os:=os) (ts:=d'.toList) hsz hbase hgb r1 r2 r3
   simpa using this
  ·exact (aa HB).grown (DT d') (aa HB).size (fun j hj=>by cases hj;exact hbase)
end Go.Proofs.YtfolanohokflkaaGreatDoor
namespace Go.Proofs.YtfolanohokflkaaGreatDoor
open Go.RowKit
set_option maxHeartbeats 1000000 in
theorem xR (c:Int) (w:World) (h0:0<=c) (h1:c<=1114112):Calls Tryz.prog 232 #[.int .i32 c] w fun e w'=>e=.returned (.int .i32 (kD c))/\w=w':=by
 by_cases h:c=55295
 ·subst h
  go_enter Tryz.func232,Tryz.ntmps232
  go_wp2
  go_ret
  exact ⟨rfl,rfl⟩
 ·have hne:(c==(55295:Int))=false:=by simp [h]
  have hw:IntKind.i32.wrap (c+1)=c+1:=by simp [IntKind.wrap,IntKind.bits,IntKind.signed];omega
  have ha:kD c=c+1:=by rw [kD,if_neg h]
  rw [ha]
  clear h ha
  go_enter Tryz.func232,Tryz.ntmps232
  go_wp2
  go_ret
  exact ⟨rfl,rfl⟩
set_option maxHeartbeats 1000000 in
theorem Q4 (c:Int) (w:World) (h0:0<c) (h1:c<=1114111):Calls Tryz.prog 231 #[.int .i32 c] w fun e w'=>e=.returned (.int .i32 (if c=57344 then 55295 else c - 1))/\w=w':=by
 by_cases h:c=57344
 ·subst h
  go_enter Tryz.func231,Tryz.ntmps231
  go_wp2
  go_ret
  exact ⟨rfl,rfl⟩
 ·have hne:(c==(57344:Int))=false:=by simp [h]
  have hw:IntKind.i32.wrap (c - 1)=c - 1:=by simp [IntKind.wrap,IntKind.bits,IntKind.signed];omega
  rw [if_neg h]
  clear h
  go_enter Tryz.func231,Tryz.ntmps231
  go_wp2
  go_ret
  exact ⟨rfl,rfl⟩
def fe (zs:List Int):List Value:=zs.map (Value.int .i32)
theorem IC:(Tryz.prog.info? 21).map (fun i=>(i.zero,i.size,i.bytes))=some (some (.int .i32 0),1,4):=by kernel_rfl
def iZ (w wr:World) (v:Value) (acc:af):Prop:=wr.ownsRow w.heap.size 21 1 v (bD acc).length (fe (bD acc))/\Below w.heap.size w wr
theorem iZ.drewN {w wr:World} {v:Value} {acc:af} (h:iZ w wr v acc) (q:Nat):iZ w (wr.drewN q) v acc:=⟨h.1,⟨h.2.os,h.2.tape,h.2.output,h.2.size,h.2.block⟩⟩
theorem Ul {w w':World} {v':Value} {acc:af} {lo hi:Int} (ho:Hid (w'.ownsRow w.heap.size 21 1 v' ((bD acc).length+2) (fe (bD acc)++[.int .i32 lo,.int .i32 hi]))) (hb:Hid (Below w.heap.size w w')):Hid (iZ w w' v' (acc++[(lo,hi)])):=by
 refine ⟨?_,hb⟩
 rw [mI,List.length_append]
 have e:fe (bD acc++bD [(lo,hi)])=fe (bD acc)++[.int .i32 lo,.int .i32 hi]:=by simp [fe,bD]
 rw [e]
 exact ho
theorem IE {ops:Array Oper} {rest:List Oper} {o:Oper} {a:Act} {Q:Exit->Act->World->Prop} (w wr:World) (acc:af) (v:Value) (lo hi:Int) (s x:Operand) (hg:o.guard=none)
  (hop:o.op=.call { callee:=.builtin .append,args:=#[s,x],argTypes:=#[107,107] }) (hs:a.eval s=v) (hx:a.eval x=.slice (some ⟨wr.heap.size,0,none⟩) 2 2)
  (ho:Hid (iZ w wr v acc)) (hl:acc.length<=2000)
  (K:∀ ae ce w',Hid (iZ w w' (.slice ae ((bD acc).length+2) ce) (acc++[(lo,hi)]))->wpList Tryz.prog ops Q rest (a.put o.dst (.slice ae ((bD acc).length+2) ce)) w') :
  wpList Tryz.prog ops Q (o::rest) a (wr.alloc (.cells #[.int .i32 lo,.int .i32 hi] 21)):=by
 obtain ⟨i0,hi0,hz0,hz1,hz2⟩:=info_parts IC
 obtain ⟨hown,hb'⟩:=aa ho
 have:=hb'.size
 have hfl:=fF acc
 refine wpList_append_own _ hg s x 107 hop w.heap.size 21 i0 (.int .i32 0) 1 4 Tryz.underlying107 hi0 hz0 hz1 hz2 rfl (by decide) _ _ _ hs (hown.alloc _) ⟨wr.heap.size,0,none⟩ 2 2 [.int .i32 lo,.int .i32 hi] hx rfl (bz wr [.int .i32 lo,.int .i32 hi] _) (by intro u hu;simp at hu;rcases hu with rfl | rfl<;>rfl) (by unfold maxLen;omega) (by omega) (by simp;omega) ?_
 intro v' w' h1 h2 _
 obtain ⟨ae,ce,rfl,-⟩:=aN h1
 exact K ae ce w' (Ul h1 (iW hb' hown h2 hb'.size))
theorem A9:∀ (L:af) (x:Int×Int) (h:Int),(fe (bD (L++[x]))).set (L.length*2+1) (.int .i32 h)=fe (bD (L++[(x.1,h)]))
 | [],_,_=>rfl
 | y::L,x,h=>by
  have:=A9 L x h
  rw [show (y::L).length*2+1=(L.length*2+1)+1+1 from by simp;omega]
  simp only [List.cons_append,bD,fe,List.map_cons,List.set_cons_succ]
  simp only [fe] at this
  rw [this]
theorem Mt {w wq:World} {ge m ce:Nat} {L:af} {x:Int×Int} {h:Int} (he:Hid (iZ w wq (.slice (some ⟨ge,0,none⟩) (m+1) ce) (L++[x]))) (hm:Hid (m=L.length*2+1)) :
  Hid (iZ w ((wq.setCell ⟨ge,m,none⟩ (.int .i32 h)).drew) (.slice (some ⟨ge,0,none⟩) (m+1) ce) (L++[(x.1,h)])):=by
 obtain ⟨h1,h2⟩:=aa he
 have hl:(bD (L++[x])).length=m+1:=by rw [fF,aa hm];simp;omega
 have hl2:(bD (L++[(x.1,h)])).length=m+1:=by rw [fF,aa hm];simp;omega
 have hge:w.heap.size<=ge:=by
  rcases h1.2 with ⟨e,_⟩ | ⟨g,cap,cur,e,hb,_⟩
  ·cases e
  ·have e1:=(Value.slice.inj e).1
   simp at e1
   rw [e1];exact hb
 have h3:=Yc h1 (g:=ge) (j:=m) rfl (by omega) (.int .i32 h)
 rw [aa hm,A9,<-aa hm,hl] at h3
 have h4:=h2.setCell (p:=⟨ge,m,none⟩) hge (.int .i32 h)
 refine ⟨?_,⟨h4.os,h4.tape,h4.output,h4.size,h4.block⟩⟩
 rw [hl2];exact h3
theorem aa8 {ts:af} {k m:Nat} {L:af} {x p:Int×Int} {h:Int} (hms:Hid (gz (ts.take (k+1))=lX (L++[x]) p)) (hm:Hid (m=L.length*2+1)) (he:lX (L++[x]) p=L++[(x.1,h)]):Hid (m+1=(bD (gz (ts.take (k+1)))).length):=by
 show m+1=_
 rw [aa hms,he,fF,aa hm];simp;omega
theorem Q5 {w wr W:World} {v:Value} {acc:af} (h:iZ w wr v acc) (hh:W.heap=wr.heap):W.ownsRow w.heap.size 21 1 v (bD acc).length (fe (bD acc)):=by
 obtain ⟨hl,hx | ⟨g,cap,cur,hv,hb',hg,rest⟩⟩:=h.1
 ·exact ⟨hl,.inl hx⟩
 ·exact ⟨hl,.inr ⟨g,cap,cur,hv,hb',by rw [hh];exact hg,rest⟩⟩
theorem Q6 {W:World} {base n ce:Nat} {ae:Option Addr} {acc:af} (h:W.ownsRow base 21 1 (.slice ae n ce) (bD acc).length (fe (bD acc))) (hn:n=(bD acc).length) :
  (convert 107 61 (.slice ae n ce)).run Tryz.prog W=.ok (.string (encS acc)) W:=by
 have hc:=fun g (hg:(Value.slice ae n ce).ownBlock=some g)=>h.cells hg
 rcases h.2 with ⟨e,hz⟩ | ⟨g,cap,cur,e,hb,hg,h1,h2,h3,h4⟩
 ·cases e
  rw [run_convert_runes_nil W _ _ 21 0 0 Tryz.underlying107 Tryz.underlying21 Tryz.underlying61]
  rw [encS,List.eq_nil_of_length_eq_zero hz];rfl
 ·cases e
  have:=run_convert_runes W 107 61 21 ⟨g,0,none⟩ (bD acc).length ce (bD acc) (Nat.le_refl _) Tryz.underlying107 Tryz.underlying21 Tryz.underlying61 (fun j hj=>hc g rfl j _ (by simp [fe,hj]))
  rw [this,List.take_length];rfl
theorem Ga (wr:World) (lo hi:Int) (q:Nat):((wr.alloc (.cells #[.int .i32 lo,.int .i32 hi] 248)).drewN q).cell? ⟨wr.heap.size,0,none⟩=some (.int .i32 lo):=(uL.new wr (lo,hi)).c0
theorem Mv (wr:World) (lo hi:Int) (q:Nat):((wr.alloc (.cells #[.int .i32 lo,.int .i32 hi] 248)).drewN q).cell? ⟨wr.heap.size,1,none⟩=some (.int .i32 hi):=(uL.new wr (lo,hi)).c1
set_option maxRecDepth 100000 in
set_option maxHeartbeats 4000000 in
theorem o_ (w:World) (sv:Value) (zs:List (Int×Int)) (hz:zs.length<=1000) (hI:vQ w.heap.size w sv zs) (hg:∀ p∈zs,jw p) :
  Calls Tryz.prog 160 #[sv] w fun e w'=>e=.returned (.string (encS (iM zs)))/\Below w.heap.size w w':=by
 obtain ⟨a,n0,cap,rfl⟩:∃ a n0 cap,sv=.slice a n0 cap:=by
  rcases hI with ⟨rfl,_⟩ | ⟨b,off,cap,rfl,_⟩
  ·exact ⟨_,_,_,rfl⟩
  ·exact ⟨_,_,_,rfl⟩
 have hB0:Below w.heap.size w (w.alloc (.cells #[.slice a n0 cap] 237)):=(Below.refl _ w).alloc (Nat.le_refl _) _
 have hI1:vQ (w.alloc (.cells #[.slice a n0 cap] 237)).heap.size (w.alloc (.cells #[.slice a n0 cap] 237)) (.slice a n0 cap) zs:=by
  rcases hI.below hB0 with h | ⟨b,off,cap',e,hb,hc⟩
  ·exact .inl h
  ·exact .inr ⟨b,off,cap',e,by simp;omega,hc⟩
 have hV:=callsIn_wide.1 (Yu 1 a n0 cap w)
 have hS:=Ms #[.pointer (some ⟨w.heap.size,0,none⟩)] zs (by omega) _ (Mk 5 (by omega) w.heap.size _ _ zs (by omega) _ (by simp) (Nat.le_refl _) (Boxed.new w 237 (.slice a n0 cap)).cell hI1)
 generalize hW1:w.alloc (.cells #[.slice a n0 cap] 237)=w1 at *
 have HV:=hide hV
 have HS:=hide hS
 have HB0:=hide hB0
 have HG:=hide hg
 clear hV hS hB0 hI hI1 hg hW1
 go_enter Tryz.func160,Tryz.ntmps160
 go_wp2_with (first
  | (go_at_call 236;refine (aa HV).mono ?_;clear HV;rintro e w' ⟨rfl,rfl⟩)
  | (go_at_call 235;refine (aa HS).mono ?_;clear HS;rintro e w2 ⟨v,ts,rfl,hp,hs,hrow,hb⟩;have HP:=hide hp;have HSR:=hide hs;have HB:=hide hb;obtain ⟨av,cv,rfl,hvw⟩:=aN hrow;have Mw:=hide hvw;clear hp hs hrow hb hvw))
 have hlen:ts.length=zs.length:=(aa HP).length_eq
 have HGT:Hid (∀ p∈ts,jw p):=fun p h=>aa HG p ((aa HP).mem_iff.1 h)
 have Mx:Hid (Below w.heap.size w w2):=(aa HB0).trans ((aa HB).mono (aa HB0).size)
 have hR0:Hid (iZ w2 w2 (.slice none 0 0) (gz (ts.take 0))):=⟨World.ownsRow_nil _ _ _ _,Below.refl _ _⟩
 go_loopw [4,13] (fun v i wr=>∃ (k n:Nat) (ae:Option Addr) (ce:Nat),k<=zs.length/\i=.int .i64 k/\v=.slice ae n ce/\Hid (n=(bD (gz (ts.take k))).length)/\Hid (iZ w2 wr (.slice ae n ce) (gz (ts.take k)))) (fun _ i _=>zs.length - (intOf i).toNat)
 case atStart=>exact ⟨0,0,none,0,Nat.zero_le _,rfl,rfl,rfl,hR0⟩
 case round=>
  obtain ⟨k,n,ae,ce,hk,rfl,rfl,HN,HE⟩:=hrel
  obtain ⟨hown,hbel⟩:=aa HE
  by_cases hlt:k<zs.length
  ·obtain ⟨g,rfl,-,hg,hc,-⟩:=aa Mw (by omega)
   have hkt:k<ts.length:=by omega
   have hget:=iO ts k hkt
   have c1:=hc (k*2) (by omega)
   have c2:=hc (k*2+1) (by omega)
   rw [hget.1,<-hbel.cell (p:=⟨g,k*2,none⟩) hg] at c1
   rw [hget.2,<-hbel.cell (p:=⟨g,k*2+1,none⟩) hg] at c2
   have htk:ts.take (k+1)=ts.take k++[ts[k]]:=List.take_succ_eq_append_getElem hkt
   have hgp:=aa HGT ts[k] (List.getElem_mem hkt)
   have hms:gz (ts.take (k+1))=lX (gz (ts.take k)) ts[k]:=by rw [htk,Ml]
   have hml:(gz (ts.take k)).length<=1000:=by have:=QZ (ts.take k);rw [List.length_take] at this;omega
   have YB:=hide hms
   have acT:=HGT
   have acU:=HSR
   clear hms htk hget hc Mw HP HSR HG HGT
   generalize hx1:ts[k].1=lo at c1
   generalize hx2:ts[k].2=hi at c2
   have hpe:ts[k]=(lo,hi):=Prod.ext hx1 hx2
   rw [hpe] at YB hgp
   clear hx1 hx2 hpe
   obtain ⟨_,_,hvv,hve⟩:=aN hown
   rw [<-aa HN] at hve
   obtain ⟨rfl,-,rfl⟩:=Value.slice.inj hvv
   clear hvv
   rcases List.eq_nil_or_concat (gz (ts.take k)) with hnil | ⟨L,x,hcon⟩
   ·have hn0:n=0:=by rw [aa HN,hnil];rfl
    subst hn0
    rw [hnil] at HE YB hml
    have HE':Hid _:=hide (show iZ w2 (wr.alloc (.cells #[.int .i32 lo,.int .i32 hi] 248)) (.slice ae 0 ce) [] from ⟨(aa HE).1.alloc _,(aa HE).2.alloc (aa HE).2.size _⟩)
    clear hown hbel hve hnil HE HN
    go_wp2_with fail
    go_quiet (fail)
    have q0:=Ga wr lo hi nq
    have q1:=Mv wr lo hi nq
    have HEq:=hide ((aa HE').drewN nq)
    clear HE'
    generalize (wr.alloc (.cells #[.int .i32 lo,.int .i32 hi] 248)).drewN nq=wq at *
    go_wp2_with (at_builtin;refine IE w2 wq [] _ lo hi (.tmp 42) (.tmp 47) rfl rfl rfl rfl HEq (by simp) ?_;intro ae1 ce1 w1 HE1)
    go_roundw
    case rel=>exact ⟨k+1,_,ae1,ce1,by omega,by go_num,rfl,(by show _=_;rw [aa YB];rfl),(by rw [aa YB,xO];exact HE1)⟩
    case measure=>simp [intOf];omega
   ·simp only [List.concat_eq_append] at hcon
    obtain ⟨m,hm⟩:∃ m,m=L.length*2+1:=⟨_,rfl⟩
    have hn2:n=m+1:=by rw [aa HN,hcon,mI,List.length_append,fF,hm];rfl
    subst hn2
    rw [hcon] at HE YB hml
    have hxg:jw x:=by
     have:=bA (F6 (ts.take k) (acc:=[]) trivial (fun p hp=>aa acT p (List.mem_of_mem_take hp)) ((aa acU).sublist (List.take_sublist _ _)) (by simp)).1 x
     exact this (by show x∈gz (ts.take k);rw [hcon];simp)
    have HE':Hid _:=hide (show iZ w2 (wr.alloc (.cells #[.int .i32 lo,.int .i32 hi] 248)) (.slice ae (m+1) ce) (L++[x]) from ⟨(aa HE).1.alloc _,(aa HE).2.alloc (aa HE).2.size _⟩)
    obtain ⟨ge,rfl,hge,acV,hce,hfe⟩:=hve (by omega)
    have ce1:=hce m (by omega)
    have fe1:=hfe m
    have aeW:L.length<=1000:=by simp at hml;omega
    have hat:(fe (bD (gz (ts.take k))))[m]? = some (.int .i32 x.2):=by
     rw [hcon,mI,hm]
     have hl:=fF L
     simp [fe,bD,hl]
    rw [hat] at ce1
    have hx2:=aD.1 hxg.2.1
    have HM:=hide hm
    have hmb:m<=2001:=by omega
    have hm1:1<=m:=by omega
    have hd0:decide (0<m)=true:=by simp;omega
    clear hown hbel hve hcon HE HN hce hfe hat hm acT acU
    have hbl:=(aa HE').2
    have cq:∀ q,((wr.alloc (.cells #[.int .i32 lo,.int .i32 hi] 248)).drewN q).cell? ⟨ge,m,none⟩=some (.int .i32 x.2):=fun q=>((Below.refl wr.heap.size wr).alloc (Nat.le_refl _) _).cell (p:=⟨ge,m,none⟩) acV |>.trans ce1
    have fq:∀ q,((wr.alloc (.cells #[.int .i32 lo,.int .i32 hi] 248)).drewN q).frozen? ⟨ge,m,none⟩=false:=fun q=>((Below.refl wr.heap.size wr).alloc (Nat.le_refl _) _).frozen (p:=⟨ge,m,none⟩) acV |>.trans fe1
    have q0:=fun q=>Ga wr lo hi q
    have q1:=fun q=>Mv wr lo hi q
    by_cases hle:lo<=kD x.2
    ·have hA:∀ W:World,Calls Tryz.prog 232 #[.int .i32 x.2] W fun e w'=>e=.returned (.int .i32 (kD x.2))/\w'=W:=fun W=>(xR x.2 W (by omega) (by omega)).mono fun e w' hh=>⟨hh.1,hh.2.symm⟩
     obtain ⟨av,MB⟩:∃ av,kD x.2=av:=⟨_,rfl⟩
     rw [MB] at hle hA
     have HA:=hide hA
     have HAV:=hide MB
     clear hA MB
     go_wp2_with fail
     go_quiet ((go_at_call 232;exact Calls.quiet_of_same (aa HA _)))
     have q0':=q0 nq
     have q1':=q1 nq
     have cq':=cq nq
     have fq':=fq nq
     have HEq:=hide ((aa HE').drewN nq)
     clear HE' q0 q1 cq fq HA hbl c1 c2 ce1 fe1
     generalize (wr.alloc (.cells #[.int .i32 lo,.int .i32 hi] 248)).drewN nq=wq at *
     go_wp2_with fail
     go_region
     go_wp2_with fail
     go_roundw
     case rel=>exact ⟨k+1,m+1,_,_,by omega,by go_num,rfl,aa8 YB HM (by rw [lh,if_pos (by rw [aa HAV];exact hle)]),(by rw [aa YB,lh,if_pos (by rw [aa HAV];exact hle)];exact Mt HEq HM)⟩
     case measure=>simp [intOf];omega
    ·have hA:∀ W:World,Calls Tryz.prog 232 #[.int .i32 x.2] W fun e w'=>e=.returned (.int .i32 (kD x.2))/\w'=W:=fun W=>(xR x.2 W (by omega) (by omega)).mono fun e w' hh=>⟨hh.1,hh.2.symm⟩
     have hdl:decide (lo<=kD x.2)=false:=by simpa using hle
     obtain ⟨av,MB⟩:∃ av,kD x.2=av:=⟨_,rfl⟩
     rw [MB] at hle hA hdl
     have HA:=hide hA
     have HAV:=hide MB
     clear hA MB
     go_wp2_with fail
     go_quiet ((go_at_call 232;exact Calls.quiet_of_same (aa HA _)))
     have q0':=q0 nq
     have q1':=q1 nq
     have HEq:=hide ((aa HE').drewN nq)
     clear HE' q0 q1 cq fq HA hbl c1 c2 ce1 fe1
     generalize (wr.alloc (.cells #[.int .i32 lo,.int .i32 hi] 248)).drewN nq=wq at *
     go_wp2_with (at_builtin;refine IE w2 wq (L++[x]) _ lo hi (.tmp 42) (.tmp 47) rfl rfl rfl rfl HEq (by simp;omega) ?_;intro ae1 ce2 w1 HE1)
     go_roundw
     case rel=>exact ⟨k+1,_,ae1,ce2,by omega,by go_num,rfl,(by show _=_;rw [aa YB,lh,if_neg (by rw [aa HAV];show ¬ lo<=av;omega),mI (L++[x]),List.length_append];rfl),(by rw [aa YB,lh,if_neg (by rw [aa HAV];show ¬ lo<=av;omega)];exact HE1)⟩
     case measure=>simp [intOf];omega
  ·have hkz:k=ts.length:=by omega
   have hcv:∀ (W:World),W.heap=wr.heap->(convert 107 61 (.slice ae n ce)).run Tryz.prog W=.ok (.string (encS (gz ts))) W:=by
    intro W hW
    rw [hkz,List.take_length] at HE HN
    exact Q6 (Q5 (aa HE) hW) (aa HN)
   have hfin:gz ts=iM zs:=Iy (aa HG) (aa HP) (aa HSR)
   rw [hfin] at hcv
   have hc0:=hcv wr rfl
   have HBF:=hide ((aa Mx).trans (hbel.mono (aa Mx).size))
   clear hfin hcv HG HP HSR HGT Mw HE HN hown hbel
   go_wp2_with fail
   go_ret
   exact ⟨rfl,aa HBF⟩
theorem MC (w:World) (l:af) (hl:l.length<=1000) (hg:∀ p∈l,jw p):∃ cap w1,(convert 61 107 (.string (encS l))).run Tryz.prog w=.ok (.slice (some ⟨w.heap.size,0,none⟩) (l.length*2) cap) w1/\Below w.heap.size w w1/\w.heap.size<w1.heap.size/\∀ (j:Nat) (u:Value),(fe (bD l))[j]? = some u->w1.cell? ⟨w.heap.size,j,none⟩=some u:=by
 have hr:=uQ hg
 have hfl:=fF l
 have hsz:(Conv.runesFrom (encS l) (encS l).size 0 #[]).size=l.length*2:=by rw [hr,List.size_toArray,List.length_map,hfl]
 have h:=run_runes_of_string (P:=Tryz.prog) w 61 107 21 (encS l) Tryz.underlying61 Tryz.underlying107 Tryz.underlying21 (by rw [hsz];omega)
 rw [hsz,hr] at h
 refine ⟨_,_,h,?_,by rw [World.size_alloc];exact Nat.lt_succ_self _,fun j u hu=>?_⟩
 ·have hb:=(Below.refl w.heap.size w).alloc (Nat.le_refl _) (.cells (((bD l).map (Value.int .i32)).toArray++Array.replicate (grownCap w (l.length*2) 0 21 - l.length*2) (.int .i32 0)) 21)
  exact ⟨hb.os,hb.tape,hb.output,hb.size,hb.block⟩
 ·have hn:=heap_alloc_new w.drew (.cells (((bD l).map (Value.int .i32)).toArray++Array.replicate (grownCap w (l.length*2) 0 21 - l.length*2) (.int .i32 0)) 21)
  have hn':(w.drew.alloc (.cells (((bD l).map (Value.int .i32)).toArray++Array.replicate (grownCap w (l.length*2) 0 21 - l.length*2) (.int .i32 0)) 21)).heap[w.heap.size]? = _:=hn
  have hj:j<(fe (bD l)).length:=by
   rcases Nat.lt_or_ge j (fe (bD l)).length with h | h
   ·exact h
   ·rw [List.getElem?_eq_none h] at hu;cases hu
  simp only [World.cell?,hn']
  simp only [Option.isSome_none,Bool.false_eq_true,if_false]
  rw [Array.getElem?_append_left (by simpa [fe] using hj)]
  simpa [fe] using hu
theorem Um (w:World) (o:Obj):(w.alloc o).drew.heap[w.heap.size]? = some o:=heap_alloc_new w o
theorem Un (w:World) (o:Obj):(w.alloc o).drew.heap.size=w.heap.size+1:=by
 show (w.alloc o).heap.size=_
 simp
theorem IG {w1 w':World} {g cap k:Nat} {l:af} (hk:k<l.length) (ho:Hid (w'.ownsRow w1.heap.size 248 2 (.slice (some ⟨g,0,none⟩) (k+1) cap) (k+1) (aJ (l.take k)++[.int .i32 l[k].1,.int .i32 l[k].2]))) :
  w'.ownsRow w1.heap.size 248 2 (.slice (some ⟨g,0,none⟩) (k+1) cap) (k+1) (aJ (l.take (k+1))):=by
 rw [List.take_succ_eq_append_getElem hk,iJ];exact ho
theorem Ep {w1 wr w3:World} {o:Obj} {v:Value} {n:Nat} {xs:List Value} (hb:Hid (Below w1.heap.size w1 wr)) (ho:Hid (wr.ownsRow w1.heap.size 248 2 v n xs)) (hg:Hid ((wr.alloc o).drew.grownBy w3 v.ownBlock)):Hid (Below w1.heap.size w1 w3):=by
 have h:=aa hg
 exact iW (aa hb) (aa ho) (show (wr.alloc o).grownBy w3 v.ownBlock from ⟨h.os,h.tape,h.output,h.size,h.block⟩) (aa hb).size
theorem flat_get:∀ (l:af) (k:Nat) (h:k<l.length),(fe (bD l))[k*2]? = some (.int .i32 l[k].1)/\(fe (bD l))[k*2+1]? = some (.int .i32 l[k].2)
 | [],_,h=>by simp at h
 | x::l,0,_=>⟨rfl,rfl⟩
 | x::l,i+1,h=>by
  have ih:=flat_get l i (by simpa using h)
  rw [show (i+1)*2=i*2+1+1 from by omega]
  simpa [bD,fe] using ih
set_option maxRecDepth 100000 in
set_option maxHeartbeats 4000000 in
theorem jM (w:World) (l:af) (hl:l.length<=1000) (hg:∀ p∈l,jw p) :
  Calls Tryz.prog 161 #[.string (encS l)] w fun e w'=>∃ v,e=.returned v/\w'.ownsRow w.heap.size 248 2 v l.length (aJ l)/\Below w.heap.size w w':=by
 obtain ⟨i0,hi0,hz0,hz1,hz2⟩:=info_parts oZ
 obtain ⟨cap,w1,aay,hb1,hlt1,hc1⟩:=MC w l hl hg
 have HB1:=hide hb1
 have LV:=hide hc1
 clear hb1 hc1
 generalize encS l=s at aay
 obtain ⟨N,hN⟩:∃ N,l.length*2=N:=⟨_,rfl⟩
 rw [hN] at aay
 have hN2:N<=2000:=by omega
 have LW:=hide hN
 clear hN
 go_enter Tryz.func161,Tryz.ntmps161
 go_wp2_with fail
 go_loopw [4,5] (fun v i wr=>∃ (k m:Nat) (av:Option Addr) (cv:Nat),k<=l.length/\i=.int .i64 m/\v=.slice av k cv/\Hid (k*2=m)/\Hid (wr.ownsRow w1.heap.size 248 2 (.slice av k cv) k (aJ (l.take k)))/\Hid (Below w1.heap.size w1 wr)) (fun _ i _=>N - (intOf i).toNat)
 case atStart=>exact ⟨0,0,none,0,Nat.zero_le _,rfl,rfl,rfl,World.ownsRow_nil _ _ _ _,Below.refl _ _⟩
 case round=>
  obtain ⟨k,m,av,cv,hk,rfl,rfl,HM,HO,HB⟩:=hrel
  have hmm:=aa HM
  have hnn:=aa LW
  by_cases hlt:k<l.length
  ·have hf:=flat_get l k hlt
   have c1:=((aa HB).cell (p:=⟨w.heap.size,k*2,none⟩) hlt1).trans (aa LV _ _ hf.1)
   have c2:=((aa HB).cell (p:=⟨w.heap.size,k*2+1,none⟩) hlt1).trans (aa LV _ _ hf.2)
   clear hf LV
   have HX:=HO
   have hown:=aa HO
   have hsz:=(aa HB).size
   clear HO
   generalize hlo:l[k].1=lo at c1
   generalize hhi:l[k].2=hi at c2
   rw [hmm] at c1 c2
   have hmN:m+1<N:=by omega
   have hmI:(m:Int)+1<(N:Int):=by omega
   have hmJ:(m:Int)<(N:Int):=by omega
   have hm0:(0:Int)<=(m:Int)+1:=by omega
   have hwr:IntKind.i64.wrap ((m:Int)+1)=((m+1:Nat):Int):=by simp [IntKind.wrap,IntKind.bits,IntKind.signed];omega
   clear hmm hnn
   go_wp2_with fail
   go_region_law
    ((refine step_append_lies _ (by rfl) _ _ _ (by rfl) w1.heap.size 248 i0 _ 2 8 Tryz.underlying237 hi0 hz0 hz1 hz2 rfl (by omega) (.slice av k cv) k (aJ (l.take k)) (by rfl) ((hown.alloc _).drew)
       ⟨wr.heap.size,0,none⟩ 1 1 [.int .i32 lo,.int .i32 hi] (by rfl) (by rfl) (World.news_of_block (cs:=#[.int .i32 lo,.int .i32 hi]) (t:=248) (fr:=(0,0)) (Um wr _)) (by intro u hu;simp at hu;rcases hu with rfl | rfl<;>rfl)
       (by omega) (by unfold maxLen;omega) (by omega) (by show w1.heap.size<=(wr.alloc _).heap.size;simp;omega) (wr.heap.size+1) (Un wr _) ?_;intro gg cap2 w3 hown1 hgrow hat hlt3))
   all_goals have HG:=hide hgrow
   all_goals have xS:=hide hown1
   all_goals clear hgrow hown1 hown
   all_goals go_wp2_with fail
   all_goals go_roundw
   case rel=>exact ⟨k+1,m+2,some ⟨gg,0,none⟩,cap2,by omega,by go_num,rfl,(by show (k+1)*2=m+2;have:=aa HM;omega),IG hlt (by rw [hlo,hhi];exact xS),Ep HB HX HG⟩
   case measure=>simp [intOf];omega
   case rel=>exact ⟨k+1,m+2,some ⟨gg,0,none⟩,cap2,by omega,by go_num,rfl,(by show (k+1)*2=m+2;have:=aa HM;omega),IG hlt (by rw [hlo,hhi];exact xS),Ep HB HX HG⟩
   case measure=>simp [intOf];omega
  ·have hkl:k=l.length:=by omega
   have hmN:m=N:=by omega
   subst hmN
   subst hkl
   rw [List.take_length] at HO
   clear LV hmm hnn
   go_wp2_with fail
   go_ret
   exact ⟨_,rfl,dU (aa HO) (aa HB1).size,(aa HB1).trans ((aa HB).mono (aa HB1).size)⟩
theorem Uo {ops:Array Oper} {rest:List Oper} {o:Oper} {a:Act} {Q:Exit->Act->World->Prop} (w wr:World) (zs:List (Int×Int)) (v:Value) (lo hi:Int) (s x:Operand) (hg:o.guard=none)
  (hop:o.op=.call { callee:=.builtin .append,args:=#[s,x],argTypes:=#[237,237] }) (hs:a.eval s=v) (hx:a.eval x=.slice (some ⟨wr.heap.size,0,none⟩) 1 1)
  (ho:Hid (wr.ownsRow w.heap.size 248 2 v zs.length (aJ zs))) (hb:Hid (Below w.heap.size w wr)) (hl:zs.length<=2000000)
  (K:∀ ao cap w',Hid (w'.ownsRow w.heap.size 248 2 (.slice ao (zs.length+1) cap) (zs++[(lo,hi)]).length (aJ (zs++[(lo,hi)])))->Hid (Below w.heap.size w w')->Hid ((wr.alloc (.cells #[.int .i32 lo,.int .i32 hi] 248)).grownBy w' v.ownBlock)->wpList Tryz.prog ops Q rest (a.put o.dst (.slice ao (zs.length+1) cap)) w') :
  wpList Tryz.prog ops Q (o::rest) a (wr.alloc (.cells #[.int .i32 lo,.int .i32 hi] 248)):=by
 obtain ⟨i0,hi0,hz0,hz1,hz2⟩:=info_parts oZ
 have hb':Below w.heap.size w wr:=hb
 have:=hb'.size
 refine wpList_append_own _ hg s x 237 hop w.heap.size 248 i0 (.agg #[.int .i32 0,.int .i32 0]) 2 8 Tryz.underlying237 hi0 hz0 hz1 hz2 rfl (by decide) _ _ _ hs ((aa ho).alloc _) ⟨wr.heap.size,0,none⟩ 1 1 [.int .i32 lo,.int .i32 hi] hx rfl (bz wr [.int .i32 lo,.int .i32 hi] _) (by intro u hu;simp at hu;rcases hu with rfl | rfl<;>rfl) (by unfold maxLen;omega) (by omega) (by simp;omega) ?_
 intro v' w' h1 h2 _
 have h3:w'.ownsRow w.heap.size 248 2 v' (zs++[(lo,hi)]).length (aJ (zs++[(lo,hi)])):=by
  rw [iJ,List.length_append];exact h1
 obtain ⟨ao,cap,rfl,-⟩:=aN h3
 have e:(zs++[(lo,hi)]).length=zs.length+1:=by simp
 rw [e] at h3 ⊢
 exact K ao cap w' (by rw [e];exact h3) (iW hb ho h2 hb'.size) h2
theorem ni {w':World} {v:Value} {zs:List (Int×Int)} {base:Nat} (ho:w'.ownsRow base 248 2 v zs.length (aJ zs)):vQ w'.heap.size w' v zs:=by
 rcases ho.2 with ⟨rfl,hz⟩ | ⟨g,cap,cur,rfl,hb,hg,h1,h2,h3,h4⟩
 ·exact .inl ⟨rfl,List.eq_nil_of_length_eq_zero hz⟩
 ·refine .inr ⟨g,0,cap,rfl,(Array.getElem?_eq_some_iff.1 hg).1,fun j hj=>?_⟩
  have hc:=ho.cells (g:=g) rfl
  have hgt:=iO zs j hj
  have e0:(⟨g,0,none⟩:Addr).add (j*2)=⟨g,0+j*2,none⟩:=by unfold Addr.add;split<;>simp_all
  have e1:(⟨g,0,none⟩:Addr).add (j*2+1)=⟨g,0+j*2+1,none⟩:=by unfold Addr.add;split<;>simp_all
  have c0:=hc _ _ hgt.1
  have c1:=hc _ _ hgt.2
  rw [e0] at c0
  rw [e1] at c1
  exact ⟨c0,c1⟩
def rD (w1 wr:World) (v:Value) (zs:af):Prop:=wr.ownsRow w1.heap.size 248 2 v zs.length (aJ zs)/\Below w1.heap.size w1 wr
theorem rD.alloc {w1 wr:World} {v:Value} {zs:af} (h:rD w1 wr v zs) (o:Obj):rD w1 (wr.alloc o) v zs:=⟨h.1.alloc o,h.2.alloc h.2.size o⟩
theorem aaz {l:af} (h:Tidy l):∀ k,k<=l.length->0<=(aT (l.take k)).2/\(aT (l.take k)).2<=1114112/\(aT (l.take k)).1.length<=k
 | 0,_=>by simp [aT]
 | k+1,hk=>by
  have ih:=aaz h k (by omega)
  have hg:=bA h l[k] (List.getElem_mem (by omega))
  have s2:=aD.1 hg.2.1
  rw [List.take_succ_eq_append_getElem (by omega),vV]
  simp only [gM]
  refine ⟨by unfold kD;split<;>omega,by unfold kD;split<;>omega,?_⟩
  rw [List.length_append]
  split<;>simp<;>omega
theorem II {wq w3:World} {o:Obj} {row:Option Nat} {b j:Nat} {u:Value} (hg:Hid ((wq.alloc o).grownBy w3 row)) (hlt:b<wq.heap.size) (hne:some b≠row) (hc:wq.cell? ⟨b,j,none⟩=some u):w3.cell? ⟨b,j,none⟩=some u:=by
 have h1:w3.heap[b]? = wq.heap[b]? := ((aa hg).block b (by simp;omega) hne).trans (Below.heap_alloc wq o b hlt)
 rw [World.cell?_of_block h1];exact hc
theorem aa9 {l:af} {k n:Nat} {low lo hi:Int} (hr:Hid (aT (l.take (k+1))=gM (aT (l.take k)) (lo,hi))) (hl:Hid (low=(aT (l.take k)).2)) (hn:Hid (n=(aT (l.take k)).1.length)) (h:¬ low<lo):Hid (n=(aT (l.take (k+1))).1.length):=by
 show n=_
 rw [aa hr,gM,<-aa hl,if_neg h,List.append_nil];exact aa hn
theorem acW {w1 wr:World} {v:Value} {l:af} {k:Nat} {low lo hi:Int} (hr:Hid (aT (l.take (k+1))=gM (aT (l.take k)) (lo,hi))) (hl:Hid (low=(aT (l.take k)).2)) (h:¬ low<lo) (hg:Hid (rD w1 wr v (aT (l.take k)).1)):Hid (rD w1 wr v (aT (l.take (k+1))).1):=by
 rw [aa hr,gM,<-aa hl,if_neg h,List.append_nil];exact hg
theorem aa_ {l:af} {k:Nat} {low lo hi:Int} (hr:Hid (aT (l.take (k+1))=gM (aT (l.take k)) (lo,hi))) (hl:Hid (low=(aT (l.take k)).2)) (h:low<lo):Hid ((aT (l.take k)).1.length+1=(aT (l.take (k+1))).1.length):=by
 show _=_
 rw [aa hr,gM,<-aa hl,if_pos h,List.length_append];rfl
theorem acX {w1 w3:World} {ao:Option Addr} {cap:Nat} {l:af} {k:Nat} {low lo hi:Int} (hr:Hid (aT (l.take (k+1))=gM (aT (l.take k)) (lo,hi))) (hl:Hid (low=(aT (l.take k)).2)) (h:low<lo)
  (ho:Hid (w3.ownsRow w1.heap.size 248 2 (.slice ao ((aT (l.take k)).1.length+1) cap) ((aT (l.take k)).1++[(low,zD lo)]).length (aJ ((aT (l.take k)).1++[(low,zD lo)])))) (hb:Hid (Below w1.heap.size w1 w3)) :
  Hid (rD w1 w3 (.slice ao ((aT (l.take k)).1.length+1) cap) (aT (l.take (k+1))).1):=by
 rw [aa hr,gM,<-aa hl,if_pos h];exact ⟨ho,hb⟩
theorem Q7 {w3 w1:World} {ao:Option Addr} {cap:Nat} {zs:af} {p:Int×Int} (h:Hid (w3.ownsRow w1.heap.size 248 2 (.slice ao (zs.length+1) cap) (zs++[p]).length (aJ (zs++[p])))):w3.ownsRow w1.heap.size 248 2 (.slice ao (zs.length+1) cap) (zs++[p]).length (aJ (zs++[p])):=h
set_option maxRecDepth 100000 in
set_option maxHeartbeats 4000000 in
theorem nk (w:World) (l:af) (hl:l.length<=900) (ht:Tidy l) :
  Calls Tryz.prog 156 #[.string (encS l)] w fun e w'=>e=.returned (.string (encS (fE l)))/\Below w.heap.size w w':=by
 have hP:=jM w l (by omega) (bA ht)
 have HP:=hide hP
 have HT:=hide ht
 clear hP ht
 generalize encS l=s at HP
 go_enter Tryz.func156,Tryz.ntmps156
 go_wp2_with (go_at_call 161;refine (aa HP).mono ?_;clear HP;rintro e w1 ⟨v,rfl,hrow,hb⟩;have HB1:=hide hb;obtain ⟨av,cv,rfl,hvw⟩:=aN hrow;have Mw:=hide hvw;clear hrow hb hvw)
 go_loopw [3,4,10] (fun v lw i wr=>∃ (k:Nat) (ag:Option Addr) (n cg:Nat) (low:Int),k<=l.length/\i=.int .i64 k/\lw=.int .i32 low/\v=.slice ag n cg/\Hid (low=(aT (l.take k)).2)/\Hid (n=(aT (l.take k)).1.length)/\Hid (rD w1 wr (.slice ag n cg) (aT (l.take k)).1)) (fun _ _ i _=>l.length - (intOf i).toNat)
 case atStart=>exact ⟨0,none,0,0,0,Nat.zero_le _,rfl,rfl,rfl,rfl,rfl,⟨World.ownsRow_nil _ _ _ _,Below.refl _ _⟩⟩
 case round=>
  obtain ⟨k,ag,n,cg,low,hk,rfl,rfl,rfl,HL,HN,HG⟩:=hrel
  have hrb:=aaz (aa HT) k hk
  rw [<-aa HL] at hrb
  have aej:(aT (l.take k)).1.length<=2000:=by omega
  by_cases hlt:k<l.length
  ·obtain ⟨g,rfl,-,hg,hc,-⟩:=aa Mw (by omega)
   have hget:=iO l k hlt
   have c1:=hc (k*2) (by omega)
   have c2:=hc (k*2+1) (by omega)
   rw [hget.1,<-(aa HG).2.cell (p:=⟨g,k*2,none⟩) hg] at c1
   rw [hget.2,<-(aa HG).2.cell (p:=⟨g,k*2+1,none⟩) hg] at c2
   have hgp:=bA (aa HT) l[k] (List.getElem_mem hlt)
   have hrun:aT (l.take (k+1))=gM (aT (l.take k)) l[k]:=by rw [List.take_succ_eq_append_getElem hlt,vV]
   have ME:=hide hrun
   clear hget hc hrun Mw
   generalize hx1:l[k].1=lo at c1
   generalize hx2:l[k].2=hi at c2
   have hpe:l[k]=(lo,hi):=Prod.ext hx1 hx2
   rw [hpe] at ME hgp
   have s1:=aD.1 hgp.1
   have s2:=aD.1 hgp.2.1
   simp only [] at s1 s2
   clear hx1 hx2 hpe hgp
   have HG':=hide ((aa HG).alloc (.cells #[.int .i32 lo,.int .i32 hi] 248))
   have q0:=Ga wr lo hi 0
   have q1:=Mv wr lo hi 0
   have hA:∀ W:World,Calls Tryz.prog 232 #[.int .i32 hi] W fun e w'=>e=.returned (.int .i32 (kD hi))/\w'=W:=fun W=>(xR hi W (by omega) (by omega)).mono fun e w' hh=>⟨hh.1,hh.2.symm⟩
   have HA:=hide hA
   have IJ:=HG
   clear hA HG
   by_cases hlow:low<lo
   ·have hBl:∀ W:World,Calls Tryz.prog 231 #[.int .i32 lo] W fun e w'=>e=.returned (.int .i32 (zD lo))/\w'=W:=fun W=>(Q4 lo W (by omega) (by omega)).mono fun e w' hh=>⟨hh.1,hh.2.symm⟩
    have HBl:=hide hBl
    clear hBl
    have hne:some wr.heap.size≠(Value.slice ag n cg).ownBlock:=fun e=>by have:=((aa IJ).1.lt _ e.symm).2;omega
    have hlt2:wr.heap.size<(wr.alloc (.cells #[.int .i32 lo,.int .i32 hi] 248)).heap.size:=by simp
    have q1':(wr.alloc (.cells #[.int .i32 lo,.int .i32 hi] 248)).cell? ⟨wr.heap.size,1,none⟩=some (.int .i32 hi):=q1
    have HG2:Hid (rD w1 (wr.alloc (.cells #[.int .i32 lo,.int .i32 hi] 248)) (.slice ag n cg) (aT (l.take k)).1):=HG'
    clear HG' q1 q0 IJ
    go_wp2_with (first
     | (go_at_call 231;refine (aa HBl _).mono ?_;clear HBl;rintro e w' ⟨rfl,rfl⟩;generalize wr.alloc (.cells #[.int .i32 lo,.int .i32 hi] 248)=wq at *)
     | (at_builtin;refine Uo w1 wq (aT (l.take k)).1 _ low (zD lo) (.tmp 18) (.tmp 24) rfl rfl rfl rfl (aa HG2).1 (aa HG2).2 (by omega) ?_;intro Tt pq w3 qg HB3 HGR;have q3:w3.cell? ⟨wr.heap.size,1,none⟩=some (.int .i32 hi):=II HGR hlt2 hne q1';clear q1' HG2 HGR)
     | (go_at_call 232;refine (aa HA _).mono ?_;rintro e w' ⟨rfl,rfl⟩))
    go_roundw
    case rel=>exact ⟨k+1,Tt,_,pq,_,by omega,by go_num,rfl,rfl,(by show _=_;rw [aa ME];rfl),aa_ ME HL hlow,acX ME HL hlow qg HB3⟩
    case measure=>simp [intOf];omega
   ·go_wp2_with (go_at_call 232;refine (aa HA _).mono ?_;rintro e w' ⟨rfl,rfl⟩)
    go_roundw
    case rel=>exact ⟨k+1,ag,n,cg,_,by omega,by go_num,rfl,rfl,(by show _=_;rw [aa ME];rfl),aa9 ME HL HN (by omega),acW ME HL (by omega) HG'⟩
    case measure=>simp [intOf];omega
  ·have hkl:k=l.length:=by omega
   subst hkl
   rw [List.take_length] at HL HN HG aej
   have hall:=IB l
   have hgd:=Eo (aa HT)
   have hgl:=IA l 0
   have Gb:=Mm (aa HT)
   have hb1:=(aa HB1)
   by_cases hlow:low<=1114111
   ·rw [if_pos (by rw [<-aa HL];exact hlow),<-aa HL] at hall
    rw [hall] at hgd hgl Gb
    have HGD:=hide hgd
    have aba:=hide Gb
    have HGL:=hide hgl
    clear hgd Gb hall hb1 hgl Mw HT
    go_wp2_with (first
     | (at_builtin;refine Uo w1 wr (aT l).1 _ low 1114111 (.tmp 32) (.tmp 35) rfl rfl rfl rfl (aa HG).1 (aa HG).2 (by omega) ?_;intro Tt pq w3 qg HB3 _)
     | (go_at_call 160;refine (o_ w3 _ ((aT l).1++[(low,1114111)]) (by have:=aa HGL;omega) (ni (Q7 qg)) (aa HGD)).mono ?_;rintro e w4 ⟨rfl,hb4⟩;have qh:=hide hb4;clear hb4))
    go_ret
    exact ⟨by rw [<-aa aba];rfl,((aa HB1).trans ((aa HB3).mono (aa HB1).size)).trans ((aa qh).mono (Nat.le_trans (aa HB1).size (aa HB3).size))⟩
   ·rw [if_neg (by rw [<-aa HL];exact hlow),List.append_nil] at hall
    rw [hall] at hgd hgl Gb
    have HGD:=hide hgd
    have aba:=hide Gb
    have HGL:=hide hgl
    have acY:=ni (aa HG).1
    have HPC:=hide acY
    clear hgd Gb hall hb1 hgl Mw HT acY
    go_wp2_with (go_at_call 160;refine (o_ wr _ (aT l).1 (by have:=aa HGL;omega) (aa HPC) (aa HGD)).mono ?_;rintro e w4 ⟨rfl,hb4⟩;have qh:=hide hb4;clear hb4)
    go_ret
    exact ⟨by rw [<-aa aba];rfl,((aa HB1).trans ((aa HG).2.mono (aa HB1).size)).trans ((aa qh).mono (Nat.le_trans (aa HB1).size (aa HG).2.size))⟩
end Go.Proofs.YtfolanohokflkaaGreatDoor
