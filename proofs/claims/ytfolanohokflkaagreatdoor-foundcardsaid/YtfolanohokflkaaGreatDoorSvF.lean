import Derived.Test.YtfolanohokflkaaGreatDoorTabC
import Derived.Laws.Cover4
import Derived.Laws.IdiomStrings
import Derived.Shelf.SlSortCmp.WholeK
import Derived.Test.YtfolanohokflkaaGreatDoorProg
import Derived.Test.YtfolanohokflkaaGreatDoorSvB
import Derived.Shelf.SlSortCmp.NoneTotal
import Derived.Sort.OwnSorted
import Derived.Deep.QuietTactic
import Derived.BigQuiet
import Derived.BigRegion
import Derived.WalkKit
import Derived.WalkSpells
import Derived.WalkLawsBesides
import Derived.Deep.AppendLies
import Derived.Deep.RegionLaw
namespace Go.Proofs.YtfolanohokflkaaGreatDoor
abbrev af:=List (Int×Int)
def dw (l:af) (c:Int):Bool:=l.any fun x=>decide (x.1<=c)&&decide (c<=x.2)
theorem eT (c:Int):dw [] c=false:=rfl
theorem gW (x:Int×Int) (l:af) (c:Int):dw (x::l) c=(decide (x.1<=c/\c<=x.2)||dw l c):=by
 simp [dw,Bool.decide_and]
theorem bW {x:Int×Int} {l:af} {c:Int}:dw (x::l) c=true↔(x.1<=c/\c<=x.2)\/dw l c=true:=by
 rw [gW];simp
theorem aF {n:Int}:aG n=true↔0<=n/\n<=1114111/\(n<55296\/57343<n):=by simp [aG]
def zl {α:Type} (gt:α->α->Bool) (c:α):List α->List α
 | []=>[c]
 | x::r=>if gt x c=true then c::x::r else x::zl gt c r
theorem AB {α:Type} {gt:α->α->Bool} {c x:α}:∀ {l:List α},x∈zl gt c l↔x=c\/x∈l
 | []=>by simp [zl]
 | y::r=>by
  rw [zl]
  split
  ·simp
  ·simp [AB (l:=r)]
   constructor
   ·rintro (h | h | h)<;>simp [h]
   ·rintro (h | h | h)<;>simp [h]
def oV {α:Type} [BEq α] (gt:α->α->Bool) (c:α) (l:List α):List α:=if l.contains c=true then l else zl gt c l
theorem sM {α:Type} [BEq α] [LawfulBEq α] {gt:α->α->Bool} {c x:α} {l:List α}:x∈oV gt c l↔x=c\/x∈l:=by
 unfold oV
 split
 ·rename_i h
  have h':c∈l:=by simpa using h
  constructor
  ·exact .inr
  ·rintro (rfl | h2)
   ·exact h'
   ·exact h2
 ·exact AB
theorem qX {α:Type} {gt:α->α->Bool} (htr:∀ a b c,gt b a=true->gt c b=true->gt c a=true) {c:α} :
  ∀ {l:List α},(∀ x∈l,gt x c=true\/gt c x=true)->l.Pairwise (fun a b=>gt b a=true)->(zl gt c l).Pairwise (fun a b=>gt b a=true)
 | [],_,_=>by simp [zl]
 | y::r,hc,hp=>by
  rw [zl]
  have hp':=List.pairwise_cons.1 hp
  split
  ·rename_i h
   refine List.pairwise_cons.2 ⟨fun z hz=>?_,hp⟩
   rcases List.mem_cons.1 hz with rfl | hz
   ·exact h
   ·exact htr _ _ _ h (hp'.1 z hz)
  ·rename_i h
   refine List.pairwise_cons.2 ⟨fun z hz=>?_,qX htr (fun x hx=>hc x (List.mem_cons_of_mem _ hx)) hp'.2⟩
   rcases AB.1 hz with rfl | hz
   ·rcases hc y (List.mem_cons_self ..) with h2 | h2
    ·exact absurd h2 h
    ·exact h2
   ·exact hp'.1 z hz
theorem uD {α:Type} {gt:α->α->Bool} (XX:∀ a,gt a a=false) (htr:∀ a b c,gt b a=true->gt c b=true->gt c a=true) :
  ∀ {l m:List α},l.Pairwise (fun a b=>gt b a=true)->m.Pairwise (fun a b=>gt b a=true)->(∀ x,x∈l↔x∈m)->l=m
 | [],[],_,_,_=>rfl
 | [],y::m,_,_,h=>absurd ((h y).2 (List.mem_cons_self ..)) (by simp)
 | x::l,[],_,_,h=>absurd ((h x).1 (List.mem_cons_self ..)) (by simp)
 | x::l,y::m,hl,hm,h=>by
  have hl':=List.pairwise_cons.1 hl
  have hm':=List.pairwise_cons.1 hm
  have e:x=y:=by
   rcases List.mem_cons.1 ((h x).1 (List.mem_cons_self ..)) with e | e
   ·exact e
   ·rcases List.mem_cons.1 ((h y).2 (List.mem_cons_self ..)) with e2 | e2
    ·exact e2.symm
    ·have h1:=hm'.1 x e
     have h2:=hl'.1 y e2
     have h3:=htr _ _ _ h1 h2
     rw [XX] at h3;exact absurd h3 (by simp)
  subst e
  have hx:∀ z,z∈l↔z∈m:=by
   intro z
   constructor
   ·intro hz
    rcases List.mem_cons.1 ((h z).1 (List.mem_cons_of_mem _ hz)) with e | e
    ·subst e;have h3:=hl'.1 z hz;rw [XX] at h3;exact absurd h3 (by simp)
    ·exact e
   ·intro hz
    rcases List.mem_cons.1 ((h z).2 (List.mem_cons_of_mem _ hz)) with e | e
    ·subst e;have h3:=hm'.1 z hz;rw [XX] at h3;exact absurd h3 (by simp)
    ·exact e
  rw [uD XX htr hl'.2 hm'.2 hx]
def gtI (a b:Int):Bool:=decide (b<a)
theorem zG {a b:Int}:gtI a b=true↔b<a:=by simp [gtI]
def jA (c:Int):Int:=if 55296<=c/\c<=57343 then 57344 else c
def fG (l:List Int) (c:Int):List Int:=if 1114111<jA c then l else oV gtI (jA c) l
def tO (l:List Int):Prop:=l.Pairwise (fun a b=>gtI b a=true)
theorem F5 {l:List Int} (h:tO l) (c:Int):tO (oV gtI c l):=by
 unfold oV
 split
 ·exact h
 ·rename_i hc
  refine qX (fun a b c h1 h2=>?_) (fun x hx=>?_) h
  ·rw [zG] at *;omega
  ·rw [zG,zG]
   have:¬ x=c:=by rintro rfl;exact hc (by simpa using hx)
   omega
theorem qY {l:List Int} (h:tO l) (c:Int):tO (fG l c):=by
 unfold fG;split
 ·exact h
 ·exact F5 h _
theorem yF {l:List Int} {c x:Int}:x∈fG l c↔x∈l\/(x=jA c/\x<=1114111):=by
 unfold fG
 split
 ·constructor
  ·exact .inl
  ·rintro (h | ⟨rfl,h⟩)
   ·exact h
   ·omega
 ·rw [sM]
  constructor
  ·rintro (rfl | h)
   ·exact .inr ⟨rfl,by omega⟩
   ·exact .inl h
  ·rintro (h | ⟨rfl,h⟩)
   ·exact .inr h
   ·exact .inl rfl
theorem TA (c:Int):c<=jA c:=by unfold jA;split<;>omega
theorem TC {c x:Int} (hx:aG x=true) (h:c<=x):jA c<=x:=by
 rw [aF] at hx;unfold jA;split<;>omega
theorem El {c:Int} (h0:0<=c) (h:jA c<=1114111):aG (jA c)=true:=by
 rw [aF];unfold jA at *;split at h<;>omega
def Pos (a:af):Prop:=∀ x∈a,0<=x.1/\0<=x.2
def ng (l:List Int) (a:af):List Int:=a.foldl (fun l x=>fG (fG l x.1) (x.2+1)) l
def mD (a b:af):List Int:=ng (ng [0] a) b
theorem oF:∀ (a:af) {l:List Int},tO l->tO (ng l a)
 | [],_,h=>h
 | x::a,l,h=>oF a (l:=fG (fG l x.1) (x.2+1)) (qY (qY h _) _)
theorem uE:∀ (a:af) {l:List Int} {y:Int},y∈ng l a↔y∈l\/∃ x∈a,(y=jA x.1\/y=jA (x.2+1))/\y<=1114111
 | [],l,y=>by simp [ng]
 | x::a,l,y=>by
  rw [show ng l (x::a)=ng (fG (fG l x.1) (x.2+1)) a from rfl,uE a,yF,yF]
  constructor
  ·rintro (((h | ⟨h1,h2⟩) | ⟨h1,h2⟩) | ⟨z,hz,h⟩)
   ·exact .inl h
   ·exact .inr ⟨x,List.mem_cons_self ..,.inl h1,h2⟩
   ·exact .inr ⟨x,List.mem_cons_self ..,.inr h1,h2⟩
   ·exact .inr ⟨z,List.mem_cons_of_mem _ hz,h⟩
  ·rintro (h | ⟨z,hz,h1,h2⟩)
   ·exact .inl (.inl (.inl h))
   ·rcases List.mem_cons.1 hz with rfl | hz
    ·rcases h1 with h1 | h1
     ·exact .inl (.inl (.inr ⟨h1,h2⟩))
     ·exact .inl (.inr ⟨h1,h2⟩)
    ·exact .inr ⟨z,hz,h1,h2⟩
theorem oW {a b:af} {y:Int}:y∈mD a b↔y=0\/(∃ x∈a,(y=jA x.1\/y=jA (x.2+1))/\y<=1114111)\/∃ x∈b,(y=jA x.1\/y=jA (x.2+1))/\y<=1114111:=by
 rw [mD,uE,uE,or_assoc];simp
theorem iZ (a b:af):tO (mD a b):=oF _ (oF _ (by simp [tO]))
theorem kZ {a b:af} (ha:Pos a) (hb:Pos b):∀ y∈mD a b,aG y=true:=by
 intro y hy
 have key:∀ l:af,Pos l->(∃ x∈l,(y=jA x.1\/y=jA (x.2+1))/\y<=1114111)->aG y=true:=by
  rintro l hl ⟨x,hx,rfl | rfl,h⟩
  ·exact El (hl x hx).1 h
  ·exact El (by have:=(hl x hx).2;omega) h
 rcases oW.1 hy with rfl | h | h
 ·decide
 ·exact key a ha h
 ·exact key b hb h
theorem ni {x:Int} {r:List Int} (h:tO (x::r)):∀ y∈r,x<y:=fun y hy=>zG.1 ((List.pairwise_cons.1 h).1 y hy)
theorem iM {x:Int} {r:List Int} (h:tO (x::r)):tO r:=(List.pairwise_cons.1 h).2
def Ht:List Int->Int->Int
 | [],c=>c
 | [x],_=>x
 | x::y::r,c=>if y<=c then Ht (y::r) c else x
theorem Iu:∀ (l:List Int) (c:Int),tO l->(∃ x r,l=x::r/\x<=c)->Ht l c∈l/\Ht l c<=c/\∀ y∈l,y<=c->y<=Ht l c
 | [],_,_,h=>by obtain ⟨x,r,h,_⟩:=h;cases h
 | [x],c,_,h=>by
  obtain ⟨x',r,e,hx⟩:=h
  cases e
  exact ⟨by simp [Ht],hx,fun y hy _=>by simp at hy;simp [Ht,hy]⟩
 | x::y::r,c,hs,h=>by
  obtain ⟨x',r',e,hx⟩:=h
  cases e
  rw [Ht]
  have h1:=ni hs
  split
  ·rename_i hy
   obtain ⟨h2,h3,h4⟩:=Iu (y::r) c (iM hs) ⟨y,r,rfl,hy⟩
   refine ⟨List.mem_cons_of_mem _ h2,h3,fun z hz hzc=>?_⟩
   rcases List.mem_cons.1 hz with rfl | hz
   ·have:=h4 y (List.mem_cons_self ..) hy
    have:=h1 y (List.mem_cons_self ..)
    omega
   ·exact h4 z hz hzc
  ·rename_i hy
   refine ⟨List.mem_cons_self ..,hx,fun z hz hzc=>?_⟩
   rcases List.mem_cons.1 hz with rfl | hz
   ·exact Int.le_refl _
   ·rcases List.mem_cons.1 hz with rfl | hz
    ·exact absurd hzc hy
    ·have:=ni (iM hs) z hz
     omega
theorem Em {l:List Int} (hs:tO l) (h0:0∈l) (hp:∀ y∈l,0<=y):∃ r,l=0::r:=by
 cases l with
 | nil=>simp at h0
 | cons x r=>
  rcases List.mem_cons.1 h0 with h | h
  ·exact ⟨r,by rw [h]⟩
  ·have:=ni hs 0 h
   have:=hp x (List.mem_cons_self ..)
   omega
theorem Oa {a:af} {l:List Int} (hs:tO l) (h0:∃ x r,l=x::r/\x<=0) (hl:∀ y∈l,aG y=true)
  (hc:∀ x∈a,∀ y,y=jA x.1\/y=jA (x.2+1)->y<=1114111->y∈l) {c:Int} (hy:aG c=true):dw a c=dw a (Ht l c):=by
 have hc0:=aF.1 hy
 obtain ⟨h1,h2,h3⟩:=Iu l c hs (by obtain ⟨x,r,e,h⟩:=h0;exact ⟨x,r,e,by omega⟩)
 have hsy:=hl _ h1
 have key:∀ x∈a,(x.1<=c/\c<=x.2)↔(x.1<=Ht l c/\Ht l c<=x.2):=by
  intro x hx
  have up:∀ z:Int,(∀ y,y=jA z->y<=1114111->y∈l)->(z<=c↔z<=Ht l c):=by
   intro z hz
   constructor
   ·intro hzc
    have h4:=TC hy hzc
    have h5:=hz _ rfl (by omega)
    have:=h3 _ h5 h4
    have:=TA z
    omega
   ·intro h;omega
  have u1:=up x.1 (fun y e=>hc x hx y (.inl e))
  have u2:=up (x.2+1) (fun y e=>hc x hx y (.inr e))
  omega
 unfold dw
 rw [Bool.eq_iff_iff,List.any_eq_true,List.any_eq_true]
 constructor
 ·rintro ⟨x,hx,h⟩;exact ⟨x,hx,by have:=key x hx;simp at h ⊢;omega⟩
 ·rintro ⟨x,hx,h⟩;exact ⟨x,hx,by have:=key x hx;simp at h ⊢;omega⟩
theorem qZ {a b:af} (ha:Pos a) (hb:Pos b) {c:Int} (hy:aG c=true):dw a c=dw a (Ht (mD a b) c)/\dw b c=dw b (Ht (mD a b) c):=by
 have hs:=iZ a b
 have hl:=kZ ha hb
 obtain ⟨r,hr⟩:=Em hs (oW.2 (.inl rfl)) (fun y h=>(aF.1 (hl y h)).1)
 have h0:∃ x r,mD a b=x::r/\x<=0:=⟨0,r,hr,Int.le_refl _⟩
 exact ⟨Oa hs h0 hl (fun x hx y h1 h2=>oW.2 (.inr (.inl ⟨x,hx,h1,h2⟩))) hy,Oa hs h0 hl (fun x hx y h1 h2=>oW.2 (.inr (.inr ⟨x,hx,h1,h2⟩))) hy⟩
def vH:List Int->Int
 | []=>1114111
 | y::_=>if y - 1=57343 then 55295 else y - 1
def qA (p:Int->Bool):List Int->Bool
 | []=>false
 | y::_=>p y
def oZ (x h:Int) (b:Bool) (l:af):af:=match b,l with
 | true,z::q=>(x,z.2)::q
 | _,l=>(x,h)::l
def gX (p:Int->Bool):List Int->af
 | []=>[]
 | x::r=>if p x=true then oZ x (vH r) (qA p r) (gX p r) else gX p r
def ku (h:Int):Int:=if h=55295 then 57344 else h+1
def eO (m:Int):af->Prop
 | []=>True
 | x::r=>m<x.1/\aG x.1=true/\aG x.2=true/\x.1<=x.2/\eO (ku x.2) r
abbrev Tidy (l:af):Prop:=eO (-1) l
theorem eO.ge {m c:Int}:∀ {l:af},eO m l->dw l c=true->m<c
 | [],_,h=>by simp [dw] at h
 | x::r,h,hc=>by
  rcases bW.1 hc with h1 | h1
  ·have:=h.1;omega
  ·have h2:=h.2.2.2.2.ge h1
   have:x.2<ku x.2:=by unfold ku;split<;>omega
   have:=h.1
   have:=h.2.2.2.1
   omega
theorem eO.pos {m:Int}:∀ {l:af},eO m l->Pos l
 | [],_=>fun x h=>by simp at h
 | y::r,h=>fun x hx=>by
  rcases List.mem_cons.1 hx with rfl | hx
  ·exact ⟨(aF.1 h.2.1).1,(aF.1 h.2.2.1).1⟩
  ·exact h.2.2.2.2.pos x hx
theorem Ob {h y:Int} (hh:aG h=true) (hy:aG y=true) (hlt:h<y):aG (ku h)=true/\ku h<=y/\h<ku h:=by
 rw [aF] at *;unfold ku;split<;>omega
theorem iN:∀ {m n:Int} {a b:af},eO m a->eO n b->(∀ c,aG c=true->dw a c=dw b c)->a=b
 | _,_,[],[],_,_,_=>rfl
 | _,_,[],y::b,_,hb,h=>by
  have:=h y.1 hb.2.1
  rw [eT,gW] at this
  simp [hb.2.2.2.1] at this
 | _,_,x::a,[],ha,_,h=>by
  have:=h x.1 ha.2.1
  rw [eT,gW] at this
  simp [ha.2.2.2.1] at this
 | _,_,x::a,y::b,ha,hb,h=>by
  have xin:dw (x::a) x.1=true:=bW.2 (.inl ⟨Int.le_refl _,ha.2.2.2.1⟩)
  have yin:dw (y::b) y.1=true:=bW.2 (.inl ⟨Int.le_refl _,hb.2.2.2.1⟩)
  have lo:∀ {m:Int} {z:Int×Int} {l:af} {c:Int},eO m (z::l)->dw (z::l) c=true->z.1<=c:=by
   intro m z l c hz hc
   rcases bW.1 hc with h1 | h1
   ·exact h1.1
   ·have:=hz.2.2.2.2.ge h1
    have:z.2<ku z.2:=by unfold ku;split<;>omega
    have:=hz.2.2.2.1
    omega
  have e1:x.1=y.1:=by
   have h1:=lo hb (by rw [<-h x.1 ha.2.1];exact xin)
   have h2:=lo ha (by rw [h y.1 hb.2.1];exact yin)
   omega
  have no:∀ {m:Int} {z:Int×Int} {l:af} {c:Int},eO m (z::l)->z.2<c->c<=ku z.2->¬ dw (z::l) c=true:=by
   intro m z l c hz h1 h2 hc
   rcases bW.1 hc with h3 | h3
   ·omega
   ·have:=hz.2.2.2.2.ge h3
    omega
  have e2:x.2=y.2:=by
   rcases Int.lt_trichotomy x.2 y.2 with hlt | he | hgt
   ·obtain ⟨h1,h2,h3⟩:=Ob ha.2.2.1 hb.2.2.1 hlt
    refine absurd ?_ (no ha h3 (Int.le_refl _))
    rw [h _ h1]
    exact bW.2 (.inl ⟨by have:=ha.2.2.2.1;omega,h2⟩)
   ·exact he
   ·obtain ⟨h1,h2,h3⟩:=Ob hb.2.2.1 ha.2.2.1 hgt
    refine absurd ?_ (no hb h3 (Int.le_refl _))
    rw [<-h _ h1]
    exact bW.2 (.inl ⟨by have:=hb.2.2.2.1;omega,h2⟩)
  have e:x=y:=Prod.ext e1 e2
  subst e
  have hr:∀ c,aG c=true->dw a c=dw b c:=by
   intro c hc
   have h1:=h c hc
   rw [gW,gW] at h1
   by_cases hin:x.1<=c/\c<=x.2
   ·have g:∀ {l:af},eO (ku x.2) l->dw l c=false:=by
     intro l hl
     cases hb2:dw l c with
     | false=>rfl
     | true=>
      have:=hl.ge hb2
      have:x.2<ku x.2:=by unfold ku;split<;>omega
      omega
    rw [g ha.2.2.2.2,g hb.2.2.2.2]
   ·simpa [hin] using h1
  rw [iN ha.2.2.2.2 hb.2.2.2.2 hr]
theorem uF {p:Int->Bool} {y:Int} {r:List Int} (h:p y=true):∃ z q,gX p (y::r)=(y,z)::q:=by
 rw [gX,if_pos h]
 unfold oZ
 split
 ·exact ⟨_,_,rfl⟩
 ·exact ⟨_,_,rfl⟩
theorem lg (p:Int->Bool):∀ (l:List Int) (m:Int),tO l->(∀ y∈l,aG y=true)->(∀ y∈l,m<y)->eO m (gX p l)
 | [],_,_,_,_=>trivial
 | x::r,m,hs,hy,hm=>by
  rw [gX]
  have hx:=ni hs
  have hr:∀ y∈r,aG y=true:=fun y h=>hy y (List.mem_cons_of_mem _ h)
  have hmx:=hm x (List.mem_cons_self ..)
  have hxs:=hy x (List.mem_cons_self ..)
  split
  ·cases r with
   | nil=>exact ⟨hmx,hxs,by show aG 1114111=true;decide,by show x<=1114111;have:=aF.1 hxs;omega,trivial⟩
   | cons y r=>
    have hxy:=hx y (List.mem_cons_self ..)
    have hys:=aF.1 (hr y (List.mem_cons_self ..))
    have hxs':=aF.1 hxs
    cases hp:p y with
    | true=>
     have ih:=lg p (y::r) x (iM hs) hr hx
     obtain ⟨z,q,e⟩:=uF (r:=r) hp
     rw [e] at ih ⊢
     rw [show qA p (y::r)=true from hp]
     exact ⟨hmx,hxs,ih.2.2.1,by show x<=z;have:=ih.2.2.2.1;simp at this;omega,ih.2.2.2.2⟩
    | false=>
     have ih:=lg p r y (iM (iM hs)) (fun z h=>hr z (List.mem_cons_of_mem _ h)) (ni (iM hs))
     rw [show qA p (y::r)=false from hp,gX,if_neg (by rw [hp];decide)]
     have e1:ku (vH (y::r))=y:=by simp only [vH,ku];split<;>split<;>omega
     refine ⟨hmx,hxs,?_,?_,?_⟩
     ·show aG (vH (y::r))=true
      rw [aF];simp only [vH];split<;>omega
     ·show x<=vH (y::r)
      simp only [vH];split<;>omega
     ·show eO (ku (vH (y::r))) _
      rw [e1];exact ih
  ·exact lg p r m (iM hs) hr (fun y h=>hm y (List.mem_cons_of_mem _ h))
theorem vI (p:Int->Bool):∀ (l:List Int) (c:Int),tO l->(∀ y∈l,aG y=true)->aG c=true->(∃ x r,l=x::r/\x<=c)->dw (gX p l) c=p (Ht l c)
 | [],_,_,_,_,h=>by obtain ⟨x,r,h,_⟩:=h;cases h
 | [x],c,_,_,hc,h=>by
  obtain ⟨x',r,e,hx⟩:=h
  cases e
  rw [Ht,gX]
  have:=aF.1 hc
  split
  ·rename_i hp
   rw [hp]
   exact bW.2 (.inl ⟨hx,by show c<=1114111;omega⟩)
  ·rename_i hp
   simp [gX,dw]
   simpa using hp
 | x::y::r,c,hs,hy,hc,h=>by
  obtain ⟨x',r',e,hx⟩:=h
  cases e
  have hxy:=ni hs y (List.mem_cons_self ..)
  have hr:∀ z∈y::r,aG z=true:=fun z h=>hy z (List.mem_cons_of_mem _ h)
  have hcs:=aF.1 hc
  have hys:=aF.1 (hr y (List.mem_cons_self ..))
  rw [Ht]
  by_cases hyc:y<=c
  ·rw [if_pos hyc,<-vI p (y::r) c (iM hs) hr hc ⟨y,r,rfl,hyc⟩]
   rw [gX]
   split
   ·cases hp:p y with
    | true=>
     obtain ⟨z,q,e⟩:=uF (r:=r) hp
     rw [e,show qA p (y::r)=true from hp]
     show dw ((x,z)::q) c=_
     rw [gW,gW]
     have hiff:(x<=c/\c<=z)↔(y<=c/\c<=z):=by omega
     simp only [hiff]
    | false=>
     rw [show qA p (y::r)=false from hp]
     show dw ((x,vH (y::r))::gX p (y::r)) c=_
     rw [gW]
     have:vH (y::r)<c:=by simp only [vH];split<;>omega
     simp;omega
   ·rfl
  ·rw [if_neg hyc]
   have hbelow:dw (gX p (y::r)) c=false:=by
    cases hb:dw (gX p (y::r)) c with
    | false=>rfl
    | true=>
     have:=(lg p (y::r) (y - 1) (iM hs) hr (fun z hz=>by
      rcases List.mem_cons.1 hz with rfl | hz
      ·omega
      ·have:=ni (iM hs) z hz;omega)).ge hb
     omega
   rw [gX]
   split
   ·rename_i hpx
    rw [hpx]
    cases hp:p y with
    | true=>
     have ht:=lg p (y::r) (-1) (iM hs) hr (fun z hz=>by have:=aF.1 (hr z hz);omega)
     obtain ⟨z,q,e⟩:=uF (r:=r) hp
     rw [e] at ht ⊢
     rw [show qA p (y::r)=true from hp]
     exact bW.2 (.inl ⟨hx,by have:=ht.2.2.2.1;simp at this;show c<=z;omega⟩)
    | false=>
     rw [show qA p (y::r)=false from hp]
     exact bW.2 (.inl ⟨hx,by show c<=vH (y::r);simp only [vH];split<;>omega⟩)
   ·rename_i hpx
    rw [hbelow];simpa using hpx
def qH (a b:af):af:=gX (fun x=>dw a x||dw b x) (mD a b)
def Iw (a b:af):af:=gX (fun x=>dw a x&&dw b x) (mD a b)
def fH (a:af):af:=gX (fun x=>!dw a x) (mD a [])
theorem xD {a b:af} (ha:Pos a) (hb:Pos b) {c:Int} (hc:aG c=true):∃ x r,mD a b=x::r/\x<=c:=by
 obtain ⟨r,hr⟩:=Em (iZ a b) (oW.2 (.inl rfl)) (fun y h=>(aF.1 (kZ ha hb y h)).1)
 exact ⟨0,r,hr,(aF.1 hc).1⟩
theorem nZ {a b:af} (ha:Pos a) (hb:Pos b) {c:Int} (hc:aG c=true):dw (qH a b) c=(dw a c||dw b c):=by
 rw [qH,vI _ _ c (iZ a b) (kZ ha hb) hc (xD ha hb hc),<-(qZ ha hb hc).1,<-(qZ ha hb hc).2]
theorem vJ {a b:af} (ha:Pos a) (hb:Pos b) {c:Int} (hc:aG c=true):dw (Iw a b) c=(dw a c&&dw b c):=by
 rw [Iw,vI _ _ c (iZ a b) (kZ ha hb) hc (xD ha hb hc),<-(qZ ha hb hc).1,<-(qZ ha hb hc).2]
theorem n_:Pos []:=fun x h=>by simp at h
theorem kC {a:af} (ha:Pos a) {c:Int} (hc:aG c=true):dw (fH a) c=!dw a c:=by
 rw [fH,vI _ _ c (iZ a []) (kZ ha n_) hc (xD ha n_ hc),<-(qZ ha n_ hc).1]
theorem F6 {a b:af} (ha:Pos a) (hb:Pos b) (p:Int->Bool):Tidy (gX p (mD a b)):=
 lg _ _ _ (iZ a b) (kZ ha hb) (fun y hy=>by have:=aF.1 (kZ ha hb y hy);omega)
theorem ja {a b:af} (ha:Pos a) (hb:Pos b):Tidy (qH a b):=F6 ha hb _
theorem xE {a b:af} (ha:Pos a) (hb:Pos b):Tidy (Iw a b):=F6 ha hb _
theorem dD {a:af} (ha:Pos a):Tidy (fH a):=F6 ha n_ _
end Go.Proofs.YtfolanohokflkaaGreatDoor
namespace Go.Proofs.YtfolanohokflkaaGreatDoor
def aaw {α:Type} (gt:α->α->Bool) (c:α) (l:List α):Bool:=l.any fun x=>gt x c
def mAt {α:Type} (gt:α->α->Bool) (c:α) (l:List α):List α:=if aaw gt c l=true then zl gt c l else l
theorem XY {α:Type} (gt:α->α->Bool) (c:α) (l:List α):(mAt gt c l).length<=l.length+1:=by
 have h:=AJ gt c l
 unfold mAt;split<;>omega
where AJ {α:Type} (gt:α->α->Bool) (c:α):∀ l:List α,(zl gt c l).length=l.length+1
 | []=>rfl
 | x::l=>by rw [zl];split<;>simp [AJ gt c l]
theorem yG (l:List Int) (c:Int):(fG l c).length<=l.length+1:=by
 unfold fG
 split
 ·omega
 ·unfold oV
  split
  ·omega
  ·rw [XY.AJ];omega
theorem uG:∀ (a:af) (l:List Int),(ng l a).length<=l.length+2*a.length
 | [],l=>by simp [ng]
 | x::a,l=>by
  have h1:=yG l x.1
  have h2:=yG (fG l x.1) (x.2+1)
  have h3:=uG a (fG (fG l x.1) (x.2+1))
  rw [List.length_cons]
  show (ng (fG (fG l x.1) (x.2+1)) a).length<=_
  omega
theorem QD (a b:af):(mD a b).length<=1+2*(a.length+b.length):=by
 have h1:=uG b (ng [0] a)
 have h2:=uG a [0]
 unfold mD
 simp at h2
 omega
theorem F7 (x h:Int) (b:Bool) (l:af):(oZ x h b l).length<=l.length+1:=by
 unfold oZ;split<;>simp
theorem En (p:Int->Bool):∀ l:List Int,2*(gX p l).length<=l.length+(if qA p l=true then 1 else 0)
 | []=>by simp [gX]
 | x::r=>by
  have ih:=En p r
  rw [gX,List.length_cons]
  by_cases hx:p x=true
  ·rw [if_pos hx,show qA p (x::r)=true from hx,if_pos rfl]
   cases hr:qA p r with
   | true=>
    rw [hr,if_pos rfl] at ih
    cases ht:gX p r with
    | nil=>simp [oZ]
    | cons z q=>rw [ht] at ih;simp [oZ] at ih ⊢;omega
   | false=>
    rw [hr,if_neg (by decide)] at ih
    have:=F7 x (vH r) false (gX p r)
    omega
  ·rw [if_neg hx]
   have:qA p (x::r)=false:=by simpa [qA] using hx
   rw [this,if_neg (by decide)]
   split at ih<;>omega
theorem aax {a b:af} {p:Int->Bool}:(gX p (mD a b)).length<=a.length+b.length+1:=by
 have h1:=En p (mD a b)
 have h2:=QD a b
 split at h1<;>omega
theorem TD (a b:af):(qH a b).length<=a.length+b.length+1:=aax
end Go.Proofs.YtfolanohokflkaaGreatDoor
namespace Go.Proofs.YtfolanohokflkaaGreatDoor
def Iy (l:List (Int×Int)):Prop:=l.Pairwise fun a b=>a.1<=b.1
def jB (p:Int×Int):Prop:=aG p.1=true/\aG p.2=true/\p.1<=p.2
def lW (acc:af) (p:Int×Int):af:=match acc.getLast? with
 | some x=>if p.1<=ku x.2 then acc.dropLast++[(x.1,max x.2 p.2)] else acc++[p]
 | none=>acc++[p]
def gG (l:af):af:=l.foldl lW []
theorem xG (p:Int×Int):lW [] p=[p]:=rfl
theorem lh (L:af) (x p:Int×Int):lW (L++[x]) p=if p.1<=ku x.2 then L++[(x.1,max x.2 p.2)] else L++[x]++[p]:=by
 unfold lW
 rw [List.getLast?_concat]
 simp only [List.dropLast_concat]
def vK (m:Int):af->Int
 | []=>m
 | x::l=>vK (ku x.2) l
theorem mH:∀ {m:Int} {l r:af},eO m (l++r)↔eO m l/\eO (vK m l) r
 | m,[],r=>by simp [eO,vK]
 | m,x::l,r=>by
  rw [List.cons_append]
  show (m<x.1/\aG x.1=true/\aG x.2=true/\x.1<=x.2/\eO (ku x.2) (l++r))↔(m<x.1/\aG x.1=true/\aG x.2=true/\x.1<=x.2/\eO (ku x.2) l)/\eO (vK (ku x.2) l) r
  rw [mH]
  constructor
  ·rintro ⟨h1,h2,h3,h4,h5,h6⟩;exact ⟨⟨h1,h2,h3,h4,h5⟩,h6⟩
  ·rintro ⟨⟨h1,h2,h3,h4,h5⟩,h6⟩;exact ⟨h1,h2,h3,h4,h5,h6⟩
theorem ll (a b:af) (c:Int):dw (a++b) c=(dw a c||dw b c):=by simp [dw]
theorem step_ok {acc:af} {p:Int×Int} (ht:Tidy acc) (hp:jB p) (hlo:∀ x∈acc,x.1<=p.1):Tidy (lW acc p)/\(∀ c,aG c=true->dw (lW acc p) c=(dw acc c||dw [p] c))/\∀ x∈lW acc p,x.1<=p.1:=by
 rcases List.eq_nil_or_concat acc with rfl | ⟨L,x,rfl⟩
 ·rw [xG]
  refine ⟨⟨by show (-1:Int)<p.1;have:=aF.1 hp.1;omega,hp.1,hp.2.1,hp.2.2,trivial⟩,fun c _=>by simp [dw],fun x hx=>by simp at hx;subst hx;exact Int.le_refl _⟩
 ·simp only [List.concat_eq_append] at *
  have hx1:=hlo x (by simp)
  rw [lh]
  obtain ⟨tL,tx⟩:=mH.1 ht
  split
  ·rename_i hle
   have hmax:aG (max x.2 p.2)=true:=by
    rcases Int.le_total x.2 p.2 with h | h
    ·rw [Int.max_eq_right h];exact hp.2.1
    ·rw [Int.max_eq_left h];exact tx.2.2.1
   refine ⟨mH.2 ⟨tL,tx.1,tx.2.1,hmax,by show x.1<=max x.2 p.2;have:=tx.2.2.2.1;omega,trivial⟩,fun c hc=>?_,fun y hy=>?_⟩
   ·rw [ll,ll,Bool.or_assoc]
    congr 1
    have hcs:=aF.1 hc
    have hxs:=aF.1 tx.2.2.1
    have hab:∀ c,aG c=true->x.2<c->ku x.2<=c:=by
     intro c hc h;have:=aF.1 hc;unfold ku;split<;>omega
    have key:(x.1<=c/\c<=max x.2 p.2)↔(x.1<=c/\c<=x.2)\/(p.1<=c/\c<=p.2):=by
     constructor
     ·rintro ⟨h1,h2⟩
      by_cases h3:c<=x.2
      ·exact .inl ⟨h1,h3⟩
      ·have:=hab c hc (by omega)
       exact .inr ⟨by omega,by omega⟩
     ·rintro (⟨h1,h2⟩ | ⟨h1,h2⟩)
      ·exact ⟨h1,by omega⟩
      ·exact ⟨by omega,by omega⟩
    rw [Bool.eq_iff_iff,Bool.or_eq_true,bW,bW,bW]
    simp only [eT,Bool.false_eq_true,or_false]
    exact key
   ·rcases List.mem_append.1 hy with hy | hy
    ·exact hlo y (List.mem_append_left _ hy)
    ·simp at hy;subst hy;exact hx1
  ·rename_i hgt
   have e:vK (-1) (L++[x])=ku x.2:=by
    clear hlo ht tL tx hgt hx1
    generalize (-1:Int)=m
    induction L generalizing m with
    | nil=>rfl
    | cons y L ih=>exact ih _
   refine ⟨mH.2 ⟨ht,by rw [e];exact ⟨by omega,hp.1,hp.2.1,hp.2.2,trivial⟩⟩,fun c _=>ll _ _ _,fun y hy=>?_⟩
   rcases List.mem_append.1 hy with hy | hy
   ·exact hlo y hy
   ·simp at hy;subst hy;exact Int.le_refl _
theorem F8:∀ (l:af) {acc:af},Tidy acc->(∀ p∈l,jB p)->Iy l->(∀ x∈acc,∀ p∈l,x.1<=p.1)->Tidy (l.foldl lW acc)/\∀ c,aG c=true->dw (l.foldl lW acc) c=(dw acc c||dw l c)
 | [],acc,ht,_,_,_=>⟨ht,fun c _=>by simp [dw]⟩
 | p::l,acc,ht,hp,hs,hlo=>by
  have hs':=List.pairwise_cons.1 hs
  obtain ⟨h1,h2,h3⟩:=step_ok ht (hp p (List.mem_cons_self ..)) (fun x hx=>hlo x hx p (List.mem_cons_self ..))
  obtain ⟨h4,h5⟩:=F8 l h1 (fun q hq=>hp q (List.mem_cons_of_mem _ hq)) hs'.2 (fun x hx q hq=>by
   have:=h3 x hx
   have:=hs'.1 q hq
   omega)
  refine ⟨h4,fun c hc=>?_⟩
  rw [List.foldl_cons,h5 c hc,h2 c hc,Bool.or_assoc]
  congr 1
  rw [show p::l=[p]++l from rfl,ll]
theorem TE {a b:af} (h:a.Perm b) (c:Int):dw a c=dw b c:=by
 unfold dw
 rw [Bool.eq_iff_iff,List.any_eq_true,List.any_eq_true]
 exact ⟨fun ⟨x,hx,h1⟩=>⟨x,h.mem_iff.1 hx,h1⟩,fun ⟨x,hx,h1⟩=>⟨x,h.mem_iff.2 hx,h1⟩⟩
theorem lX {l:af} (h:∀ p∈l,jB p):Pos l:=fun x hx=>⟨(aF.1 (h x hx).1).1,(aF.1 (h x hx).2.1).1⟩
def iO (ps:af):af:=qH [] ps
theorem iP {ps:af} (h:Pos ps):Tidy (iO ps):=ja n_ h
theorem o5 {ps:af} (h:Pos ps) {c:Int} (hc:aG c=true):dw (iO ps) c=dw ps c:=by rw [iO,nZ n_ h hc];rfl
theorem Iz {ps ts:af} (hg:∀ p∈ps,jB p) (hp:ts.Perm ps) (hs:Iy ts):gG ts=iO ps:=by
 have hgt:∀ p∈ts,jB p:=fun p h=>hg p (hp.mem_iff.1 h)
 obtain ⟨h1,h2⟩:=F8 ts (acc:=[]) trivial hgt hs (by simp)
 refine iN h1 (iP (lX hg)) fun c hc=>?_
 rw [show gG ts=ts.foldl lW [] from rfl,h2 c hc,o5 (lX hg) hc,eT,Bool.false_or,TE hp]
theorem LX (l:af) (p:Int×Int):gG (l++[p])=lW (gG l) p:=by simp [gG]
theorem TG (acc:af) (p:Int×Int):(lW acc p).length<=acc.length+1:=by
 rcases List.eq_nil_or_concat acc with rfl | ⟨L,x,rfl⟩
 ·simp [xG]
 ·simp only [List.concat_eq_append]
  rw [lh];split<;>simp
theorem IA:∀ (l acc:af),(l.foldl lW acc).length<=acc.length+l.length
 | [],_=>by simp
 | p::l,acc=>by
  have:=IA l (lW acc p)
  have:=TG acc p
  rw [List.foldl_cons,List.length_cons];omega
theorem QE (l:af):(gG l).length<=l.length:=by have:=IA l [];simpa [gG] using this
def bE:af->List Int
 | []=>[]
 | x::l=>x.1::x.2::bE l
theorem mI (a b:af):bE (a++b)=bE a++bE b:=by
 induction a with
 | nil=>rfl
 | cons x a ih=>simp [bE,ih]
theorem fI (a:af):(bE a).length=a.length*2:=by
 induction a with
 | nil=>rfl
 | cons x a ih=>simp [bE,ih];omega
def encS (l:af):ByteArray:=runesBytes (bE l)
theorem XZ (pre e post:ByteArray) (k:Nat) (h:k<e.size):(pre++e++post).get! (pre.size+k)=e.get! k:=by
 have h1:pre.size+k<(pre++e++post).size:=by rw [ByteArray.size_append,ByteArray.size_append];omega
 have h2:pre.size+k<(pre++e).size:=by rw [ByteArray.size_append];omega
 rw [qP _ _ h1,qP _ _ h,ByteArray.getElem_append_left h2,ByteArray.getElem_append_right (by omega)]
 congr 1
 omega
theorem ofNat_toNat {n:Nat} (h:n<256):(UInt8.ofNat n).toNat=n:=UInt8.toNat_ofNat_of_lt' h
theorem QF {c:Int} (hc:aG c=true):Utf8.valid c=true:=by
 have:=aF.1 hc
 simp only [Utf8.valid,Bool.or_eq_true,Bool.and_eq_true,decide_eq_true_eq];omega
theorem encode_decode (c:Int) (hc:aG c=true) (pre post:ByteArray):Utf8.decode (pre++Utf8.encode c++post) pre.size=(c.toNat,(Utf8.encode c).size):=by
 obtain ⟨n,rfl⟩:=Int.eq_ofNat_of_zero_le (aF.1 hc).1
 have hn:=aF.1 hc
 have hv:=QF hc
 have hsz:∀ k,k<(Utf8.encode (n:Int)).size->pre.size+k<(pre++Utf8.encode (n:Int)++post).size:=by
  intro k hk;rw [ByteArray.size_append,ByteArray.size_append];omega
 have hg:=fun k h=>XZ pre (Utf8.encode (n:Int)) post k h
 have d1:n / 64 / 64=n / 4096:=by rw [Nat.div_div_eq_div_mul]
 have d2:n / 4096 / 64=n / 262144:=by rw [Nat.div_div_eq_div_mul]
 rw [Int.toNat_natCast]
 have hE:Utf8.encode (n:Int)=if n<128 then ⟨#[UInt8.ofNat n]⟩ else if n<2048 then ⟨#[UInt8.ofNat (192+n / 64),UInt8.ofNat (128+n % 64)]⟩ else if n<65536 then ⟨#[UInt8.ofNat (224+n / 4096),UInt8.ofNat (128+n / 64 % 64),UInt8.ofNat (128+n % 64)]⟩ else ⟨#[UInt8.ofNat (240+n / 262144),UInt8.ofNat (128+n / 4096 % 64),UInt8.ofNat (128+n / 64 % 64),UInt8.ofNat (128+n % 64)]⟩:=by
  unfold Utf8.encode
  rw [hv]
  simp
 by_cases h1:n<128
 ·rw [if_pos h1] at hE
  rw [hE] at hg hsz ⊢
  have g0:=hg 0 (show 0<1 by decide)
  rw [Nat.add_zero] at g0
  have t0:((pre++(⟨#[UInt8.ofNat n]⟩:ByteArray)++post).get! pre.size).toNat=n:=by rw [g0];show (UInt8.ofNat n).toNat=n;exact ofNat_toNat (by omega)
  unfold Utf8.decode
  simp only [Nat.add_zero,t0]
  rw [if_pos h1];rfl
 ·rw [if_neg h1] at hE
  by_cases h2:n<2048
  ·rw [if_pos h2] at hE
   rw [hE] at hg hsz ⊢
   have g0:=hg 0 (by decide:0<2)
   have g1:=hg 1 (by decide:1<2)
   have s1:=hsz 1 (by decide:1<2)
   rw [Nat.add_zero] at g0
   generalize hS:pre++(⟨#[UInt8.ofNat (192+n / 64),UInt8.ofNat (128+n % 64)]⟩:ByteArray)++post=S at *
   have t0:(S.get! pre.size).toNat=192+n / 64:=by rw [g0];show (UInt8.ofNat (192+n / 64)).toNat=_;exact ofNat_toNat (by omega)
   have t1:(S.get! (pre.size+1)).toNat=128+n % 64:=by rw [g1];show (UInt8.ofNat (128+n % 64)).toNat=_;exact ofNat_toNat (by omega)
   unfold Utf8.decode
   simp only [Nat.add_zero,t0,t1,s1,decide_true,Bool.true_and,Bool.and_eq_true,beq_iff_eq]
   rw [if_neg (by omega),if_pos (by omega),if_pos (by omega)]
   exact Prod.ext (by show (192+n / 64) % 32*64+(128+n % 64) % 64=n;omega) rfl
  ·rw [if_neg h2] at hE
   by_cases h3:n<65536
   ·rw [if_pos h3] at hE
    rw [hE] at hg hsz ⊢
    have g0:=hg 0 (by decide:0<3)
    have g1:=hg 1 (by decide:1<3)
    have g2:=hg 2 (by decide:2<3)
    have s1:=hsz 1 (by decide:1<3)
    have s2:=hsz 2 (by decide:2<3)
    rw [Nat.add_zero] at g0
    generalize hS:pre++(⟨#[UInt8.ofNat (224+n / 4096),UInt8.ofNat (128+n / 64 % 64),UInt8.ofNat (128+n % 64)]⟩:ByteArray)++post=S at *
    have t0:(S.get! pre.size).toNat=224+n / 4096:=by rw [g0];show (UInt8.ofNat (224+n / 4096)).toNat=_;exact ofNat_toNat (by omega)
    have t1:(S.get! (pre.size+1)).toNat=128+n / 64 % 64:=by rw [g1];show (UInt8.ofNat (128+n / 64 % 64)).toNat=_;exact ofNat_toNat (by omega)
    have t2:(S.get! (pre.size+2)).toNat=128+n % 64:=by rw [g2];show (UInt8.ofNat (128+n % 64)).toNat=_;exact ofNat_toNat (by omega)
    have ev:(224+n / 4096) % 16*4096+(128+n / 64 % 64) % 64*64+(128+n % 64) % 64=n:=by omega
    unfold Utf8.decode
    simp only [Nat.add_zero,t0,t1,t2,s1,s2,decide_true,Bool.true_and,Bool.and_eq_true,beq_iff_eq,ev,hv,decide_eq_true_eq,and_true,ge_iff_le]
    rw [if_neg (by omega),if_neg (by omega),if_pos (by omega),if_pos (by omega)]
    rfl
   ·rw [if_neg h3] at hE
    rw [hE] at hg hsz ⊢
    have g0:=hg 0 (by decide:0<4)
    have g1:=hg 1 (by decide:1<4)
    have g2:=hg 2 (by decide:2<4)
    have g3:=hg 3 (by decide:3<4)
    have s1:=hsz 1 (by decide:1<4)
    have s2:=hsz 2 (by decide:2<4)
    have s3:=hsz 3 (by decide:3<4)
    rw [Nat.add_zero] at g0
    generalize hS:pre++(⟨#[UInt8.ofNat (240+n / 262144),UInt8.ofNat (128+n / 4096 % 64),UInt8.ofNat (128+n / 64 % 64),UInt8.ofNat (128+n % 64)]⟩:ByteArray)++post=S at *
    have t0:(S.get! pre.size).toNat=240+n / 262144:=by rw [g0];show (UInt8.ofNat (240+n / 262144)).toNat=_;exact ofNat_toNat (by omega)
    have t1:(S.get! (pre.size+1)).toNat=128+n / 4096 % 64:=by rw [g1];show (UInt8.ofNat (128+n / 4096 % 64)).toNat=_;exact ofNat_toNat (by omega)
    have t2:(S.get! (pre.size+2)).toNat=128+n / 64 % 64:=by rw [g2];show (UInt8.ofNat (128+n / 64 % 64)).toNat=_;exact ofNat_toNat (by omega)
    have t3:(S.get! (pre.size+3)).toNat=128+n % 64:=by rw [g3];show (UInt8.ofNat (128+n % 64)).toNat=_;exact ofNat_toNat (by omega)
    have ev:(240+n / 262144) % 8*262144+(128+n / 4096 % 64) % 64*4096+(128+n / 64 % 64) % 64*64+(128+n % 64) % 64=n:=by omega
    unfold Utf8.decode
    simp only [Nat.add_zero,t0,t1,t2,t3,s1,s2,s3,decide_true,Bool.true_and,Bool.and_eq_true,beq_iff_eq,ev,hv,decide_eq_true_eq,and_true,ge_iff_le]
    rw [if_neg (by omega),if_neg (by omega),if_neg (by omega),if_pos (by omega),if_pos (by omega)]
    rfl
theorem mh (c:Int) (l:List Int):runesBytes (c::l)=Utf8.encode c++runesBytes l:=by
 have key:∀ (l:List Int) (s:ByteArray),l.foldl (fun r n=>r++Utf8.encode n) s=s++l.foldl (fun r n=>r++Utf8.encode n) ByteArray.empty:=by
  intro l
  induction l with
  | nil=>intro s;simp
  | cons d l ih=>
   intro s
   rw [List.foldl_cons,List.foldl_cons,ih,ih (ByteArray.empty++Utf8.encode d)]
   simp [ByteArray.append_assoc]
 unfold runesBytes
 rw [List.foldl_cons,key]
 simp
theorem zn (c:Int):1<=(Utf8.encode c).size:=by
 unfold Utf8.encode
 simp only
 repeat' split
 all_goals simp [ByteArray.size]
theorem qB:∀ (ns:List Int) (pre:ByteArray) (bound:Nat) (acc:Array Value),(∀ c∈ns,aG c=true)->(runesBytes ns).size<=bound ->
  Conv.runesFrom (pre++runesBytes ns) bound pre.size acc=acc++(ns.map (Value.int .i32)).toArray
 | [],pre,bound,acc,_,_=>by
  have e:runesBytes []=ByteArray.empty:=rfl
  rw [e,ByteArray.append_empty]
  cases bound with
  | zero=>simp [Conv.runesFrom]
  | succ b=>rw [Conv.runesFrom,if_neg (by omega)];simp
 | c::ns,pre,bound,acc,hs,hb=>by
  have hp:=zn c
  rw [mh,ByteArray.size_append] at hb
  cases bound with
  | zero=>omega
  | succ b=>
   have hd:=encode_decode c (hs c (List.mem_cons_self ..)) pre (runesBytes ns)
   rw [Conv.runesFrom,mh,<-ByteArray.append_assoc,if_pos (by rw [ByteArray.size_append,ByteArray.size_append];omega),hd]
   simp only []
   have ih:=qB ns (pre++Utf8.encode c) b (acc.push (.int .i32 (Int.ofNat c.toNat))) (fun d h=>hs d (List.mem_cons_of_mem _ h)) (by omega)
   rw [ByteArray.size_append] at ih
   rw [ih]
   have hc0:=(aF.1 (hs c (List.mem_cons_self ..))).1
   have:Int.ofNat c.toNat=c:=Int.toNat_of_nonneg hc0
   rw [this]
   simp
theorem uH {l:af} (h:∀ p∈l,jB p):Conv.runesFrom (encS l) (encS l).size 0 #[]=((bE l).map (Value.int .i32)).toArray:=by
 have hs:∀ c∈bE l,aG c=true:=by
  intro c hc
  induction l with
  | nil=>simp [bE] at hc
  | cons x l ih=>
   simp only [bE,List.mem_cons] at hc
   have hx:=h x (List.mem_cons_self ..)
   rcases hc with rfl | rfl | hc
   ·exact hx.1
   ·exact hx.2.1
   ·exact ih (fun p hp=>h p (List.mem_cons_of_mem _ hp)) hc
 have:=qB (bE l) ByteArray.empty (encS l).size #[] hs (Nat.le_refl _)
 simpa [encS] using this
theorem bB:∀ {m:Int} {l:af},eO m l->∀ p∈l,jB p
 | _,[],_=>by simp
 | _,x::l,h=>by
  intro p hp
  rcases List.mem_cons.1 hp with rfl | hp
  ·exact ⟨h.2.1,h.2.2.1,h.2.2.2.1⟩
  ·exact bB h.2.2.2.2 p hp
def zo (c:Int):Int:=if c=57344 then 55295 else c - 1
def lq (low:Int):af->af
 | []=>if low<=1114111 then [(low,1114111)] else []
 | p::l=>(if low<p.1 then [(low,zo p.1)] else [])++lq (ku p.2) l
def TH (low:Int):Prop:=aG low=true\/low=1114112
theorem X0 {h:Int} (hh:aG h=true):TH (ku h):=by
 unfold TH
 rw [aF] at *
 unfold ku
 split<;>omega
theorem TL {m:Int} {l:af} (h:eO m l) {q:Int×Int} (hq:q∈l):dw l q.1=true:=by
 have hg:=bB h q hq
 unfold dw
 rw [List.any_eq_true]
 exact ⟨q,hq,by simp [hg.2.2]⟩
theorem xH:∀ (l:af) (m low:Int),eO m l->TH low->(∀ p∈l,low<=p.1)->(∀ p∈lq low l,jB p/\low<=p.1)/\∀ c,aG c=true->(dw (lq low l) c=(decide (low<=c)&&!dw l c))
 | [],_,low,_,hlow,_=>by
  rw [lq]
  split
  ·rename_i h
   have hs:aG low=true:=by
    rcases hlow with h1 | h1
    ·exact h1
    ·omega
   refine ⟨fun p hp=>by simp at hp;subst hp;exact ⟨⟨hs,(show aG 1114111=true by decide),h⟩,Int.le_refl _⟩,fun c hc=>?_⟩
   have:=aF.1 hc
   rw [gW,eT]
   simp;omega
  ·refine ⟨by simp,fun c hc=>?_⟩
   have:=aF.1 hc
   rw [eT]
   simp;omega
 | p::l,m,low,ht,hlow,hle=>by
  have hp1:=hle p (List.mem_cons_self ..)
  have s1:=aF.1 ht.2.1
  have s2:=aF.1 ht.2.2.1
  have hab:p.2<ku p.2:=by unfold ku;split<;>omega
  have hr:∀ q∈l,ku p.2<=q.1:=by
   intro q hq
   have:=ht.2.2.2.2.ge (TL ht.2.2.2.2 hq)
   omega
  obtain ⟨g1,g2⟩:=xH l (ku p.2) (ku p.2) ht.2.2.2.2 (X0 ht.2.2.1) hr
  have ZR:aG low=true:=by
   rcases hlow with h | h
   ·exact h
   ·omega
  have sl:=aF.1 ZR
  have hbel:low<p.1->aG (zo p.1)=true/\low<=zo p.1:=by
   intro h
   rw [aF]
   unfold zo
   split<;>omega
  rw [lq]
  constructor
  ·intro q hq
   rcases List.mem_append.1 hq with hq | hq
   ·split at hq
    ·rename_i h
     simp at hq;subst hq
     exact ⟨⟨ZR,(hbel h).1,(hbel h).2⟩,Int.le_refl _⟩
    ·simp at hq
   ·have:=g1 q hq
    exact ⟨this.1,by have:=this.2;have:=ht.2.2.2.1;omega⟩
  ·intro c hc
   have sc:=aF.1 hc
   rw [ll,g2 c hc,gW]
   have ab1:p.2<c->ku p.2<=c:=by intro h;unfold ku;split<;>omega
   have hpp:=ht.2.2.2.1
   have hno:c<=p.2->dw l c=false:=by
    intro h
    cases hb:dw l c with
    | false=>rfl
    | true=>have:=ht.2.2.2.2.ge hb;omega
   by_cases h1:low<p.1
   ·rw [if_pos h1,gW,eT]
    have hb:c<p.1↔c<=zo p.1:=by unfold zo;split<;>omega
    by_cases h2:c<p.1
    ·rw [hno (by omega)]
     have h4:¬ ku p.2<=c:=by omega
     have h5:¬ p.1<=c:=by omega
     simp [h4,h5,<-hb,h2]
    ·by_cases h3:c<=p.2
     ·rw [hno h3]
      have h4:¬ ku p.2<=c:=by omega
      have h5:p.1<=c:=by omega
      simp [h4,h5,h3,<-hb,h2]
     ·have h4:=ab1 (by omega)
      have h5:low<=c:=by omega
      simp [h4,h5,h3,<-hb,h2]
   ·rw [if_neg h1,eT]
    by_cases h3:c<=p.2
    ·rw [hno h3]
     have h4:¬ ku p.2<=c:=by omega
     by_cases h5:p.1<=c
     ·simp [h4,h5,h3]
     ·have h6:¬ low<=c:=by omega
      simp [h4,h5,h6]
    ·have h4:=ab1 (by omega)
     have h5:low<=c:=by omega
     simp [h4,h5,h3]
theorem Eo {l:af} (h:Tidy l):∀ p∈lq 0 l,jB p:=fun p hp=>
 ((xH l (-1) 0 h (.inl (by decide)) (fun q hq=>(aF.1 (bB h q hq).1).1)).1 p hp).1
theorem LY {l:af} (h:Tidy l):iO (lq 0 l)=fH l:=by
 have hs:=xH l (-1) 0 h (.inl (by decide)) (fun q hq=>(aF.1 (bB h q hq).1).1)
 have hp:=lX (Eo h)
 refine iN (iP hp) (dD h.pos) fun c hc=>?_
 rw [o5 hp hc,hs.2 c hc,kC h.pos hc]
 have:=aF.1 hc
 simp [this.1]
theorem IB:∀ (l:af) (low:Int),(lq low l).length<=l.length+1
 | [],low=>by rw [lq];split<;>simp
 | p::l,low=>by
  have:=IB l (ku p.2)
  rw [lq,List.length_append,List.length_cons]
  split<;>simp<;>omega
def gQ (a:af×Int) (p:Int×Int):af×Int:=(a.1++(if a.2<p.1 then [(a.2,zo p.1)] else []),ku p.2)
def aU (l:af):af×Int:=l.foldl gQ ([],0)
theorem vL (l:af) (p:Int×Int):aU (l++[p])=gQ (aU l) p:=by
 unfold aU
 rw [List.foldl_append];rfl
theorem AL:∀ (l:af) (a:af) (low:Int),a++lq low l=(l.foldl gQ (a,low)).1++(if (l.foldl gQ (a,low)).2<=1114111 then [((l.foldl gQ (a,low)).2,1114111)] else [])
 | [],a,low=>rfl
 | p::l,a,low=>by
  have ih:=AL l (a++(if low<p.1 then [(low,zo p.1)] else [])) (ku p.2)
  rw [lq,<-List.append_assoc]
  exact ih
theorem IC (l:af):lq 0 l=(aU l).1++(if (aU l).2<=1114111 then [((aU l).2,1114111)] else []):=AL l [] 0
end Go.Proofs.YtfolanohokflkaaGreatDoor
namespace Go.Proofs
open Go.Shelf
def Tryz.LZ:Go.Shelf.Ren:=⟨fun | 6=>269 | 15=>230 | 14=>290 | 28=>267 | 29=>255 | 20=>309 | 21=>310 | 22=>311 | 23=>312 | 24=>313 | 25=>314 | 26=>315 | 27=>316 | 46=>324 | 47=>285 | 48=>286 | 49=>325 | 50=>326 | 57=>336 | n=>n,fun | 22=>237 | 24=>248 | 25=>295 | 3=>3 | 39=>99 | 0=>0 | 53=>304 | 55=>278 | 4=>4 | 46=>308 | 45=>307 | 50=>69 | 5=>5 | 9=>9 | 66=>326 | 70=>330 | 76=>344 | 77=>141 | n=>n,fun | n=>n⟩
theorem Tryz.F9:Go.Proofs.SlLaysF0.n6 Tryz.prog Tryz.LZ:={
 mixed:=by kernel_rfl
 f6:=⟨ "slices.SortFunc[[]motif/motif.piece,motif/motif.piece]",by decide,Tryz.func269.trans (congrArg some (by kernel_rfl))⟩
 f14:=⟨ "slices.pdqsortCmpFunc[motif/motif.piece]",by decide,Tryz.func290.trans (congrArg some (by kernel_rfl))⟩
 f15:=Tryz.func230.trans (congrArg some (by kernel_rfl))
 f20:=⟨ "slices.insertionSortCmpFunc[motif/motif.piece]",by decide,Tryz.func309.trans (congrArg some (by kernel_rfl))⟩
 f21:=⟨ "slices.heapSortCmpFunc[motif/motif.piece]",by decide,Tryz.func310.trans (congrArg some (by kernel_rfl))⟩
 f22:=⟨ "slices.breakPatternsCmpFunc[motif/motif.piece]",by decide,Tryz.func311.trans (congrArg some (by kernel_rfl))⟩
 f23:=⟨ "slices.choosePivotCmpFunc[motif/motif.piece]",by decide,Tryz.func312.trans (congrArg some (by kernel_rfl))⟩
 f24:=⟨ "slices.reverseRangeCmpFunc[motif/motif.piece]",by decide,Tryz.func313.trans (congrArg some (by kernel_rfl))⟩
 f25:=⟨ "slices.partialInsertionSortCmpFunc[motif/motif.piece]",by decide,Tryz.func314.trans (congrArg some (by kernel_rfl))⟩
 f26:=⟨ "slices.partitionEqualCmpFunc[motif/motif.piece]",by decide,Tryz.func315.trans (congrArg some (by kernel_rfl))⟩
 f27:=⟨ "slices.partitionCmpFunc[motif/motif.piece]",by decide,Tryz.func316.trans (congrArg some (by kernel_rfl))⟩
 f28:=Tryz.func267.trans (congrArg some (by kernel_rfl))
 f29:=Tryz.func255.trans (congrArg some (by kernel_rfl))
 f46:=⟨ "slices.siftDownCmpFunc[motif/motif.piece]",by decide,Tryz.func324.trans (congrArg some (by kernel_rfl))⟩
 f47:=Tryz.func285.trans (congrArg some (by kernel_rfl))
 f48:=Tryz.func286.trans (congrArg some (by kernel_rfl))
 f49:=⟨ "slices.medianAdjacentCmpFunc[motif/motif.piece]",by decide,Tryz.func325.trans (congrArg some (by kernel_rfl))⟩
 f50:=⟨ "slices.medianCmpFunc[motif/motif.piece]",by decide,Tryz.func326.trans (congrArg some (by kernel_rfl))⟩
 f57:=⟨ "slices.order2CmpFunc[motif/motif.piece]",by decide,Tryz.func336.trans (congrArg some (by kernel_rfl))⟩
 t0:=Tryz.underlying0
 a0:=Tryz.isAgg0
 z0:=Tryz.sizeOf0
 v0:=Tryz.zeroValue0
 t3:=Tryz.underlying3
 a3:=Tryz.isAgg3
 z3:=Tryz.sizeOf3
 v3:=Tryz.zeroValue3
 t4:=Tryz.underlying4
 a4:=Tryz.isAgg4
 z4:=Tryz.sizeOf4
 v4:=Tryz.zeroValue4
 t5:=Tryz.underlying5
 a5:=Tryz.isAgg5
 z5:=Tryz.sizeOf5
 v5:=Tryz.zeroValue5
 t9:=Tryz.underlying9
 a9:=Tryz.isAgg9
 z9:=Tryz.sizeOf9
 v9:=Tryz.zeroValue9
 t22:=Tryz.underlying237
 a22:=Tryz.isAgg237
 z22:=Tryz.sizeOf237
 v22:=Tryz.zeroValue237
 t25:=Tryz.underlying295
 a25:=Tryz.isAgg295
 z25:=Tryz.sizeOf295
 v25:=Tryz.zeroValue295
 t39:=Tryz.underlying99
 a39:=Tryz.isAgg99
 z39:=Tryz.sizeOf99
 v39:=Tryz.zeroValue99
 t45:=Tryz.underlying307
 a45:=Tryz.isAgg307
 z45:=Tryz.sizeOf307
 v45:=Tryz.zeroValue307
 t46:=Tryz.underlying308
 a46:=Tryz.isAgg308
 z46:=Tryz.sizeOf308
 v46:=Tryz.zeroValue308
 t50:=Tryz.underlying69
 a50:=Tryz.isAgg69
 z50:=Tryz.sizeOf69
 v50:=Tryz.zeroValue69
 t53:=Tryz.underlying304
 a53:=Tryz.isAgg304
 z53:=Tryz.sizeOf304
 v53:=Tryz.zeroValue304
 t55:=Tryz.underlying278
 a55:=Tryz.isAgg278
 z55:=Tryz.sizeOf278
 v55:=Tryz.zeroValue278
 t66:=Tryz.underlying326
 a66:=Tryz.isAgg326
 z66:=Tryz.sizeOf326
 v66:=Tryz.zeroValue326
 t70:=Tryz.underlying330
 a70:=Tryz.isAgg330
 z70:=Tryz.sizeOf330
 v70:=Tryz.zeroValue330
 t76:=Tryz.underlying344
 a76:=Tryz.isAgg344
 z76:=Tryz.sizeOf344
 v76:=Tryz.zeroValue344
 t77:=Tryz.underlying141
 a77:=Tryz.isAgg141
 z77:=Tryz.sizeOf141
 v77:=Tryz.zeroValue141 }
end Go.Proofs
namespace Go.Proofs.YtfolanohokflkaaGreatDoor
open Go.RowKit Go.Shelf Go.Sort Go.Lib
def o6 (x:Int×Int):List Value:=[.int .i32 x.1,.int .i32 x.2]
def xI (a b:Int):Int:=if a<b then -1 else if b<a then 1 else 0
set_option maxHeartbeats 1000000 in
theorem uI (x:Int) (w:World):Calls Tryz.prog 253 #[.int .i32 x] w fun e w'=>e=.returned (.bool false)/\w=w':=by
 go_enter Tryz.func253,Tryz.ntmps253
 go_wp2
 go_ret
 exact ⟨rfl,rfl⟩
set_option maxHeartbeats 1000000 in
theorem F_ (x y:Int) (w:World):Calls Tryz.prog 238 #[.int .i32 x,.int .i32 y] w fun e w'=>e=.returned (.int .i64 (xI x y))/\w=w':=by
 by_cases h1:x<y
 ·go_enter Tryz.func238,Tryz.ntmps238
  go_wp2_with (go_at_call 253;refine (uI _ _).mono ?_;rintro e w' ⟨rfl,rfl⟩)
  go_ret
  exact ⟨by simp [xI,h1],rfl⟩
 ·by_cases h2:y<x
  ·go_enter Tryz.func238,Tryz.ntmps238
   go_wp2_with (go_at_call 253;refine (uI _ _).mono ?_;rintro e w' ⟨rfl,rfl⟩)
   go_ret
   exact ⟨by simp [xI,h1,h2],rfl⟩
  ·go_enter Tryz.func238,Tryz.ntmps238
   go_wp2_with (go_at_call 253;refine (uI _ _).mono ?_;rintro e w' ⟨rfl,rfl⟩)
   go_ret
   exact ⟨by rw [xI,if_neg (by omega),if_neg (by omega)];rfl,rfl⟩
set_option maxHeartbeats 1000000 in
theorem L6 (x y:Int×Int) (W:World):Calls Tryz.prog 237 #[.agg #[.int .i32 x.1,.int .i32 x.2],.agg #[.int .i32 y.1,.int .i32 y.2]] W fun e w'=>e=.returned (.int .i64 (xI x.1 y.1))/\∃ q os',w'=grow (W.drewN q) os':=by
 have hcon:=fun W'=>F_ x.1 y.1 W'
 generalize xI x.1 y.1=r at hcon ⊢
 go_enter Tryz.func237,Tryz.ntmps237
 go_wp2_with (go_at_call 238;refine (hcon _).mono ?_;rintro e w' ⟨rfl,rfl⟩)
 go_ret
 exact ⟨rfl,0,_,by rw [alloc_eq_grow,alloc_eq_grow,grow_grow];rfl⟩
theorem L8 (blk off size:Nat) (w:World):CmpLays Tryz.prog 237 #[] o6 2 (fun x y=>xI x.1 y.1) blk off size w:=
 fun _ _ _ _ x y=>L6 x y _
theorem X3 (x y:Int×Int):ltOf (fun x y:Int×Int=>xI x.1 y.1) x y=decide (x.1<y.1):=by
 unfold ltOf xI
 by_cases h1:x.1<y.1
 ·simp [h1]
 ·by_cases h2:y.1<x.1<;>simp [h1,h2]
theorem ab2:SWO (ltOf fun x y:Int×Int=>xI x.1 y.1) where
 irrefl x:=by rw [X3];simp
 trans x y z h1 h2:=by rw [X3] at *;simp at *;omega
 ntrans x y z h1 h2:=by rw [X3] at *;simp at *;omega
theorem iQ:∀ (l:List (Int×Int)) (i:Nat) (h:i<l.length),(aK l)[i*2]? = some (.int .i32 l[i].1)/\(aK l)[i*2+1]? = some (.int .i32 l[i].2)
 | [],_,h=>by simp at h
 | x::l,0,_=>⟨rfl,rfl⟩
 | x::l,i+1,h=>by
  have ih:=iQ l i (by simpa using h)
  rw [show (i+1)*2=i*2+1+1 from by omega]
  simpa [aK] using ih
theorem Oc (d:Array (Int×Int)):flatK o6 2 d=(aK d.toList).toArray:=by
 apply Array.ext
 ·simp [iK]
 ·intro t h1 h2
  rw [size_flatK] at h1
  have hlt:t / 2<d.toList.length:=by simp;omega
  have hd:d[t / 2]! = d.toList[t / 2]:=by
   rw [getElem!_pos d (t / 2) (by simpa using hlt)];simp
  have hg:=iQ d.toList (t / 2) hlt
  have e1:(flatK o6 2 d)[t]=(o6 d[t / 2]!)[t % 2]! := by rw [<-get_flatK o6 2 d t h1,getElem!_pos _ t (by simpa using h1)]
  rw [e1,hd]
  have e2:(aK d.toList).toArray[t]=((aK d.toList)[t]?).getD default:=by
   rw [List.getElem?_eq_getElem (by simpa using h2)];simp
  rw [e2]
  rcases Nat.mod_two_eq_zero_or_one t with h | h
  ·have e3:(aK d.toList)[t]? = some (.int .i32 d.toList[t / 2].1):=by
    have:=hg.1
    rwa [show t / 2*2=t from by omega] at this
   rw [h,e3];rfl
  ·have e3:(aK d.toList)[t]? = some (.int .i32 d.toList[t / 2].2):=by
    have:=hg.2
    rwa [show t / 2*2+1=t from by omega] at this
   rw [h,e3];rfl
theorem TM {w:World} {g:Nat} {cur:Array Value} {e:TypeId} {zs:List (Int×Int)} (hb:w.heap[g]? = some (.cells cur e (0,0))) (ht:cur.toList.take (zs.length*2)=aK zs):HoldsK o6 2 w g 0 zs.toArray:=by
 unfold HoldsK
 rw [Oc]
 intro j hj
 have hj':j<(aK zs).length:=by simpa using hj
 have hj2:j<zs.length*2:=by rw [<-iK];exact hj'
 refine ⟨?_,by simp [World.frozen?,hb]⟩
 have h1:(cur.toList.take (zs.length*2))[j]? = (aK zs)[j]? := by rw [ht]
 rw [List.getElem?_take_of_lt hj2] at h1
 simp only [World.cell?,hb,Nat.zero_add]
 simp only [Option.isSome_none,Bool.false_eq_true,if_false]
 rw [<-Array.getElem?_toList,h1]
 simp [hj']
theorem Ga {w:World} {g n:Nat} {os:Array Obj} {cur:Array Value} {e:TypeId} {fr:Nat×Nat} (d:Array (Int×Int)) (hb:w.heap[g]? = some (.cells cur e fr)) :
  (sortWorldK o6 2 w g 0 n d os).heap[g]? = some (.cells (putCells id 0 (flatK o6 2 d) cur) e fr):=by
 have hg:g<w.heap.size:=(Array.getElem?_eq_some_iff.1 hb).1
 unfold sortWorldK putRowK
 rw [heap_grow_old _ _ (by simpa using hg)]
 simp [putRow,mapBlock,Sort.ahead,Array.getElem?_modify,hb,onCells]
theorem DI {w:World} {g n:Nat} {os:Array Obj} (d:Array (Int×Int)):w.grownBy (sortWorldK o6 2 w g 0 n d os) (some g):=by
 unfold sortWorldK putRowK
 refine ⟨rfl,rfl,rfl,by simp,fun k hk hne=>?_⟩
 rw [heap_grow_old _ _ (by simpa using hk)]
 have:g≠k:=fun e=>hne (by rw [e])
 simp [putRow,mapBlock,Sort.ahead,Array.getElem?_modify,this]
theorem Gb {w:World} {base g cap n:Nat} {e:TypeId} {os:Array Obj} {cur:Array Value} {ts:List (Int×Int)} {m:Nat} (hl:ts.length=m) (hbase:base<=g) (hb:w.heap[g]? = some (.cells cur e (0,0)))
  (h1:m<=cap) (h2:cap<=maxLen) (h3:cur.size=cap*2) :
  (sortWorldK o6 2 w g 0 n ts.toArray os).ownsRow base e 2 (.slice (some ⟨g,0,none⟩) m cap) m (aK ts):=by
 refine ⟨by rw [iK,hl],.inr ⟨g,cap,_,rfl,hbase,Ga _ hb,h1,h2,by simp [putCells,h3],?_⟩⟩
 rw [Oc]
 apply List.ext_getElem?
 intro j
 have hlen:=iK ts
 by_cases hj:j<m*2
 ·rw [List.getElem?_take_of_lt hj,Array.getElem?_toList]
  have hj2:j<(aK ts).length:=by omega
  have hj3:j<cur.size:=by omega
  simp [putCells,hj2,hj3]
 ·rw [List.getElem?_take_eq_none (by omega),List.getElem?_eq_none (by omega)]
theorem aay {d:Array (Int×Int)} (h:SortedIn (ltOf fun x y:Int×Int=>xI x.1 y.1) 0 d.size d):Iy d.toList:=by
 rw [Iy,List.pairwise_iff_getElem]
 intro i j hi hj hij
 have:=h i j (Nat.zero_le _) hij (by simpa using hj)
 rw [X3,getElem!_pos d j (by simpa using hj),getElem!_pos d i (by simpa using hi)] at this
 simp at this ⊢
 omega
theorem X4 {d d':Array (Int×Int)} (h:PermIn 0 d.size d d'):d'.toList.Perm d.toList:=by
 have:=h.2.2
 have e1:d'.extract 0 d.size=d':=by rw [<-h.1];simp
 have e2:d.extract 0 d.size=d:=by simp
 rwa [e1,e2] at this
set_option maxRecDepth 100000 in
set_option maxHeartbeats 2000000 in
theorem L9 (lb:Array Value) (zs:List (Int×Int)) (hz:zs.length<=100000) (w:World)
  (hseq:SeqStopsK Fence.wide 5 Tryz.prog 270 lb (fun x:Int×Int=>#[qW x]) (Below w.heap.size) (fun ys=>ys=zs) (fun pre=>pre <+: zs) zs.length w) :
  Calls Tryz.prog 235 #[.func (.func 270) #[] lb,.func (.func 237) #[] #[]] w fun e w'=>
   ∃ v ts,e=.returned v/\ts.Perm zs/\Iy ts/\w'.ownsRow w.heap.size 248 2 v zs.length (aK ts)/\Below w.heap.size w w':=by
 have hC:=callsIn_wide.1 (collect_in 7 (by omega) lb zs hz w hseq)
 have eg:∀ args w,(callFunc 237 args).run Tryz.prog w=.ok (.enter 237 args) w:=enters_of Tryz.func237 (by kernel_rfl) rfl
 clear hseq
 go_enter Tryz.func235,Tryz.ntmps235
 go_wp2_with (go_at_call 268;refine hC.mono ?_;rintro e W ⟨v,rfl,hrow,hb⟩)
 rcases hrow.2 with ⟨rfl,hz0⟩ | ⟨gb,cap,cur,rfl,hbase,hgb,r1,r2,r3,r4⟩
 ·have hss:zs=[]:=List.eq_nil_of_length_eq_zero hz0
  subst hss
  have hN:Calls Tryz.prog 269 #[.slice none 0 0,.func (.func 237) #[] #[]] W fun e w'=>e=.returned (.tuple #[])/\w'=W:=AnyF.slices_SortFunc_none Tryz.F9 none 0 _ W
  go_wp2_with (go_at_call 269;refine hN.mono ?_;rintro e w' ⟨rfl,rfl⟩)
  go_ret
  exact ⟨_,[],rfl,List.Perm.refl _,List.Pairwise.nil,hrow,hb⟩
 ·have hgl:gb<W.heap.size:=(Array.getElem?_eq_some_iff.1 hgb).1
  have hS:Calls Tryz.prog 269 #[.slice (some ⟨gb,0,none⟩) zs.length cap,.func (.func 237) #[] #[]] W fun e w'=>e=.returned (.tuple #[])/\∃ d' n os,PermIn 0 zs.toArray.size zs.toArray d'/\SortedIn (ltOf fun x y:Int×Int=>xI x.1 y.1) 0 zs.toArray.size d'/\w'=sortWorldK o6 2 W gb 0 n d' os:=
   AnyQ.slices_SortFunc Tryz.F9 2 Tryz.isAgg248 Tryz.sizeOf248 o6 (fun _=>rfl) (fun x v hv=>by simp [o6] at hv;rcases hv with rfl | rfl<;>rfl) (fun x y=>xI x.1 y.1) ab2 237 #[] gb 0 cap zs.toArray W eg (L8 gb 0 _ W) (TM hgb r4) hgl (by simp;omega)
  have HR:=hide hrow
  have HB:=hide hb
  have HS:=hide hS
  clear hrow hb hS
  go_wp2_with (go_at_call 269;refine (aa HS).mono ?_;rintro e w' ⟨rfl,d',n,os,hp,hs,rfl⟩)
  go_ret
  have hsz:d'.toList.length=zs.length:=by have:=hp.1;simpa using this
  refine ⟨_,d'.toList,rfl,by simpa using X4 hp,aay (by have:=hp.1;rw [this];exact hs),?_,?_⟩
  ·have:=Gb (n:=n) (os:=os) (ts:=d'.toList) hsz hbase hgb r1 r2 r3
   simpa using this
  ·exact (aa HB).grown (DI d') (aa HB).size (fun j hj=>by cases hj;exact hbase)
end Go.Proofs.YtfolanohokflkaaGreatDoor
namespace Go.Proofs.YtfolanohokflkaaGreatDoor
open Go.RowKit
set_option maxHeartbeats 1000000 in
theorem xJ (c:Int) (w:World) (h0:0<=c) (h1:c<=1114112):Calls Tryz.prog 232 #[.int .i32 c] w fun e w'=>e=.returned (.int .i32 (ku c))/\w=w':=by
 by_cases h:c=55295
 ·subst h
  go_enter Tryz.func232,Tryz.ntmps232
  go_wp2
  go_ret
  exact ⟨rfl,rfl⟩
 ·have hne:(c==(55295:Int))=false:=by simp [h]
  have hw:IntKind.i32.wrap (c+1)=c+1:=by simp [IntKind.wrap,IntKind.bits,IntKind.signed];omega
  have ha:ku c=c+1:=by rw [ku,if_neg h]
  rw [ha]
  clear h ha
  go_enter Tryz.func232,Tryz.ntmps232
  go_wp2
  go_ret
  exact ⟨rfl,rfl⟩
set_option maxHeartbeats 1000000 in
theorem QG (c:Int) (w:World) (h0:0<c) (h1:c<=1114111):Calls Tryz.prog 231 #[.int .i32 c] w fun e w'=>e=.returned (.int .i32 (if c=57344 then 55295 else c - 1))/\w=w':=by
 by_cases h:c=57344
 ·subst h
  go_enter Tryz.func231,Tryz.ntmps231
  go_wp2
  go_ret
  exact ⟨rfl,rfl⟩
 ·have hne:(c==(57344:Int))=false:=by simp [h]
  have hw:IntKind.i32.wrap (c - 1)=c - 1:=by simp [IntKind.wrap,IntKind.bits,IntKind.signed];omega
  rw [if_neg h]
  clear h
  go_enter Tryz.func231,Tryz.ntmps231
  go_wp2
  go_ret
  exact ⟨rfl,rfl⟩
def fA (zs:List Int):List Value:=zs.map (Value.int .i32)
theorem IE:(Tryz.prog.info? 21).map (fun i=>(i.zero,i.size,i.bytes))=some (some (.int .i32 0),1,4):=by kernel_rfl
def jb (w wr:World) (v:Value) (acc:af):Prop:=wr.ownsRow w.heap.size 21 1 v (bE acc).length (fA (bE acc))/\Below w.heap.size w wr
theorem jb.drewN {w wr:World} {v:Value} {acc:af} (h:jb w wr v acc) (q:Nat):jb w (wr.drewN q) v acc:=⟨h.1,⟨h.2.os,h.2.tape,h.2.output,h.2.size,h.2.block⟩⟩
theorem TN {w w':World} {v':Value} {acc:af} {lo hi:Int} (ho:Hid (w'.ownsRow w.heap.size 21 1 v' ((bE acc).length+2) (fA (bE acc)++[.int .i32 lo,.int .i32 hi]))) (hb:Hid (Below w.heap.size w w')):Hid (jb w w' v' (acc++[(lo,hi)])):=by
 refine ⟨?_,hb⟩
 rw [mI,List.length_append]
 have e:fA (bE acc++bE [(lo,hi)])=fA (bE acc)++[.int .i32 lo,.int .i32 hi]:=by simp [fA,bE]
 rw [e]
 exact ho
theorem IG {ops:Array Oper} {rest:List Oper} {o:Oper} {a:Act} {Q:Exit->Act->World->Prop} (w wr:World) (acc:af) (v:Value) (lo hi:Int) (s x:Operand) (hg:o.guard=none)
  (hop:o.op=.call { callee:=.builtin .append,args:=#[s,x],argTypes:=#[107,107] }) (hs:a.eval s=v) (hx:a.eval x=.slice (some ⟨wr.heap.size,0,none⟩) 2 2)
  (ho:Hid (jb w wr v acc)) (hl:acc.length<=2000)
  (K:∀ ae ce w',Hid (jb w w' (.slice ae ((bE acc).length+2) ce) (acc++[(lo,hi)]))->wpList Tryz.prog ops Q rest (a.put o.dst (.slice ae ((bE acc).length+2) ce)) w') :
  wpList Tryz.prog ops Q (o::rest) a (wr.alloc (.cells #[.int .i32 lo,.int .i32 hi] 21)):=by
 obtain ⟨i0,hi0,hz0,hz1,hz2⟩:=info_parts IE
 obtain ⟨hown,hb'⟩:=aa ho
 have:=hb'.size
 have hfl:=fI acc
 refine wpList_append_own _ hg s x 107 hop w.heap.size 21 i0 (.int .i32 0) 1 4 Tryz.underlying107 hi0 hz0 hz1 hz2 rfl (by decide) _ _ _ hs (hown.alloc _) ⟨wr.heap.size,0,none⟩ 2 2 [.int .i32 lo,.int .i32 hi] hx rfl (bH wr [.int .i32 lo,.int .i32 hi] _) (by intro u hu;simp at hu;rcases hu with rfl | rfl<;>rfl) (by unfold maxLen;omega) (by omega) (by simp;omega) ?_
 intro v' w' h1 h2 _
 obtain ⟨ae,ce,rfl,-⟩:=aQ h1
 exact K ae ce w' (TN h1 (iY hb' hown h2 hb'.size))
theorem AO:∀ (L:af) (x:Int×Int) (h:Int),(fA (bE (L++[x]))).set (L.length*2+1) (.int .i32 h)=fA (bE (L++[(x.1,h)]))
 | [],_,_=>rfl
 | y::L,x,h=>by
  have:=AO L x h
  rw [show (y::L).length*2+1=(L.length*2+1)+1+1 from by simp;omega]
  simp only [List.cons_append,bE,fA,List.map_cons,List.set_cons_succ]
  simp only [fA] at this
  rw [this]
theorem L_ {w wq:World} {ge m ce:Nat} {L:af} {x:Int×Int} {h:Int} (he:Hid (jb w wq (.slice (some ⟨ge,0,none⟩) (m+1) ce) (L++[x]))) (hm:Hid (m=L.length*2+1)) :
  Hid (jb w ((wq.setCell ⟨ge,m,none⟩ (.int .i32 h)).drew) (.slice (some ⟨ge,0,none⟩) (m+1) ce) (L++[(x.1,h)])):=by
 obtain ⟨h1,h2⟩:=aa he
 have hl:(bE (L++[x])).length=m+1:=by rw [fI,aa hm];simp;omega
 have hl2:(bE (L++[(x.1,h)])).length=m+1:=by rw [fI,aa hm];simp;omega
 have hge:w.heap.size<=ge:=by
  rcases h1.2 with ⟨e,_⟩ | ⟨g,cap,cur,e,hb,_⟩
  ·cases e
  ·have e1:=(Value.slice.inj e).1
   simp at e1
   rw [e1];exact hb
 have h3:=XE h1 (g:=ge) (j:=m) rfl (by omega) (.int .i32 h)
 rw [aa hm,AO,<-aa hm,hl] at h3
 have h4:=h2.setCell (p:=⟨ge,m,none⟩) hge (.int .i32 h)
 refine ⟨?_,⟨h4.os,h4.tape,h4.output,h4.size,h4.block⟩⟩
 rw [hl2];exact h3
theorem aaz {ts:af} {k m:Nat} {L:af} {x p:Int×Int} {h:Int} (hms:Hid (gG (ts.take (k+1))=lW (L++[x]) p)) (hm:Hid (m=L.length*2+1)) (he:lW (L++[x]) p=L++[(x.1,h)]):Hid (m+1=(bE (gG (ts.take (k+1)))).length):=by
 show m+1=_
 rw [aa hms,he,fI,aa hm];simp;omega
theorem QH {w wr W:World} {v:Value} {acc:af} (h:jb w wr v acc) (hh:W.heap=wr.heap):W.ownsRow w.heap.size 21 1 v (bE acc).length (fA (bE acc)):=by
 obtain ⟨hl,hx | ⟨g,cap,cur,hv,hb',hg,rest⟩⟩:=h.1
 ·exact ⟨hl,.inl hx⟩
 ·exact ⟨hl,.inr ⟨g,cap,cur,hv,hb',by rw [hh];exact hg,rest⟩⟩
theorem QI {W:World} {base n ce:Nat} {ae:Option Addr} {acc:af} (h:W.ownsRow base 21 1 (.slice ae n ce) (bE acc).length (fA (bE acc))) (hn:n=(bE acc).length) :
  (convert 107 61 (.slice ae n ce)).run Tryz.prog W=.ok (.string (encS acc)) W:=by
 have hc:=fun g (hg:(Value.slice ae n ce).ownBlock=some g)=>h.cells hg
 rcases h.2 with ⟨e,hz⟩ | ⟨g,cap,cur,e,hb,hg,h1,h2,h3,h4⟩
 ·cases e
  rw [run_convert_runes_nil W _ _ 21 0 0 Tryz.underlying107 Tryz.underlying21 Tryz.underlying61]
  rw [encS,List.eq_nil_of_length_eq_zero hz];rfl
 ·cases e
  have:=run_convert_runes W 107 61 21 ⟨g,0,none⟩ (bE acc).length ce (bE acc) (Nat.le_refl _) Tryz.underlying107 Tryz.underlying21 Tryz.underlying61 (fun j hj=>hc g rfl j _ (by simp [fA,hj]))
  rw [this,List.take_length];rfl
theorem Gc (wr:World) (lo hi:Int) (q:Nat):((wr.alloc (.cells #[.int .i32 lo,.int .i32 hi] 248)).drewN q).cell? ⟨wr.heap.size,0,none⟩=some (.int .i32 lo):=(uC.new wr (lo,hi)).c0
theorem Ma (wr:World) (lo hi:Int) (q:Nat):((wr.alloc (.cells #[.int .i32 lo,.int .i32 hi] 248)).drewN q).cell? ⟨wr.heap.size,1,none⟩=some (.int .i32 hi):=(uC.new wr (lo,hi)).c1
set_option maxRecDepth 100000 in
set_option maxHeartbeats 4000000 in
theorem o7 (w:World) (sv:Value) (zs:List (Int×Int)) (hz:zs.length<=1000) (hI:vG w.heap.size w sv zs) (hg:∀ p∈zs,jB p) :
  Calls Tryz.prog 160 #[sv] w fun e w'=>e=.returned (.string (encS (iO zs)))/\Below w.heap.size w w':=by
 obtain ⟨a,n0,cap,rfl⟩:∃ a n0 cap,sv=.slice a n0 cap:=by
  rcases hI with ⟨rfl,_⟩ | ⟨b,off,cap,rfl,_⟩
  ·exact ⟨_,_,_,rfl⟩
  ·exact ⟨_,_,_,rfl⟩
 have hB0:Below w.heap.size w (w.alloc (.cells #[.slice a n0 cap] 237)):=(Below.refl _ w).alloc (Nat.le_refl _) _
 have hI1:vG (w.alloc (.cells #[.slice a n0 cap] 237)).heap.size (w.alloc (.cells #[.slice a n0 cap] 237)) (.slice a n0 cap) zs:=by
  rcases hI.below hB0 with h | ⟨b,off,cap',e,hb,hc⟩
  ·exact .inl h
  ·exact .inr ⟨b,off,cap',e,by simp;omega,hc⟩
 have hV:=callsIn_wide.1 (XW 1 a n0 cap w)
 have hS:=L9 #[.pointer (some ⟨w.heap.size,0,none⟩)] zs (by omega) _ (LW 5 (by omega) w.heap.size _ _ zs (by omega) _ (by simp) (Nat.le_refl _) (Boxed.new w 237 (.slice a n0 cap)).cell hI1)
 generalize hW1:w.alloc (.cells #[.slice a n0 cap] 237)=w1 at *
 have HV:=hide hV
 have HS:=hide hS
 have HB0:=hide hB0
 have HG:=hide hg
 clear hV hS hB0 hI hI1 hg hW1
 go_enter Tryz.func160,Tryz.ntmps160
 go_wp2_with (first
  | (go_at_call 236;refine (aa HV).mono ?_;clear HV;rintro e w' ⟨rfl,rfl⟩)
  | (go_at_call 235;refine (aa HS).mono ?_;clear HS;rintro e w2 ⟨v,ts,rfl,hp,hs,hrow,hb⟩;have HP:=hide hp;have HSR:=hide hs;have HB:=hide hb;obtain ⟨av,cv,rfl,hvw⟩:=aQ hrow;have Mc:=hide hvw;clear hp hs hrow hb hvw))
 have hlen:ts.length=zs.length:=(aa HP).length_eq
 have HGT:Hid (∀ p∈ts,jB p):=fun p h=>aa HG p ((aa HP).mem_iff.1 h)
 have QJ:Hid (Below w.heap.size w w2):=(aa HB0).trans ((aa HB).mono (aa HB0).size)
 have hR0:Hid (jb w2 w2 (.slice none 0 0) (gG (ts.take 0))):=⟨World.ownsRow_nil _ _ _ _,Below.refl _ _⟩
 go_loopw [4,13] (fun v i wr=>∃ (k n:Nat) (ae:Option Addr) (ce:Nat),k<=zs.length/\i=.int .i64 k/\v=.slice ae n ce/\Hid (n=(bE (gG (ts.take k))).length)/\Hid (jb w2 wr (.slice ae n ce) (gG (ts.take k)))) (fun _ i _=>zs.length - (intOf i).toNat)
 case atStart=>exact ⟨0,0,none,0,Nat.zero_le _,rfl,rfl,rfl,hR0⟩
 case round=>
  obtain ⟨k,n,ae,ce,hk,rfl,rfl,HN,HE⟩:=hrel
  obtain ⟨hown,hbel⟩:=aa HE
  by_cases hlt:k<zs.length
  ·obtain ⟨g,rfl,-,hg,hc,-⟩:=aa Mc (by omega)
   have hkt:k<ts.length:=by omega
   have hget:=iQ ts k hkt
   have c1:=hc (k*2) (by omega)
   have c2:=hc (k*2+1) (by omega)
   rw [hget.1,<-hbel.cell (p:=⟨g,k*2,none⟩) hg] at c1
   rw [hget.2,<-hbel.cell (p:=⟨g,k*2+1,none⟩) hg] at c2
   have htk:ts.take (k+1)=ts.take k++[ts[k]]:=List.take_succ_eq_append_getElem hkt
   have hgp:=aa HGT ts[k] (List.getElem_mem hkt)
   have hms:gG (ts.take (k+1))=lW (gG (ts.take k)) ts[k]:=by rw [htk,LX]
   have hml:(gG (ts.take k)).length<=1000:=by have:=QE (ts.take k);rw [List.length_take] at this;omega
   have X5:=hide hms
   have ab3:=HGT
   have ab4:=HSR
   clear hms htk hget hc Mc HP HSR HG HGT
   generalize hx1:ts[k].1=lo at c1
   generalize hx2:ts[k].2=hi at c2
   have hpe:ts[k]=(lo,hi):=Prod.ext hx1 hx2
   rw [hpe] at X5 hgp
   clear hx1 hx2 hpe
   obtain ⟨_,_,hvv,hve⟩:=aQ hown
   rw [<-aa HN] at hve
   obtain ⟨rfl,-,rfl⟩:=Value.slice.inj hvv
   clear hvv
   rcases List.eq_nil_or_concat (gG (ts.take k)) with hnil | ⟨L,x,hcon⟩
   ·have hn0:n=0:=by rw [aa HN,hnil];rfl
    subst hn0
    rw [hnil] at HE X5 hml
    have HE':Hid _:=hide (show jb w2 (wr.alloc (.cells #[.int .i32 lo,.int .i32 hi] 248)) (.slice ae 0 ce) [] from ⟨(aa HE).1.alloc _,(aa HE).2.alloc (aa HE).2.size _⟩)
    clear hown hbel hve hnil HE HN
    go_wp2_with fail
    go_quiet (fail)
    have q0:=Gc wr lo hi nq
    have q1:=Ma wr lo hi nq
    have HEq:=hide ((aa HE').drewN nq)
    clear HE'
    generalize (wr.alloc (.cells #[.int .i32 lo,.int .i32 hi] 248)).drewN nq=wq at *
    go_wp2_with (at_builtin;refine IG w2 wq [] _ lo hi (.tmp 42) (.tmp 47) rfl rfl rfl rfl HEq (by simp) ?_;intro ae1 ce1 w1 HE1)
    go_roundw
    case rel=>exact ⟨k+1,_,ae1,ce1,by omega,by go_num,rfl,(by show _=_;rw [aa X5];rfl),(by rw [aa X5,xG];exact HE1)⟩
    case measure=>simp [intOf];omega
   ·simp only [List.concat_eq_append] at hcon
    obtain ⟨m,hm⟩:∃ m,m=L.length*2+1:=⟨_,rfl⟩
    have hn2:n=m+1:=by rw [aa HN,hcon,mI,List.length_append,fI,hm];rfl
    subst hn2
    rw [hcon] at HE X5 hml
    have hxg:jB x:=by
     have:=bB (F8 (ts.take k) (acc:=[]) trivial (fun p hp=>aa ab3 p (List.mem_of_mem_take hp)) ((aa ab4).sublist (List.take_sublist _ _)) (by simp)).1 x
     exact this (by show x∈gG (ts.take k);rw [hcon];simp)
    have HE':Hid _:=hide (show jb w2 (wr.alloc (.cells #[.int .i32 lo,.int .i32 hi] 248)) (.slice ae (m+1) ce) (L++[x]) from ⟨(aa HE).1.alloc _,(aa HE).2.alloc (aa HE).2.size _⟩)
    obtain ⟨ge,rfl,hge,ab5,hce,hfe⟩:=hve (by omega)
    have ce1:=hce m (by omega)
    have fe1:=hfe m
    have ad6:L.length<=1000:=by simp at hml;omega
    have hat:(fA (bE (gG (ts.take k))))[m]? = some (.int .i32 x.2):=by
     rw [hcon,mI,hm]
     have hl:=fI L
     simp [fA,bE,hl]
    rw [hat] at ce1
    have hx2:=aF.1 hxg.2.1
    have HM:=hide hm
    have hmb:m<=2001:=by omega
    have hm1:1<=m:=by omega
    have hd0:decide (0<m)=true:=by simp;omega
    clear hown hbel hve hcon HE HN hce hfe hat hm ab3 ab4
    have hbl:=(aa HE').2
    have cq:∀ q,((wr.alloc (.cells #[.int .i32 lo,.int .i32 hi] 248)).drewN q).cell? ⟨ge,m,none⟩=some (.int .i32 x.2):=fun q=>((Below.refl wr.heap.size wr).alloc (Nat.le_refl _) _).cell (p:=⟨ge,m,none⟩) ab5 |>.trans ce1
    have fq:∀ q,((wr.alloc (.cells #[.int .i32 lo,.int .i32 hi] 248)).drewN q).frozen? ⟨ge,m,none⟩=false:=fun q=>((Below.refl wr.heap.size wr).alloc (Nat.le_refl _) _).frozen (p:=⟨ge,m,none⟩) ab5 |>.trans fe1
    have q0:=fun q=>Gc wr lo hi q
    have q1:=fun q=>Ma wr lo hi q
    by_cases hle:lo<=ku x.2
    ·have hA:∀ W:World,Calls Tryz.prog 232 #[.int .i32 x.2] W fun e w'=>e=.returned (.int .i32 (ku x.2))/\w'=W:=fun W=>(xJ x.2 W (by omega) (by omega)).mono fun e w' hh=>⟨hh.1,hh.2.symm⟩
     obtain ⟨av,Md⟩:∃ av,ku x.2=av:=⟨_,rfl⟩
     rw [Md] at hle hA
     have HA:=hide hA
     have HAV:=hide Md
     clear hA Md
     go_wp2_with fail
     go_quiet ((go_at_call 232;exact Calls.quiet_of_same (aa HA _)))
     have q0':=q0 nq
     have q1':=q1 nq
     have cq':=cq nq
     have fq':=fq nq
     have HEq:=hide ((aa HE').drewN nq)
     clear HE' q0 q1 cq fq HA hbl c1 c2 ce1 fe1
     generalize (wr.alloc (.cells #[.int .i32 lo,.int .i32 hi] 248)).drewN nq=wq at *
     go_wp2_with fail
     go_region
     go_wp2_with fail
     go_roundw
     case rel=>exact ⟨k+1,m+1,_,_,by omega,by go_num,rfl,aaz X5 HM (by rw [lh,if_pos (by rw [aa HAV];exact hle)]),(by rw [aa X5,lh,if_pos (by rw [aa HAV];exact hle)];exact L_ HEq HM)⟩
     case measure=>simp [intOf];omega
    ·have hA:∀ W:World,Calls Tryz.prog 232 #[.int .i32 x.2] W fun e w'=>e=.returned (.int .i32 (ku x.2))/\w'=W:=fun W=>(xJ x.2 W (by omega) (by omega)).mono fun e w' hh=>⟨hh.1,hh.2.symm⟩
     have hdl:decide (lo<=ku x.2)=false:=by simpa using hle
     obtain ⟨av,Md⟩:∃ av,ku x.2=av:=⟨_,rfl⟩
     rw [Md] at hle hA hdl
     have HA:=hide hA
     have HAV:=hide Md
     clear hA Md
     go_wp2_with fail
     go_quiet ((go_at_call 232;exact Calls.quiet_of_same (aa HA _)))
     have q0':=q0 nq
     have q1':=q1 nq
     have HEq:=hide ((aa HE').drewN nq)
     clear HE' q0 q1 cq fq HA hbl c1 c2 ce1 fe1
     generalize (wr.alloc (.cells #[.int .i32 lo,.int .i32 hi] 248)).drewN nq=wq at *
     go_wp2_with (at_builtin;refine IG w2 wq (L++[x]) _ lo hi (.tmp 42) (.tmp 47) rfl rfl rfl rfl HEq (by simp;omega) ?_;intro ae1 ce2 w1 HE1)
     go_roundw
     case rel=>exact ⟨k+1,_,ae1,ce2,by omega,by go_num,rfl,(by show _=_;rw [aa X5,lh,if_neg (by rw [aa HAV];show ¬ lo<=av;omega),mI (L++[x]),List.length_append];rfl),(by rw [aa X5,lh,if_neg (by rw [aa HAV];show ¬ lo<=av;omega)];exact HE1)⟩
     case measure=>simp [intOf];omega
  ·have hkz:k=ts.length:=by omega
   have hcv:∀ (W:World),W.heap=wr.heap->(convert 107 61 (.slice ae n ce)).run Tryz.prog W=.ok (.string (encS (gG ts))) W:=by
    intro W hW
    rw [hkz,List.take_length] at HE HN
    exact QI (QH (aa HE) hW) (aa HN)
   have hfin:gG ts=iO zs:=Iz (aa HG) (aa HP) (aa HSR)
   rw [hfin] at hcv
   have hc0:=hcv wr rfl
   have HBF:=hide ((aa QJ).trans (hbel.mono (aa QJ).size))
   clear hfin hcv HG HP HSR HGT Mc HE HN hown hbel
   go_wp2_with fail
   go_ret
   exact ⟨rfl,aa HBF⟩
end Go.Proofs.YtfolanohokflkaaGreatDoor
namespace Go.Proofs.YtfolanohokflkaaGreatDoor
open Go.RowKit
theorem Me (w:World) (l:af) (hl:l.length<=1000) (hg:∀ p∈l,jB p):∃ cap w1,(convert 61 107 (.string (encS l))).run Tryz.prog w=.ok (.slice (some ⟨w.heap.size,0,none⟩) (l.length*2) cap) w1/\Below w.heap.size w w1/\w.heap.size<w1.heap.size/\∀ (j:Nat) (u:Value),(fA (bE l))[j]? = some u->w1.cell? ⟨w.heap.size,j,none⟩=some u:=by
 have hr:=uH hg
 have hfl:=fI l
 have hsz:(Conv.runesFrom (encS l) (encS l).size 0 #[]).size=l.length*2:=by rw [hr,List.size_toArray,List.length_map,hfl]
 have h:=run_runes_of_string (P:=Tryz.prog) w 61 107 21 (encS l) Tryz.underlying61 Tryz.underlying107 Tryz.underlying21 (by rw [hsz];omega)
 rw [hsz,hr] at h
 refine ⟨_,_,h,?_,by rw [World.size_alloc];exact Nat.lt_succ_self _,fun j u hu=>?_⟩
 ·have hb:=(Below.refl w.heap.size w).alloc (Nat.le_refl _) (.cells (((bE l).map (Value.int .i32)).toArray++Array.replicate (grownCap w (l.length*2) 0 21 - l.length*2) (.int .i32 0)) 21)
  exact ⟨hb.os,hb.tape,hb.output,hb.size,hb.block⟩
 ·have hn:=heap_alloc_new w.drew (.cells (((bE l).map (Value.int .i32)).toArray++Array.replicate (grownCap w (l.length*2) 0 21 - l.length*2) (.int .i32 0)) 21)
  have hn':(w.drew.alloc (.cells (((bE l).map (Value.int .i32)).toArray++Array.replicate (grownCap w (l.length*2) 0 21 - l.length*2) (.int .i32 0)) 21)).heap[w.heap.size]? = _:=hn
  have hj:j<(fA (bE l)).length:=by
   rcases Nat.lt_or_ge j (fA (bE l)).length with h | h
   ·exact h
   ·rw [List.getElem?_eq_none h] at hu;cases hu
  simp only [World.cell?,hn']
  simp only [Option.isSome_none,Bool.false_eq_true,if_false]
  rw [Array.getElem?_append_left (by simpa [fA] using hj)]
  simpa [fA] using hu
theorem TP (w:World) (o:Obj):(w.alloc o).drew.heap[w.heap.size]? = some o:=heap_alloc_new w o
theorem TQ (w:World) (o:Obj):(w.alloc o).drew.heap.size=w.heap.size+1:=by
 show (w.alloc o).heap.size=_
 simp
theorem II {w1 w':World} {g cap k:Nat} {l:af} (hk:k<l.length) (ho:Hid (w'.ownsRow w1.heap.size 248 2 (.slice (some ⟨g,0,none⟩) (k+1) cap) (k+1) (aK (l.take k)++[.int .i32 l[k].1,.int .i32 l[k].2]))) :
  w'.ownsRow w1.heap.size 248 2 (.slice (some ⟨g,0,none⟩) (k+1) cap) (k+1) (aK (l.take (k+1))):=by
 rw [List.take_succ_eq_append_getElem hk,iL];exact ho
theorem Ep {w1 wr w3:World} {o:Obj} {v:Value} {n:Nat} {xs:List Value} (hb:Hid (Below w1.heap.size w1 wr)) (ho:Hid (wr.ownsRow w1.heap.size 248 2 v n xs)) (hg:Hid ((wr.alloc o).drew.grownBy w3 v.ownBlock)):Hid (Below w1.heap.size w1 w3):=by
 have h:=aa hg
 exact iY (aa hb) (aa ho) (show (wr.alloc o).grownBy w3 v.ownBlock from ⟨h.os,h.tape,h.output,h.size,h.block⟩) (aa hb).size
theorem flat_get:∀ (l:af) (k:Nat) (h:k<l.length),(fA (bE l))[k*2]? = some (.int .i32 l[k].1)/\(fA (bE l))[k*2+1]? = some (.int .i32 l[k].2)
 | [],_,h=>by simp at h
 | x::l,0,_=>⟨rfl,rfl⟩
 | x::l,i+1,h=>by
  have ih:=flat_get l i (by simpa using h)
  rw [show (i+1)*2=i*2+1+1 from by omega]
  simpa [bE,fA] using ih
set_option maxRecDepth 100000 in
set_option maxHeartbeats 4000000 in
theorem jN (w:World) (l:af) (hl:l.length<=1000) (hg:∀ p∈l,jB p) :
  Calls Tryz.prog 161 #[.string (encS l)] w fun e w'=>∃ v,e=.returned v/\w'.ownsRow w.heap.size 248 2 v l.length (aK l)/\Below w.heap.size w w':=by
 obtain ⟨i0,hi0,hz0,hz1,hz2⟩:=info_parts oU
 obtain ⟨cap,w1,ZT,hb1,hlt1,hc1⟩:=Me w l hl hg
 have HB1:=hide hb1
 have Ls:=hide hc1
 clear hb1 hc1
 generalize encS l=s at ZT
 obtain ⟨N,hN⟩:∃ N,l.length*2=N:=⟨_,rfl⟩
 rw [hN] at ZT
 have hN2:N<=2000:=by omega
 have Lt:=hide hN
 clear hN
 go_enter Tryz.func161,Tryz.ntmps161
 go_wp2_with fail
 go_loopw [4,5] (fun v i wr=>∃ (k m:Nat) (av:Option Addr) (cv:Nat),k<=l.length/\i=.int .i64 m/\v=.slice av k cv/\Hid (k*2=m)/\Hid (wr.ownsRow w1.heap.size 248 2 (.slice av k cv) k (aK (l.take k)))/\Hid (Below w1.heap.size w1 wr)) (fun _ i _=>N - (intOf i).toNat)
 case atStart=>exact ⟨0,0,none,0,Nat.zero_le _,rfl,rfl,rfl,World.ownsRow_nil _ _ _ _,Below.refl _ _⟩
 case round=>
  obtain ⟨k,m,av,cv,hk,rfl,rfl,HM,HO,HB⟩:=hrel
  have hmm:=aa HM
  have hnn:=aa Lt
  by_cases hlt:k<l.length
  ·have hf:=flat_get l k hlt
   have c1:=((aa HB).cell (p:=⟨w.heap.size,k*2,none⟩) hlt1).trans (aa Ls _ _ hf.1)
   have c2:=((aa HB).cell (p:=⟨w.heap.size,k*2+1,none⟩) hlt1).trans (aa Ls _ _ hf.2)
   clear hf Ls
   have HX:=HO
   have hown:=aa HO
   have hsz:=(aa HB).size
   clear HO
   generalize hlo:l[k].1=lo at c1
   generalize hhi:l[k].2=hi at c2
   rw [hmm] at c1 c2
   have hmN:m+1<N:=by omega
   have ZP:(m:Int)+1<(N:Int):=by omega
   have hmJ:(m:Int)<(N:Int):=by omega
   have hm0:(0:Int)<=(m:Int)+1:=by omega
   have hwr:IntKind.i64.wrap ((m:Int)+1)=((m+1:Nat):Int):=by simp [IntKind.wrap,IntKind.bits,IntKind.signed];omega
   clear hmm hnn
   go_wp2_with fail
   go_region_law
    ((refine step_append_lies _ (by rfl) _ _ _ (by rfl) w1.heap.size 248 i0 _ 2 8 Tryz.underlying237 hi0 hz0 hz1 hz2 rfl (by omega) (.slice av k cv) k (aK (l.take k)) (by rfl) ((hown.alloc _).drew)
       ⟨wr.heap.size,0,none⟩ 1 1 [.int .i32 lo,.int .i32 hi] (by rfl) (by rfl) (World.news_of_block (cs:=#[.int .i32 lo,.int .i32 hi]) (t:=248) (fr:=(0,0)) (TP wr _)) (by intro u hu;simp at hu;rcases hu with rfl | rfl<;>rfl)
       (by omega) (by unfold maxLen;omega) (by omega) (by show w1.heap.size<=(wr.alloc _).heap.size;simp;omega) (wr.heap.size+1) (TQ wr _) ?_;intro gg cap2 w3 hown1 hgrow hat hlt3))
   all_goals have HG:=hide hgrow
   all_goals have zt:=hide hown1
   all_goals clear hgrow hown1 hown
   all_goals go_wp2_with fail
   all_goals go_roundw
   case rel=>exact ⟨k+1,m+2,some ⟨gg,0,none⟩,cap2,by omega,by go_num,rfl,(by show (k+1)*2=m+2;have:=aa HM;omega),II hlt (by rw [hlo,hhi];exact zt),Ep HB HX HG⟩
   case measure=>simp [intOf];omega
   case rel=>exact ⟨k+1,m+2,some ⟨gg,0,none⟩,cap2,by omega,by go_num,rfl,(by show (k+1)*2=m+2;have:=aa HM;omega),II hlt (by rw [hlo,hhi];exact zt),Ep HB HX HG⟩
   case measure=>simp [intOf];omega
  ·have hkl:k=l.length:=by omega
   have hmN:m=N:=by omega
   subst hmN
   subst hkl
   rw [List.take_length] at HO
   clear Ls hmm hnn
   go_wp2_with fail
   go_ret
   exact ⟨_,rfl,eH (aa HO) (aa HB1).size,(aa HB1).trans ((aa HB).mono (aa HB1).size)⟩
end Go.Proofs.YtfolanohokflkaaGreatDoor
namespace Go.Proofs.YtfolanohokflkaaGreatDoor
open Go.RowKit
theorem TR {ops:Array Oper} {rest:List Oper} {o:Oper} {a:Act} {Q:Exit->Act->World->Prop} (w wr:World) (zs:List (Int×Int)) (v:Value) (lo hi:Int) (s x:Operand) (hg:o.guard=none)
  (hop:o.op=.call { callee:=.builtin .append,args:=#[s,x],argTypes:=#[237,237] }) (hs:a.eval s=v) (hx:a.eval x=.slice (some ⟨wr.heap.size,0,none⟩) 1 1)
  (ho:Hid (wr.ownsRow w.heap.size 248 2 v zs.length (aK zs))) (hb:Hid (Below w.heap.size w wr)) (hl:zs.length<=2000000)
  (K:∀ ao cap w',Hid (w'.ownsRow w.heap.size 248 2 (.slice ao (zs.length+1) cap) (zs++[(lo,hi)]).length (aK (zs++[(lo,hi)])))->Hid (Below w.heap.size w w')->Hid ((wr.alloc (.cells #[.int .i32 lo,.int .i32 hi] 248)).grownBy w' v.ownBlock)->wpList Tryz.prog ops Q rest (a.put o.dst (.slice ao (zs.length+1) cap)) w') :
  wpList Tryz.prog ops Q (o::rest) a (wr.alloc (.cells #[.int .i32 lo,.int .i32 hi] 248)):=by
 obtain ⟨i0,hi0,hz0,hz1,hz2⟩:=info_parts oU
 have hb':Below w.heap.size w wr:=hb
 have:=hb'.size
 refine wpList_append_own _ hg s x 237 hop w.heap.size 248 i0 (.agg #[.int .i32 0,.int .i32 0]) 2 8 Tryz.underlying237 hi0 hz0 hz1 hz2 rfl (by decide) _ _ _ hs ((aa ho).alloc _) ⟨wr.heap.size,0,none⟩ 1 1 [.int .i32 lo,.int .i32 hi] hx rfl (bH wr [.int .i32 lo,.int .i32 hi] _) (by intro u hu;simp at hu;rcases hu with rfl | rfl<;>rfl) (by unfold maxLen;omega) (by omega) (by simp;omega) ?_
 intro v' w' h1 h2 _
 have h3:w'.ownsRow w.heap.size 248 2 v' (zs++[(lo,hi)]).length (aK (zs++[(lo,hi)])):=by
  rw [iL,List.length_append];exact h1
 obtain ⟨ao,cap,rfl,-⟩:=aQ h3
 have e:(zs++[(lo,hi)]).length=zs.length+1:=by simp
 rw [e] at h3 ⊢
 exact K ao cap w' (by rw [e];exact h3) (iY hb ho h2 hb'.size) h2
theorem nk {w':World} {v:Value} {zs:List (Int×Int)} {base:Nat} (ho:w'.ownsRow base 248 2 v zs.length (aK zs)):vG w'.heap.size w' v zs:=by
 rcases ho.2 with ⟨rfl,hz⟩ | ⟨g,cap,cur,rfl,hb,hg,h1,h2,h3,h4⟩
 ·exact .inl ⟨rfl,List.eq_nil_of_length_eq_zero hz⟩
 ·refine .inr ⟨g,0,cap,rfl,(Array.getElem?_eq_some_iff.1 hg).1,fun j hj=>?_⟩
  have hc:=ho.cells (g:=g) rfl
  have hgt:=iQ zs j hj
  have e0:(⟨g,0,none⟩:Addr).add (j*2)=⟨g,0+j*2,none⟩:=by unfold Addr.add;split<;>simp_all
  have e1:(⟨g,0,none⟩:Addr).add (j*2+1)=⟨g,0+j*2+1,none⟩:=by unfold Addr.add;split<;>simp_all
  have c0:=hc _ _ hgt.1
  have c1:=hc _ _ hgt.2
  rw [e0] at c0
  rw [e1] at c1
  exact ⟨c0,c1⟩
def q8 (w1 wr:World) (v:Value) (zs:af):Prop:=wr.ownsRow w1.heap.size 248 2 v zs.length (aK zs)/\Below w1.heap.size w1 wr
theorem q8.alloc {w1 wr:World} {v:Value} {zs:af} (h:q8 w1 wr v zs) (o:Obj):q8 w1 (wr.alloc o) v zs:=⟨h.1.alloc o,h.2.alloc h.2.size o⟩
theorem ZU {l:af} (h:Tidy l):∀ k,k<=l.length->0<=(aU (l.take k)).2/\(aU (l.take k)).2<=1114112/\(aU (l.take k)).1.length<=k
 | 0,_=>by simp [aU]
 | k+1,hk=>by
  have ih:=ZU h k (by omega)
  have hg:=bB h l[k] (List.getElem_mem (by omega))
  have s2:=aF.1 hg.2.1
  rw [List.take_succ_eq_append_getElem (by omega),vL]
  simp only [gQ]
  refine ⟨by unfold ku;split<;>omega,by unfold ku;split<;>omega,?_⟩
  rw [List.length_append]
  split<;>simp<;>omega
theorem IJ {wq w3:World} {o:Obj} {row:Option Nat} {b j:Nat} {u:Value} (hg:Hid ((wq.alloc o).grownBy w3 row)) (hlt:b<wq.heap.size) (hne:some b≠row) (hc:wq.cell? ⟨b,j,none⟩=some u):w3.cell? ⟨b,j,none⟩=some u:=by
 have h1:w3.heap[b]? = wq.heap[b]? := ((aa hg).block b (by simp;omega) hne).trans (Below.heap_alloc wq o b hlt)
 rw [World.cell?_of_block h1];exact hc
theorem aaA {l:af} {k n:Nat} {low lo hi:Int} (hr:Hid (aU (l.take (k+1))=gQ (aU (l.take k)) (lo,hi))) (hl:Hid (low=(aU (l.take k)).2)) (hn:Hid (n=(aU (l.take k)).1.length)) (h:¬ low<lo):Hid (n=(aU (l.take (k+1))).1.length):=by
 show n=_
 rw [aa hr,gQ,<-aa hl,if_neg h,List.append_nil];exact aa hn
theorem ab6 {w1 wr:World} {v:Value} {l:af} {k:Nat} {low lo hi:Int} (hr:Hid (aU (l.take (k+1))=gQ (aU (l.take k)) (lo,hi))) (hl:Hid (low=(aU (l.take k)).2)) (h:¬ low<lo) (hg:Hid (q8 w1 wr v (aU (l.take k)).1)):Hid (q8 w1 wr v (aU (l.take (k+1))).1):=by
 rw [aa hr,gQ,<-aa hl,if_neg h,List.append_nil];exact hg
theorem aaB {l:af} {k:Nat} {low lo hi:Int} (hr:Hid (aU (l.take (k+1))=gQ (aU (l.take k)) (lo,hi))) (hl:Hid (low=(aU (l.take k)).2)) (h:low<lo):Hid ((aU (l.take k)).1.length+1=(aU (l.take (k+1))).1.length):=by
 show _=_
 rw [aa hr,gQ,<-aa hl,if_pos h,List.length_append];rfl
theorem ab7 {w1 w3:World} {ao:Option Addr} {cap:Nat} {l:af} {k:Nat} {low lo hi:Int} (hr:Hid (aU (l.take (k+1))=gQ (aU (l.take k)) (lo,hi))) (hl:Hid (low=(aU (l.take k)).2)) (h:low<lo)
  (ho:Hid (w3.ownsRow w1.heap.size 248 2 (.slice ao ((aU (l.take k)).1.length+1) cap) ((aU (l.take k)).1++[(low,zo lo)]).length (aK ((aU (l.take k)).1++[(low,zo lo)])))) (hb:Hid (Below w1.heap.size w1 w3)) :
  Hid (q8 w1 w3 (.slice ao ((aU (l.take k)).1.length+1) cap) (aU (l.take (k+1))).1):=by
 rw [aa hr,gQ,<-aa hl,if_pos h];exact ⟨ho,hb⟩
theorem QK {w3 w1:World} {ao:Option Addr} {cap:Nat} {zs:af} {p:Int×Int} (h:Hid (w3.ownsRow w1.heap.size 248 2 (.slice ao (zs.length+1) cap) (zs++[p]).length (aK (zs++[p])))):w3.ownsRow w1.heap.size 248 2 (.slice ao (zs.length+1) cap) (zs++[p]).length (aK (zs++[p])):=h
set_option maxRecDepth 100000 in
set_option maxHeartbeats 4000000 in
theorem ny (w:World) (l:af) (hl:l.length<=900) (ht:Tidy l) :
  Calls Tryz.prog 156 #[.string (encS l)] w fun e w'=>e=.returned (.string (encS (fH l)))/\Below w.heap.size w w':=by
 have hP:=jN w l (by omega) (bB ht)
 have HP:=hide hP
 have HT:=hide ht
 clear hP ht
 generalize encS l=s at HP
 go_enter Tryz.func156,Tryz.ntmps156
 go_wp2_with (go_at_call 161;refine (aa HP).mono ?_;clear HP;rintro e w1 ⟨v,rfl,hrow,hb⟩;have HB1:=hide hb;obtain ⟨av,cv,rfl,hvw⟩:=aQ hrow;have Mc:=hide hvw;clear hrow hb hvw)
 go_loopw [3,4,10] (fun v lw i wr=>∃ (k:Nat) (ag:Option Addr) (n cg:Nat) (low:Int),k<=l.length/\i=.int .i64 k/\lw=.int .i32 low/\v=.slice ag n cg/\Hid (low=(aU (l.take k)).2)/\Hid (n=(aU (l.take k)).1.length)/\Hid (q8 w1 wr (.slice ag n cg) (aU (l.take k)).1)) (fun _ _ i _=>l.length - (intOf i).toNat)
 case atStart=>exact ⟨0,none,0,0,0,Nat.zero_le _,rfl,rfl,rfl,rfl,rfl,⟨World.ownsRow_nil _ _ _ _,Below.refl _ _⟩⟩
 case round=>
  obtain ⟨k,ag,n,cg,low,hk,rfl,rfl,rfl,HL,HN,HG⟩:=hrel
  have hrb:=ZU (aa HT) k hk
  rw [<-aa HL] at hrb
  have adq:(aU (l.take k)).1.length<=2000:=by omega
  by_cases hlt:k<l.length
  ·obtain ⟨g,rfl,-,hg,hc,-⟩:=aa Mc (by omega)
   have hget:=iQ l k hlt
   have c1:=hc (k*2) (by omega)
   have c2:=hc (k*2+1) (by omega)
   rw [hget.1,<-(aa HG).2.cell (p:=⟨g,k*2,none⟩) hg] at c1
   rw [hget.2,<-(aa HG).2.cell (p:=⟨g,k*2+1,none⟩) hg] at c2
   have hgp:=bB (aa HT) l[k] (List.getElem_mem hlt)
   have hrun:aU (l.take (k+1))=gQ (aU (l.take k)) l[k]:=by rw [List.take_succ_eq_append_getElem hlt,vL]
   have Mf:=hide hrun
   clear hget hc hrun Mc
   generalize hx1:l[k].1=lo at c1
   generalize hx2:l[k].2=hi at c2
   have hpe:l[k]=(lo,hi):=Prod.ext hx1 hx2
   rw [hpe] at Mf hgp
   have s1:=aF.1 hgp.1
   have s2:=aF.1 hgp.2.1
   simp only [] at s1 s2
   clear hx1 hx2 hpe hgp
   have HG':=hide ((aa HG).alloc (.cells #[.int .i32 lo,.int .i32 hi] 248))
   have q0:=Gc wr lo hi 0
   have q1:=Ma wr lo hi 0
   have hA:∀ W:World,Calls Tryz.prog 232 #[.int .i32 hi] W fun e w'=>e=.returned (.int .i32 (ku hi))/\w'=W:=fun W=>(xJ hi W (by omega) (by omega)).mono fun e w' hh=>⟨hh.1,hh.2.symm⟩
   have HA:=hide hA
   have IK:=HG
   clear hA HG
   by_cases hlow:low<lo
   ·have hBl:∀ W:World,Calls Tryz.prog 231 #[.int .i32 lo] W fun e w'=>e=.returned (.int .i32 (zo lo))/\w'=W:=fun W=>(QG lo W (by omega) (by omega)).mono fun e w' hh=>⟨hh.1,hh.2.symm⟩
    have HBl:=hide hBl
    clear hBl
    have hne:some wr.heap.size≠(Value.slice ag n cg).ownBlock:=fun e=>by have:=((aa IK).1.lt _ e.symm).2;omega
    have hlt2:wr.heap.size<(wr.alloc (.cells #[.int .i32 lo,.int .i32 hi] 248)).heap.size:=by simp
    have q1':(wr.alloc (.cells #[.int .i32 lo,.int .i32 hi] 248)).cell? ⟨wr.heap.size,1,none⟩=some (.int .i32 hi):=q1
    have HG2:Hid (q8 w1 (wr.alloc (.cells #[.int .i32 lo,.int .i32 hi] 248)) (.slice ag n cg) (aU (l.take k)).1):=HG'
    clear HG' q1 q0 IK
    go_wp2_with (first
     | (go_at_call 231;refine (aa HBl _).mono ?_;clear HBl;rintro e w' ⟨rfl,rfl⟩;generalize wr.alloc (.cells #[.int .i32 lo,.int .i32 hi] 248)=wq at *)
     | (at_builtin;refine TR w1 wq (aU (l.take k)).1 _ low (zo lo) (.tmp 18) (.tmp 24) rfl rfl rfl rfl (aa HG2).1 (aa HG2).2 (by omega) ?_;intro SG oG w3 p8 HB3 HGR;have q3:w3.cell? ⟨wr.heap.size,1,none⟩=some (.int .i32 hi):=IJ HGR hlt2 hne q1';clear q1' HG2 HGR)
     | (go_at_call 232;refine (aa HA _).mono ?_;rintro e w' ⟨rfl,rfl⟩))
    go_roundw
    case rel=>exact ⟨k+1,SG,_,oG,_,by omega,by go_num,rfl,rfl,(by show _=_;rw [aa Mf];rfl),aaB Mf HL hlow,ab7 Mf HL hlow p8 HB3⟩
    case measure=>simp [intOf];omega
   ·go_wp2_with (go_at_call 232;refine (aa HA _).mono ?_;rintro e w' ⟨rfl,rfl⟩)
    go_roundw
    case rel=>exact ⟨k+1,ag,n,cg,_,by omega,by go_num,rfl,rfl,(by show _=_;rw [aa Mf];rfl),aaA Mf HL HN (by omega),ab6 Mf HL (by omega) HG'⟩
    case measure=>simp [intOf];omega
  ·have hkl:k=l.length:=by omega
   subst hkl
   rw [List.take_length] at HL HN HG adq
   have hall:=IC l
   have hgd:=Eo (aa HT)
   have hgl:=IB l 0
   have Gd:=LY (aa HT)
   have hb1:=(aa HB1)
   by_cases hlow:low<=1114111
   ·rw [if_pos (by rw [<-aa HL];exact hlow),<-aa HL] at hall
    rw [hall] at hgd hgl Gd
    have HGD:=hide hgd
    have aaC:=hide Gd
    have HGL:=hide hgl
    clear hgd Gd hall hb1 hgl Mc HT
    go_wp2_with (first
     | (at_builtin;refine TR w1 wr (aU l).1 _ low 1114111 (.tmp 32) (.tmp 35) rfl rfl rfl rfl (aa HG).1 (aa HG).2 (by omega) ?_;intro SG oG w3 p8 HB3 _)
     | (go_at_call 160;refine (o7 w3 _ ((aU l).1++[(low,1114111)]) (by have:=aa HGL;omega) (nk (QK p8)) (aa HGD)).mono ?_;rintro e w4 ⟨rfl,hb4⟩;have p9:=hide hb4;clear hb4))
    go_ret
    exact ⟨by rw [<-aa aaC];rfl,((aa HB1).trans ((aa HB3).mono (aa HB1).size)).trans ((aa p9).mono (Nat.le_trans (aa HB1).size (aa HB3).size))⟩
   ·rw [if_neg (by rw [<-aa HL];exact hlow),List.append_nil] at hall
    rw [hall] at hgd hgl Gd
    have HGD:=hide hgd
    have aaC:=hide Gd
    have HGL:=hide hgl
    have ab8:=nk (aa HG).1
    have HPC:=hide ab8
    clear hgd Gd hall hb1 hgl Mc HT ab8
    go_wp2_with (go_at_call 160;refine (o7 wr _ (aU l).1 (by have:=aa HGL;omega) (aa HPC) (aa HGD)).mono ?_;rintro e w4 ⟨rfl,hb4⟩;have p9:=hide hb4;clear hb4)
    go_ret
    exact ⟨by rw [<-aa aaC];rfl,((aa HB1).trans ((aa HG).2.mono (aa HB1).size)).trans ((aa p9).mono (Nat.le_trans (aa HB1).size (aa HG).2.size))⟩
end Go.Proofs.YtfolanohokflkaaGreatDoor
