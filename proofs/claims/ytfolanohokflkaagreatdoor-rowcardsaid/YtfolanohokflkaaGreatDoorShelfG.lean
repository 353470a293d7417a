import Derived.Test.YtfolanohokflkaaGreatDoorTabC
import Derived.Laws.Cover4
import Derived.Laws.IdiomStrings
import Derived.Shelf.SlSortCmp.WholeK
import Derived.Test.YtfolanohokflkaaGreatDoorProg
namespace Go.Proofs.YtfolanohokflkaaGreatDoor
abbrev ah:=List (Int×Int)
def dD (l:ah) (c:Int):Bool:=l.any fun x=>decide (x.1<=c)&&decide (c<=x.2)
theorem fG (c:Int):dD [] c=false:=rfl
theorem ig (x:Int×Int) (l:ah) (c:Int):dD (x::l) c=(decide (x.1<=c/\c<=x.2)||dD l c):=by
 simp [dD,Bool.decide_and]
theorem bY {x:Int×Int} {l:ah} {c:Int}:dD (x::l) c=true↔(x.1<=c/\c<=x.2)\/dD l c=true:=by
 rw [ig];simp
theorem aC {n:Int}:aD n=true↔0<=n/\n<=1114111/\(n<55296\/57343<n):=by simp [aD]
def zF {α:Type} (gt:α->α->Bool) (c:α):List α->List α
 | []=>[c]
 | x::r=>if gt x c=true then c::x::r else x::zF gt c r
theorem AZ {α:Type} {gt:α->α->Bool} {c x:α}:∀ {l:List α},x∈zF gt c l↔x=c\/x∈l
 | []=>by simp [zF]
 | y::r=>by
  rw [zF]
  split
  ·simp
  ·simp [AZ (l:=r)]
   constructor
   ·rintro (h | h | h)<;>simp [h]
   ·rintro (h | h | h)<;>simp [h]
def pJ {α:Type} [BEq α] (gt:α->α->Bool) (c:α) (l:List α):List α:=if l.contains c=true then l else zF gt c l
theorem tO {α:Type} [BEq α] [LawfulBEq α] {gt:α->α->Bool} {c x:α} {l:List α}:x∈pJ gt c l↔x=c\/x∈l:=by
 unfold pJ
 split
 ·rename_i h
  have h':c∈l:=by simpa using h
  constructor
  ·exact .inr
  ·rintro (rfl | h2)
   ·exact h'
   ·exact h2
 ·exact AZ
theorem rM {α:Type} {gt:α->α->Bool} (htr:∀ a b c,gt b a=true->gt c b=true->gt c a=true) {c:α} :
  ∀ {l:List α},(∀ x∈l,gt x c=true\/gt c x=true)->l.Pairwise (fun a b=>gt b a=true)->(zF gt c l).Pairwise (fun a b=>gt b a=true)
 | [],_,_=>by simp [zF]
 | y::r,hc,hp=>by
  rw [zF]
  have hp':=List.pairwise_cons.1 hp
  split
  ·rename_i h
   refine List.pairwise_cons.2 ⟨fun z hz=>?_,hp⟩
   rcases List.mem_cons.1 hz with rfl | hz
   ·exact h
   ·exact htr _ _ _ h (hp'.1 z hz)
  ·rename_i h
   refine List.pairwise_cons.2 ⟨fun z hz=>?_,rM htr (fun x hx=>hc x (List.mem_cons_of_mem _ hx)) hp'.2⟩
   rcases AZ.1 hz with rfl | hz
   ·rcases hc y (List.mem_cons_self ..) with h2 | h2
    ·exact absurd h2 h
    ·exact h2
   ·exact hp'.1 z hz
theorem uS {α:Type} {gt:α->α->Bool} (Y3:∀ a,gt a a=false) (htr:∀ a b c,gt b a=true->gt c b=true->gt c a=true) :
  ∀ {l m:List α},l.Pairwise (fun a b=>gt b a=true)->m.Pairwise (fun a b=>gt b a=true)->(∀ x,x∈l↔x∈m)->l=m
 | [],[],_,_,_=>rfl
 | [],y::m,_,_,h=>absurd ((h y).2 (List.mem_cons_self ..)) (by simp)
 | x::l,[],_,_,h=>absurd ((h x).1 (List.mem_cons_self ..)) (by simp)
 | x::l,y::m,hl,hm,h=>by
  have hl':=List.pairwise_cons.1 hl
  have hm':=List.pairwise_cons.1 hm
  have e:x=y:=by
   rcases List.mem_cons.1 ((h x).1 (List.mem_cons_self ..)) with e | e
   ·exact e
   ·rcases List.mem_cons.1 ((h y).2 (List.mem_cons_self ..)) with e2 | e2
    ·exact e2.symm
    ·have h1:=hm'.1 x e
     have h2:=hl'.1 y e2
     have h3:=htr _ _ _ h1 h2
     rw [Y3] at h3;exact absurd h3 (by simp)
  subst e
  have hx:∀ z,z∈l↔z∈m:=by
   intro z
   constructor
   ·intro hz
    rcases List.mem_cons.1 ((h z).1 (List.mem_cons_of_mem _ hz)) with e | e
    ·subst e;have h3:=hl'.1 z hz;rw [Y3] at h3;exact absurd h3 (by simp)
    ·exact e
   ·intro hz
    rcases List.mem_cons.1 ((h z).2 (List.mem_cons_of_mem _ hz)) with e | e
    ·subst e;have h3:=hm'.1 z hz;rw [Y3] at h3;exact absurd h3 (by simp)
    ·exact e
  rw [uS Y3 htr hl'.2 hm'.2 hx]
def gtI (a b:Int):Bool:=decide (b<a)
theorem zS {a b:Int}:gtI a b=true↔b<a:=by simp [gtI]
def jM (c:Int):Int:=if 55296<=c/\c<=57343 then 57344 else c
def fT (l:List Int) (c:Int):List Int:=if 1114111<jM c then l else pJ gtI (jM c) l
def uy (l:List Int):Prop:=l.Pairwise (fun a b=>gtI b a=true)
theorem Ga {l:List Int} (h:uy l) (c:Int):uy (pJ gtI c l):=by
 unfold pJ
 split
 ·exact h
 ·rename_i hc
  refine rM (fun a b c h1 h2=>?_) (fun x hx=>?_) h
  ·rw [zS] at *;omega
  ·rw [zS,zS]
   have:¬ x=c:=by rintro rfl;exact hc (by simpa using hx)
   omega
theorem rO {l:List Int} (h:uy l) (c:Int):uy (fT l c):=by
 unfold fT;split
 ·exact h
 ·exact Ga h _
theorem yU {l:List Int} {c x:Int}:x∈fT l c↔x∈l\/(x=jM c/\x<=1114111):=by
 unfold fT
 split
 ·constructor
  ·exact .inl
  ·rintro (h | ⟨rfl,h⟩)
   ·exact h
   ·omega
 ·rw [tO]
  constructor
  ·rintro (rfl | h)
   ·exact .inr ⟨rfl,by omega⟩
   ·exact .inl h
  ·rintro (h | ⟨rfl,h⟩)
   ·exact .inr h
   ·exact .inl rfl
theorem UB (c:Int):c<=jM c:=by unfold jM;split<;>omega
theorem UC {c x:Int} (hx:aD x=true) (h:c<=x):jM c<=x:=by
 rw [aC] at hx;unfold jM;split<;>omega
theorem Er {c:Int} (h0:0<=c) (h:jM c<=1114111):aD (jM c)=true:=by
 rw [aC];unfold jM at *;split at h<;>omega
def Pos (a:ah):Prop:=∀ x∈a,0<=x.1/\0<=x.2
def nH (l:List Int) (a:ah):List Int:=a.foldl (fun l x=>fT (fT l x.1) (x.2+1)) l
def mO (a b:ah):List Int:=nH (nH [0] a) b
theorem oP:∀ (a:ah) {l:List Int},uy l->uy (nH l a)
 | [],_,h=>h
 | x::a,l,h=>oP a (l:=fT (fT l x.1) (x.2+1)) (rO (rO h _) _)
theorem uT:∀ (a:ah) {l:List Int} {y:Int},y∈nH l a↔y∈l\/∃ x∈a,(y=jM x.1\/y=jM (x.2+1))/\y<=1114111
 | [],l,y=>by simp [nH]
 | x::a,l,y=>by
  rw [show nH l (x::a)=nH (fT (fT l x.1) (x.2+1)) a from rfl,uT a,yU,yU]
  constructor
  ·rintro (((h | ⟨h1,h2⟩) | ⟨h1,h2⟩) | ⟨z,hz,h⟩)
   ·exact .inl h
   ·exact .inr ⟨x,List.mem_cons_self ..,.inl h1,h2⟩
   ·exact .inr ⟨x,List.mem_cons_self ..,.inr h1,h2⟩
   ·exact .inr ⟨z,List.mem_cons_of_mem _ hz,h⟩
  ·rintro (h | ⟨z,hz,h1,h2⟩)
   ·exact .inl (.inl (.inl h))
   ·rcases List.mem_cons.1 hz with rfl | hz
    ·rcases h1 with h1 | h1
     ·exact .inl (.inl (.inr ⟨h1,h2⟩))
     ·exact .inl (.inr ⟨h1,h2⟩)
    ·exact .inr ⟨z,hz,h1,h2⟩
theorem pK {a b:ah} {y:Int}:y∈mO a b↔y=0\/(∃ x∈a,(y=jM x.1\/y=jM (x.2+1))/\y<=1114111)\/∃ x∈b,(y=jM x.1\/y=jM (x.2+1))/\y<=1114111:=by
 rw [mO,uT,uT,or_assoc];simp
theorem jk (a b:ah):uy (mO a b):=oP _ (oP _ (by simp [uy]))
theorem lq {a b:ah} (ha:Pos a) (hb:Pos b):∀ y∈mO a b,aD y=true:=by
 intro y hy
 have key:∀ l:ah,Pos l->(∃ x∈l,(y=jM x.1\/y=jM (x.2+1))/\y<=1114111)->aD y=true:=by
  rintro l hl ⟨x,hx,rfl | rfl,h⟩
  ·exact Er (hl x hx).1 h
  ·exact Er (by have:=(hl x hx).2;omega) h
 rcases pK.1 hy with rfl | h | h
 ·decide
 ·exact key a ha h
 ·exact key b hb h
theorem nI {x:Int} {r:List Int} (h:uy (x::r)):∀ y∈r,x<y:=fun y hy=>zS.1 ((List.pairwise_cons.1 h).1 y hy)
theorem iV {x:Int} {r:List Int} (h:uy (x::r)):uy r:=(List.pairwise_cons.1 h).2
def Ig:List Int->Int->Int
 | [],c=>c
 | [x],_=>x
 | x::y::r,c=>if y<=c then Ig (y::r) c else x
theorem IK:∀ (l:List Int) (c:Int),uy l->(∃ x r,l=x::r/\x<=c)->Ig l c∈l/\Ig l c<=c/\∀ y∈l,y<=c->y<=Ig l c
 | [],_,_,h=>by obtain ⟨x,r,h,_⟩:=h;cases h
 | [x],c,_,h=>by
  obtain ⟨x',r,e,hx⟩:=h
  cases e
  exact ⟨by simp [Ig],hx,fun y hy _=>by simp at hy;simp [Ig,hy]⟩
 | x::y::r,c,hs,h=>by
  obtain ⟨x',r',e,hx⟩:=h
  cases e
  rw [Ig]
  have h1:=nI hs
  split
  ·rename_i hy
   obtain ⟨h2,h3,h4⟩:=IK (y::r) c (iV hs) ⟨y,r,rfl,hy⟩
   refine ⟨List.mem_cons_of_mem _ h2,h3,fun z hz hzc=>?_⟩
   rcases List.mem_cons.1 hz with rfl | hz
   ·have:=h4 y (List.mem_cons_self ..) hy
    have:=h1 y (List.mem_cons_self ..)
    omega
   ·exact h4 z hz hzc
  ·rename_i hy
   refine ⟨List.mem_cons_self ..,hx,fun z hz hzc=>?_⟩
   rcases List.mem_cons.1 hz with rfl | hz
   ·exact Int.le_refl _
   ·rcases List.mem_cons.1 hz with rfl | hz
    ·exact absurd hzc hy
    ·have:=nI (iV hs) z hz
     omega
theorem Es {l:List Int} (hs:uy l) (h0:0∈l) (hp:∀ y∈l,0<=y):∃ r,l=0::r:=by
 cases l with
 | nil=>simp at h0
 | cons x r=>
  rcases List.mem_cons.1 h0 with h | h
  ·exact ⟨r,by rw [h]⟩
  ·have:=nI hs 0 h
   have:=hp x (List.mem_cons_self ..)
   omega
theorem OT {a:ah} {l:List Int} (hs:uy l) (h0:∃ x r,l=x::r/\x<=0) (hl:∀ y∈l,aD y=true)
  (hc:∀ x∈a,∀ y,y=jM x.1\/y=jM (x.2+1)->y<=1114111->y∈l) {c:Int} (hy:aD c=true):dD a c=dD a (Ig l c):=by
 have hc0:=aC.1 hy
 obtain ⟨h1,h2,h3⟩:=IK l c hs (by obtain ⟨x,r,e,h⟩:=h0;exact ⟨x,r,e,by omega⟩)
 have hsy:=hl _ h1
 have key:∀ x∈a,(x.1<=c/\c<=x.2)↔(x.1<=Ig l c/\Ig l c<=x.2):=by
  intro x hx
  have up:∀ z:Int,(∀ y,y=jM z->y<=1114111->y∈l)->(z<=c↔z<=Ig l c):=by
   intro z hz
   constructor
   ·intro hzc
    have h4:=UC hy hzc
    have h5:=hz _ rfl (by omega)
    have:=h3 _ h5 h4
    have:=UB z
    omega
   ·intro h;omega
  have u1:=up x.1 (fun y e=>hc x hx y (.inl e))
  have u2:=up (x.2+1) (fun y e=>hc x hx y (.inr e))
  omega
 unfold dD
 rw [Bool.eq_iff_iff,List.any_eq_true,List.any_eq_true]
 constructor
 ·rintro ⟨x,hx,h⟩;exact ⟨x,hx,by have:=key x hx;simp at h ⊢;omega⟩
 ·rintro ⟨x,hx,h⟩;exact ⟨x,hx,by have:=key x hx;simp at h ⊢;omega⟩
theorem rP {a b:ah} (ha:Pos a) (hb:Pos b) {c:Int} (hy:aD c=true):dD a c=dD a (Ig (mO a b) c)/\dD b c=dD b (Ig (mO a b) c):=by
 have hs:=jk a b
 have hl:=lq ha hb
 obtain ⟨r,hr⟩:=Es hs (pK.2 (.inl rfl)) (fun y h=>(aC.1 (hl y h)).1)
 have h0:∃ x r,mO a b=x::r/\x<=0:=⟨0,r,hr,Int.le_refl _⟩
 exact ⟨OT hs h0 hl (fun x hx y h1 h2=>pK.2 (.inr (.inl ⟨x,hx,h1,h2⟩))) hy,OT hs h0 hl (fun x hx y h1 h2=>pK.2 (.inr (.inr ⟨x,hx,h1,h2⟩))) hy⟩
def vU:List Int->Int
 | []=>1114111
 | y::_=>if y - 1=57343 then 55295 else y - 1
def qU (p:Int->Bool):List Int->Bool
 | []=>false
 | y::_=>p y
def pM (x h:Int) (b:Bool) (l:ah):ah:=match b,l with
 | true,z::q=>(x,z.2)::q
 | _,l=>(x,h)::l
def ik (p:Int->Bool):List Int->ah
 | []=>[]
 | x::r=>if p x=true then pM x (vU r) (qU p r) (ik p r) else ik p r
def kJ (h:Int):Int:=if h=55295 then 57344 else h+1
def fC (m:Int):ah->Prop
 | []=>True
 | x::r=>m<x.1/\aD x.1=true/\aD x.2=true/\x.1<=x.2/\fC (kJ x.2) r
abbrev Tidy (l:ah):Prop:=fC (-1) l
theorem fC.ge {m c:Int}:∀ {l:ah},fC m l->dD l c=true->m<c
 | [],_,h=>by simp [dD] at h
 | x::r,h,hc=>by
  rcases bY.1 hc with h1 | h1
  ·have:=h.1;omega
  ·have h2:=h.2.2.2.2.ge h1
   have:x.2<kJ x.2:=by unfold kJ;split<;>omega
   have:=h.1
   have:=h.2.2.2.1
   omega
theorem fC.pos {m:Int}:∀ {l:ah},fC m l->Pos l
 | [],_=>fun x h=>by simp at h
 | y::r,h=>fun x hx=>by
  rcases List.mem_cons.1 hx with rfl | hx
  ·exact ⟨(aC.1 h.2.1).1,(aC.1 h.2.2.1).1⟩
  ·exact h.2.2.2.2.pos x hx
theorem OU {h y:Int} (hh:aD h=true) (hy:aD y=true) (hlt:h<y):aD (kJ h)=true/\kJ h<=y/\h<kJ h:=by
 rw [aC] at *;unfold kJ;split<;>omega
theorem iW:∀ {m n:Int} {a b:ah},fC m a->fC n b->(∀ c,aD c=true->dD a c=dD b c)->a=b
 | _,_,[],[],_,_,_=>rfl
 | _,_,[],y::b,_,hb,h=>by
  have:=h y.1 hb.2.1
  rw [fG,ig] at this
  simp [hb.2.2.2.1] at this
 | _,_,x::a,[],ha,_,h=>by
  have:=h x.1 ha.2.1
  rw [fG,ig] at this
  simp [ha.2.2.2.1] at this
 | _,_,x::a,y::b,ha,hb,h=>by
  have xin:dD (x::a) x.1=true:=bY.2 (.inl ⟨Int.le_refl _,ha.2.2.2.1⟩)
  have yin:dD (y::b) y.1=true:=bY.2 (.inl ⟨Int.le_refl _,hb.2.2.2.1⟩)
  have lo:∀ {m:Int} {z:Int×Int} {l:ah} {c:Int},fC m (z::l)->dD (z::l) c=true->z.1<=c:=by
   intro m z l c hz hc
   rcases bY.1 hc with h1 | h1
   ·exact h1.1
   ·have:=hz.2.2.2.2.ge h1
    have:z.2<kJ z.2:=by unfold kJ;split<;>omega
    have:=hz.2.2.2.1
    omega
  have e1:x.1=y.1:=by
   have h1:=lo hb (by rw [<-h x.1 ha.2.1];exact xin)
   have h2:=lo ha (by rw [h y.1 hb.2.1];exact yin)
   omega
  have no:∀ {m:Int} {z:Int×Int} {l:ah} {c:Int},fC m (z::l)->z.2<c->c<=kJ z.2->¬ dD (z::l) c=true:=by
   intro m z l c hz h1 h2 hc
   rcases bY.1 hc with h3 | h3
   ·omega
   ·have:=hz.2.2.2.2.ge h3
    omega
  have e2:x.2=y.2:=by
   rcases Int.lt_trichotomy x.2 y.2 with hlt | he | hgt
   ·obtain ⟨h1,h2,h3⟩:=OU ha.2.2.1 hb.2.2.1 hlt
    refine absurd ?_ (no ha h3 (Int.le_refl _))
    rw [h _ h1]
    exact bY.2 (.inl ⟨by have:=ha.2.2.2.1;omega,h2⟩)
   ·exact he
   ·obtain ⟨h1,h2,h3⟩:=OU hb.2.2.1 ha.2.2.1 hgt
    refine absurd ?_ (no hb h3 (Int.le_refl _))
    rw [<-h _ h1]
    exact bY.2 (.inl ⟨by have:=hb.2.2.2.1;omega,h2⟩)
  have e:x=y:=Prod.ext e1 e2
  subst e
  have hr:∀ c,aD c=true->dD a c=dD b c:=by
   intro c hc
   have h1:=h c hc
   rw [ig,ig] at h1
   by_cases hin:x.1<=c/\c<=x.2
   ·have g:∀ {l:ah},fC (kJ x.2) l->dD l c=false:=by
     intro l hl
     cases hb2:dD l c with
     | false=>rfl
     | true=>
      have:=hl.ge hb2
      have:x.2<kJ x.2:=by unfold kJ;split<;>omega
      omega
    rw [g ha.2.2.2.2,g hb.2.2.2.2]
   ·simpa [hin] using h1
  rw [iW ha.2.2.2.2 hb.2.2.2.2 hr]
theorem uU {p:Int->Bool} {y:Int} {r:List Int} (h:p y=true):∃ z q,ik p (y::r)=(y,z)::q:=by
 rw [ik,if_pos h]
 unfold pM
 split
 ·exact ⟨_,_,rfl⟩
 ·exact ⟨_,_,rfl⟩
theorem lu (p:Int->Bool):∀ (l:List Int) (m:Int),uy l->(∀ y∈l,aD y=true)->(∀ y∈l,m<y)->fC m (ik p l)
 | [],_,_,_,_=>trivial
 | x::r,m,hs,hy,hm=>by
  rw [ik]
  have hx:=nI hs
  have hr:∀ y∈r,aD y=true:=fun y h=>hy y (List.mem_cons_of_mem _ h)
  have hmx:=hm x (List.mem_cons_self ..)
  have hxs:=hy x (List.mem_cons_self ..)
  split
  ·cases r with
   | nil=>exact ⟨hmx,hxs,by show aD 1114111=true;decide,by show x<=1114111;have:=aC.1 hxs;omega,trivial⟩
   | cons y r=>
    have hxy:=hx y (List.mem_cons_self ..)
    have hys:=aC.1 (hr y (List.mem_cons_self ..))
    have hxs':=aC.1 hxs
    cases hp:p y with
    | true=>
     have ih:=lu p (y::r) x (iV hs) hr hx
     obtain ⟨z,q,e⟩:=uU (r:=r) hp
     rw [e] at ih ⊢
     rw [show qU p (y::r)=true from hp]
     exact ⟨hmx,hxs,ih.2.2.1,by show x<=z;have:=ih.2.2.2.1;simp at this;omega,ih.2.2.2.2⟩
    | false=>
     have ih:=lu p r y (iV (iV hs)) (fun z h=>hr z (List.mem_cons_of_mem _ h)) (nI (iV hs))
     rw [show qU p (y::r)=false from hp,ik,if_neg (by rw [hp];decide)]
     have e1:kJ (vU (y::r))=y:=by simp only [vU,kJ];split<;>split<;>omega
     refine ⟨hmx,hxs,?_,?_,?_⟩
     ·show aD (vU (y::r))=true
      rw [aC];simp only [vU];split<;>omega
     ·show x<=vU (y::r)
      simp only [vU];split<;>omega
     ·show fC (kJ (vU (y::r))) _
      rw [e1];exact ih
  ·exact lu p r m (iV hs) hr (fun y h=>hm y (List.mem_cons_of_mem _ h))
theorem vV (p:Int->Bool):∀ (l:List Int) (c:Int),uy l->(∀ y∈l,aD y=true)->aD c=true->(∃ x r,l=x::r/\x<=c)->dD (ik p l) c=p (Ig l c)
 | [],_,_,_,_,h=>by obtain ⟨x,r,h,_⟩:=h;cases h
 | [x],c,_,_,hc,h=>by
  obtain ⟨x',r,e,hx⟩:=h
  cases e
  rw [Ig,ik]
  have:=aC.1 hc
  split
  ·rename_i hp
   rw [hp]
   exact bY.2 (.inl ⟨hx,by show c<=1114111;omega⟩)
  ·rename_i hp
   simp [ik,dD]
   simpa using hp
 | x::y::r,c,hs,hy,hc,h=>by
  obtain ⟨x',r',e,hx⟩:=h
  cases e
  have hxy:=nI hs y (List.mem_cons_self ..)
  have hr:∀ z∈y::r,aD z=true:=fun z h=>hy z (List.mem_cons_of_mem _ h)
  have hcs:=aC.1 hc
  have hys:=aC.1 (hr y (List.mem_cons_self ..))
  rw [Ig]
  by_cases hyc:y<=c
  ·rw [if_pos hyc,<-vV p (y::r) c (iV hs) hr hc ⟨y,r,rfl,hyc⟩]
   rw [ik]
   split
   ·cases hp:p y with
    | true=>
     obtain ⟨z,q,e⟩:=uU (r:=r) hp
     rw [e,show qU p (y::r)=true from hp]
     show dD ((x,z)::q) c=_
     rw [ig,ig]
     have hiff:(x<=c/\c<=z)↔(y<=c/\c<=z):=by omega
     simp only [hiff]
    | false=>
     rw [show qU p (y::r)=false from hp]
     show dD ((x,vU (y::r))::ik p (y::r)) c=_
     rw [ig]
     have:vU (y::r)<c:=by simp only [vU];split<;>omega
     simp;omega
   ·rfl
  ·rw [if_neg hyc]
   have hbelow:dD (ik p (y::r)) c=false:=by
    cases hb:dD (ik p (y::r)) c with
    | false=>rfl
    | true=>
     have:=(lu p (y::r) (y - 1) (iV hs) hr (fun z hz=>by
      rcases List.mem_cons.1 hz with rfl | hz
      ·omega
      ·have:=nI (iV hs) z hz;omega)).ge hb
     omega
   rw [ik]
   split
   ·rename_i hpx
    rw [hpx]
    cases hp:p y with
    | true=>
     have ht:=lu p (y::r) (-1) (iV hs) hr (fun z hz=>by have:=aC.1 (hr z hz);omega)
     obtain ⟨z,q,e⟩:=uU (r:=r) hp
     rw [e] at ht ⊢
     rw [show qU p (y::r)=true from hp]
     exact bY.2 (.inl ⟨hx,by have:=ht.2.2.2.1;simp at this;show c<=z;omega⟩)
    | false=>
     rw [show qU p (y::r)=false from hp]
     exact bY.2 (.inl ⟨hx,by show c<=vU (y::r);simp only [vU];split<;>omega⟩)
   ·rename_i hpx
    rw [hbelow];simpa using hpx
def q9 (a b:ah):ah:=ik (fun x=>dD a x||dD b x) (mO a b)
def IL (a b:ah):ah:=ik (fun x=>dD a x&&dD b x) (mO a b)
def fU (a:ah):ah:=ik (fun x=>!dD a x) (mO a [])
theorem xR {a b:ah} (ha:Pos a) (hb:Pos b) {c:Int} (hc:aD c=true):∃ x r,mO a b=x::r/\x<=c:=by
 obtain ⟨r,hr⟩:=Es (jk a b) (pK.2 (.inl rfl)) (fun y h=>(aC.1 (lq ha hb y h)).1)
 exact ⟨0,r,hr,(aC.1 hc).1⟩
theorem oF {a b:ah} (ha:Pos a) (hb:Pos b) {c:Int} (hc:aD c=true):dD (q9 a b) c=(dD a c||dD b c):=by
 rw [q9,vV _ _ c (jk a b) (lq ha hb) hc (xR ha hb hc),<-(rP ha hb hc).1,<-(rP ha hb hc).2]
theorem vW {a b:ah} (ha:Pos a) (hb:Pos b) {c:Int} (hc:aD c=true):dD (IL a b) c=(dD a c&&dD b c):=by
 rw [IL,vV _ _ c (jk a b) (lq ha hb) hc (xR ha hb hc),<-(rP ha hb hc).1,<-(rP ha hb hc).2]
theorem oG:Pos []:=fun x h=>by simp at h
theorem kK {a:ah} (ha:Pos a) {c:Int} (hc:aD c=true):dD (fU a) c=!dD a c:=by
 rw [fU,vV _ _ c (jk a []) (lq ha oG) hc (xR ha oG hc),<-(rP ha oG hc).1]
theorem Gb {a b:ah} (ha:Pos a) (hb:Pos b) (p:Int->Bool):Tidy (ik p (mO a b)):=
 lu _ _ _ (jk a b) (lq ha hb) (fun y hy=>by have:=aC.1 (lq ha hb y hy);omega)
theorem jl {a b:ah} (ha:Pos a) (hb:Pos b):Tidy (q9 a b):=Gb ha hb _
theorem xS {a b:ah} (ha:Pos a) (hb:Pos b):Tidy (IL a b):=Gb ha hb _
theorem dI {a:ah} (ha:Pos a):Tidy (fU a):=Gb ha oG _
end Go.Proofs.YtfolanohokflkaaGreatDoor
namespace Go.Proofs.YtfolanohokflkaaGreatDoor
def abz {α:Type} (gt:α->α->Bool) (c:α) (l:List α):Bool:=l.any fun x=>gt x c
def mAt {α:Type} (gt:α->α->Bool) (c:α) (l:List α):List α:=if abz gt c l=true then zF gt c l else l
theorem Y4 {α:Type} (gt:α->α->Bool) (c:α) (l:List α):(mAt gt c l).length<=l.length+1:=by
 have h:=A7 gt c l
 unfold mAt;split<;>omega
where A7 {α:Type} (gt:α->α->Bool) (c:α):∀ l:List α,(zF gt c l).length=l.length+1
 | []=>rfl
 | x::l=>by rw [zF];split<;>simp [A7 gt c l]
theorem yV (l:List Int) (c:Int):(fT l c).length<=l.length+1:=by
 unfold fT
 split
 ·omega
 ·unfold pJ
  split
  ·omega
  ·rw [Y4.A7];omega
theorem uV:∀ (a:ah) (l:List Int),(nH l a).length<=l.length+2*a.length
 | [],l=>by simp [nH]
 | x::a,l=>by
  have h1:=yV l x.1
  have h2:=yV (fT l x.1) (x.2+1)
  have h3:=uV a (fT (fT l x.1) (x.2+1))
  rw [List.length_cons]
  show (nH (fT (fT l x.1) (x.2+1)) a).length<=_
  omega
theorem Ro (a b:ah):(mO a b).length<=1+2*(a.length+b.length):=by
 have h1:=uV b (nH [0] a)
 have h2:=uV a [0]
 unfold mO
 simp at h2
 omega
theorem Gc (x h:Int) (b:Bool) (l:ah):(pM x h b l).length<=l.length+1:=by
 unfold pM;split<;>simp
theorem Et (p:Int->Bool):∀ l:List Int,2*(ik p l).length<=l.length+(if qU p l=true then 1 else 0)
 | []=>by simp [ik]
 | x::r=>by
  have ih:=Et p r
  rw [ik,List.length_cons]
  by_cases hx:p x=true
  ·rw [if_pos hx,show qU p (x::r)=true from hx,if_pos rfl]
   cases hr:qU p r with
   | true=>
    rw [hr,if_pos rfl] at ih
    cases ht:ik p r with
    | nil=>simp [pM]
    | cons z q=>rw [ht] at ih;simp [pM] at ih ⊢;omega
   | false=>
    rw [hr,if_neg (by decide)] at ih
    have:=Gc x (vU r) false (ik p r)
    omega
  ·rw [if_neg hx]
   have:qU p (x::r)=false:=by simpa [qU] using hx
   rw [this,if_neg (by decide)]
   split at ih<;>omega
theorem abA {a b:ah} {p:Int->Bool}:(ik p (mO a b)).length<=a.length+b.length+1:=by
 have h1:=Et p (mO a b)
 have h2:=Ro a b
 split at h1<;>omega
theorem UD (a b:ah):(q9 a b).length<=a.length+b.length+1:=abA
end Go.Proofs.YtfolanohokflkaaGreatDoor
namespace Go.Proofs.YtfolanohokflkaaGreatDoor
def IM (l:List (Int×Int)):Prop:=l.Pairwise fun a b=>a.1<=b.1
def jN (p:Int×Int):Prop:=aD p.1=true/\aD p.2=true/\p.1<=p.2
def l7 (acc:ah) (p:Int×Int):ah:=match acc.getLast? with
 | some x=>if p.1<=kJ x.2 then acc.dropLast++[(x.1,max x.2 p.2)] else acc++[p]
 | none=>acc++[p]
def gM (l:ah):ah:=l.foldl l7 []
theorem xU (p:Int×Int):l7 [] p=[p]:=rfl
theorem lv (L:ah) (x p:Int×Int):l7 (L++[x]) p=if p.1<=kJ x.2 then L++[(x.1,max x.2 p.2)] else L++[x]++[p]:=by
 unfold l7
 rw [List.getLast?_concat]
 simp only [List.dropLast_concat]
def vX (m:Int):ah->Int
 | []=>m
 | x::l=>vX (kJ x.2) l
theorem mU:∀ {m:Int} {l r:ah},fC m (l++r)↔fC m l/\fC (vX m l) r
 | m,[],r=>by simp [fC,vX]
 | m,x::l,r=>by
  rw [List.cons_append]
  show (m<x.1/\aD x.1=true/\aD x.2=true/\x.1<=x.2/\fC (kJ x.2) (l++r))↔(m<x.1/\aD x.1=true/\aD x.2=true/\x.1<=x.2/\fC (kJ x.2) l)/\fC (vX (kJ x.2) l) r
  rw [mU]
  constructor
  ·rintro ⟨h1,h2,h3,h4,h5,h6⟩;exact ⟨⟨h1,h2,h3,h4,h5⟩,h6⟩
  ·rintro ⟨⟨h1,h2,h3,h4,h5⟩,h6⟩;exact ⟨h1,h2,h3,h4,h5,h6⟩
theorem lC (a b:ah) (c:Int):dD (a++b) c=(dD a c||dD b c):=by simp [dD]
theorem step_ok {acc:ah} {p:Int×Int} (ht:Tidy acc) (hp:jN p) (hlo:∀ x∈acc,x.1<=p.1):Tidy (l7 acc p)/\(∀ c,aD c=true->dD (l7 acc p) c=(dD acc c||dD [p] c))/\∀ x∈l7 acc p,x.1<=p.1:=by
 rcases List.eq_nil_or_concat acc with rfl | ⟨L,x,rfl⟩
 ·rw [xU]
  refine ⟨⟨by show (-1:Int)<p.1;have:=aC.1 hp.1;omega,hp.1,hp.2.1,hp.2.2,trivial⟩,fun c _=>by simp [dD],fun x hx=>by simp at hx;subst hx;exact Int.le_refl _⟩
 ·simp only [List.concat_eq_append] at *
  have hx1:=hlo x (by simp)
  rw [lv]
  obtain ⟨tL,tx⟩:=mU.1 ht
  split
  ·rename_i hle
   have hmax:aD (max x.2 p.2)=true:=by
    rcases Int.le_total x.2 p.2 with h | h
    ·rw [Int.max_eq_right h];exact hp.2.1
    ·rw [Int.max_eq_left h];exact tx.2.2.1
   refine ⟨mU.2 ⟨tL,tx.1,tx.2.1,hmax,by show x.1<=max x.2 p.2;have:=tx.2.2.2.1;omega,trivial⟩,fun c hc=>?_,fun y hy=>?_⟩
   ·rw [lC,lC,Bool.or_assoc]
    congr 1
    have hcs:=aC.1 hc
    have hxs:=aC.1 tx.2.2.1
    have hab:∀ c,aD c=true->x.2<c->kJ x.2<=c:=by
     intro c hc h;have:=aC.1 hc;unfold kJ;split<;>omega
    have key:(x.1<=c/\c<=max x.2 p.2)↔(x.1<=c/\c<=x.2)\/(p.1<=c/\c<=p.2):=by
     constructor
     ·rintro ⟨h1,h2⟩
      by_cases h3:c<=x.2
      ·exact .inl ⟨h1,h3⟩
      ·have:=hab c hc (by omega)
       exact .inr ⟨by omega,by omega⟩
     ·rintro (⟨h1,h2⟩ | ⟨h1,h2⟩)
      ·exact ⟨h1,by omega⟩
      ·exact ⟨by omega,by omega⟩
    rw [Bool.eq_iff_iff,Bool.or_eq_true,bY,bY,bY]
    simp only [fG,Bool.false_eq_true,or_false]
    exact key
   ·rcases List.mem_append.1 hy with hy | hy
    ·exact hlo y (List.mem_append_left _ hy)
    ·simp at hy;subst hy;exact hx1
  ·rename_i hgt
   have e:vX (-1) (L++[x])=kJ x.2:=by
    clear hlo ht tL tx hgt hx1
    generalize (-1:Int)=m
    induction L generalizing m with
    | nil=>rfl
    | cons y L ih=>exact ih _
   refine ⟨mU.2 ⟨ht,by rw [e];exact ⟨by omega,hp.1,hp.2.1,hp.2.2,trivial⟩⟩,fun c _=>lC _ _ _,fun y hy=>?_⟩
   rcases List.mem_append.1 hy with hy | hy
   ·exact hlo y hy
   ·simp at hy;subst hy;exact Int.le_refl _
theorem Gd:∀ (l:ah) {acc:ah},Tidy acc->(∀ p∈l,jN p)->IM l->(∀ x∈acc,∀ p∈l,x.1<=p.1)->Tidy (l.foldl l7 acc)/\∀ c,aD c=true->dD (l.foldl l7 acc) c=(dD acc c||dD l c)
 | [],acc,ht,_,_,_=>⟨ht,fun c _=>by simp [dD]⟩
 | p::l,acc,ht,hp,hs,hlo=>by
  have hs':=List.pairwise_cons.1 hs
  obtain ⟨h1,h2,h3⟩:=step_ok ht (hp p (List.mem_cons_self ..)) (fun x hx=>hlo x hx p (List.mem_cons_self ..))
  obtain ⟨h4,h5⟩:=Gd l h1 (fun q hq=>hp q (List.mem_cons_of_mem _ hq)) hs'.2 (fun x hx q hq=>by
   have:=h3 x hx
   have:=hs'.1 q hq
   omega)
  refine ⟨h4,fun c hc=>?_⟩
  rw [List.foldl_cons,h5 c hc,h2 c hc,Bool.or_assoc]
  congr 1
  rw [show p::l=[p]++l from rfl,lC]
theorem UE {a b:ah} (h:a.Perm b) (c:Int):dD a c=dD b c:=by
 unfold dD
 rw [Bool.eq_iff_iff,List.any_eq_true,List.any_eq_true]
 exact ⟨fun ⟨x,hx,h1⟩=>⟨x,h.mem_iff.1 hx,h1⟩,fun ⟨x,hx,h1⟩=>⟨x,h.mem_iff.2 hx,h1⟩⟩
theorem l8 {l:ah} (h:∀ p∈l,jN p):Pos l:=fun x hx=>⟨(aC.1 (h x hx).1).1,(aC.1 (h x hx).2.1).1⟩
def iX (ps:ah):ah:=q9 [] ps
theorem iY {ps:ah} (h:Pos ps):Tidy (iX ps):=jl oG h
theorem pO {ps:ah} (h:Pos ps) {c:Int} (hc:aD c=true):dD (iX ps) c=dD ps c:=by rw [iX,oF oG h hc];rfl
theorem IP {ps ts:ah} (hg:∀ p∈ps,jN p) (hp:ts.Perm ps) (hs:IM ts):gM ts=iX ps:=by
 have hgt:∀ p∈ts,jN p:=fun p h=>hg p (hp.mem_iff.1 h)
 obtain ⟨h1,h2⟩:=Gd ts (acc:=[]) trivial hgt hs (by simp)
 refine iW h1 (iY (l8 hg)) fun c hc=>?_
 rw [show gM ts=ts.foldl l7 [] from rfl,h2 c hc,pO (l8 hg) hc,fG,Bool.false_or,UE hp]
theorem MC (l:ah) (p:Int×Int):gM (l++[p])=l7 (gM l) p:=by simp [gM]
theorem UF (acc:ah) (p:Int×Int):(l7 acc p).length<=acc.length+1:=by
 rcases List.eq_nil_or_concat acc with rfl | ⟨L,x,rfl⟩
 ·simp [xU]
 ·simp only [List.concat_eq_append]
  rw [lv];split<;>simp
theorem IQ:∀ (l acc:ah),(l.foldl l7 acc).length<=acc.length+l.length
 | [],_=>by simp
 | p::l,acc=>by
  have:=IQ l (l7 acc p)
  have:=UF acc p
  rw [List.foldl_cons,List.length_cons];omega
theorem Rq (l:ah):(gM l).length<=l.length:=by have:=IQ l [];simpa [gM] using this
def bI:ah->List Int
 | []=>[]
 | x::l=>x.1::x.2::bI l
theorem mV (a b:ah):bI (a++b)=bI a++bI b:=by
 induction a with
 | nil=>rfl
 | cons x a ih=>simp [bI,ih]
theorem fZ (a:ah):(bI a).length=a.length*2:=by
 induction a with
 | nil=>rfl
 | cons x a ih=>simp [bI,ih];omega
def encS (l:ah):ByteArray:=runesBytes (bI l)
theorem Y5 (pre e post:ByteArray) (k:Nat) (h:k<e.size):(pre++e++post).get! (pre.size+k)=e.get! k:=by
 have h1:pre.size+k<(pre++e++post).size:=by rw [ByteArray.size_append,ByteArray.size_append];omega
 have h2:pre.size+k<(pre++e).size:=by rw [ByteArray.size_append];omega
 rw [pz _ _ h1,pz _ _ h,ByteArray.getElem_append_left h2,ByteArray.getElem_append_right (by omega)]
 congr 1
 omega
theorem ofNat_toNat {n:Nat} (h:n<256):(UInt8.ofNat n).toNat=n:=UInt8.toNat_ofNat_of_lt' h
theorem Rs {c:Int} (hc:aD c=true):Utf8.valid c=true:=by
 have:=aC.1 hc
 simp only [Utf8.valid,Bool.or_eq_true,Bool.and_eq_true,decide_eq_true_eq];omega
theorem encode_decode (c:Int) (hc:aD c=true) (pre post:ByteArray):Utf8.decode (pre++Utf8.encode c++post) pre.size=(c.toNat,(Utf8.encode c).size):=by
 obtain ⟨n,rfl⟩:=Int.eq_ofNat_of_zero_le (aC.1 hc).1
 have hn:=aC.1 hc
 have hv:=Rs hc
 have hsz:∀ k,k<(Utf8.encode (n:Int)).size->pre.size+k<(pre++Utf8.encode (n:Int)++post).size:=by
  intro k hk;rw [ByteArray.size_append,ByteArray.size_append];omega
 have hg:=fun k h=>Y5 pre (Utf8.encode (n:Int)) post k h
 have d1:n / 64 / 64=n / 4096:=by rw [Nat.div_div_eq_div_mul]
 have d2:n / 4096 / 64=n / 262144:=by rw [Nat.div_div_eq_div_mul]
 rw [Int.toNat_natCast]
 have hE:Utf8.encode (n:Int)=if n<128 then ⟨#[UInt8.ofNat n]⟩ else if n<2048 then ⟨#[UInt8.ofNat (192+n / 64),UInt8.ofNat (128+n % 64)]⟩ else if n<65536 then ⟨#[UInt8.ofNat (224+n / 4096),UInt8.ofNat (128+n / 64 % 64),UInt8.ofNat (128+n % 64)]⟩ else ⟨#[UInt8.ofNat (240+n / 262144),UInt8.ofNat (128+n / 4096 % 64),UInt8.ofNat (128+n / 64 % 64),UInt8.ofNat (128+n % 64)]⟩:=by
  unfold Utf8.encode
  rw [hv]
  simp
 by_cases h1:n<128
 ·rw [if_pos h1] at hE
  rw [hE] at hg hsz ⊢
  have g0:=hg 0 (show 0<1 by decide)
  rw [Nat.add_zero] at g0
  have t0:((pre++(⟨#[UInt8.ofNat n]⟩:ByteArray)++post).get! pre.size).toNat=n:=by rw [g0];show (UInt8.ofNat n).toNat=n;exact ofNat_toNat (by omega)
  unfold Utf8.decode
  simp only [Nat.add_zero,t0]
  rw [if_pos h1];rfl
 ·rw [if_neg h1] at hE
  by_cases h2:n<2048
  ·rw [if_pos h2] at hE
   rw [hE] at hg hsz ⊢
   have g0:=hg 0 (by decide:0<2)
   have g1:=hg 1 (by decide:1<2)
   have s1:=hsz 1 (by decide:1<2)
   rw [Nat.add_zero] at g0
   generalize hS:pre++(⟨#[UInt8.ofNat (192+n / 64),UInt8.ofNat (128+n % 64)]⟩:ByteArray)++post=S at *
   have t0:(S.get! pre.size).toNat=192+n / 64:=by rw [g0];show (UInt8.ofNat (192+n / 64)).toNat=_;exact ofNat_toNat (by omega)
   have t1:(S.get! (pre.size+1)).toNat=128+n % 64:=by rw [g1];show (UInt8.ofNat (128+n % 64)).toNat=_;exact ofNat_toNat (by omega)
   unfold Utf8.decode
   simp only [Nat.add_zero,t0,t1,s1,decide_true,Bool.true_and,Bool.and_eq_true,beq_iff_eq]
   rw [if_neg (by omega),if_pos (by omega),if_pos (by omega)]
   exact Prod.ext (by show (192+n / 64) % 32*64+(128+n % 64) % 64=n;omega) rfl
  ·rw [if_neg h2] at hE
   by_cases h3:n<65536
   ·rw [if_pos h3] at hE
    rw [hE] at hg hsz ⊢
    have g0:=hg 0 (by decide:0<3)
    have g1:=hg 1 (by decide:1<3)
    have g2:=hg 2 (by decide:2<3)
    have s1:=hsz 1 (by decide:1<3)
    have s2:=hsz 2 (by decide:2<3)
    rw [Nat.add_zero] at g0
    generalize hS:pre++(⟨#[UInt8.ofNat (224+n / 4096),UInt8.ofNat (128+n / 64 % 64),UInt8.ofNat (128+n % 64)]⟩:ByteArray)++post=S at *
    have t0:(S.get! pre.size).toNat=224+n / 4096:=by rw [g0];show (UInt8.ofNat (224+n / 4096)).toNat=_;exact ofNat_toNat (by omega)
    have t1:(S.get! (pre.size+1)).toNat=128+n / 64 % 64:=by rw [g1];show (UInt8.ofNat (128+n / 64 % 64)).toNat=_;exact ofNat_toNat (by omega)
    have t2:(S.get! (pre.size+2)).toNat=128+n % 64:=by rw [g2];show (UInt8.ofNat (128+n % 64)).toNat=_;exact ofNat_toNat (by omega)
    have ev:(224+n / 4096) % 16*4096+(128+n / 64 % 64) % 64*64+(128+n % 64) % 64=n:=by omega
    unfold Utf8.decode
    simp only [Nat.add_zero,t0,t1,t2,s1,s2,decide_true,Bool.true_and,Bool.and_eq_true,beq_iff_eq,ev,hv,decide_eq_true_eq,and_true,ge_iff_le]
    rw [if_neg (by omega),if_neg (by omega),if_pos (by omega),if_pos (by omega)]
    rfl
   ·rw [if_neg h3] at hE
    rw [hE] at hg hsz ⊢
    have g0:=hg 0 (by decide:0<4)
    have g1:=hg 1 (by decide:1<4)
    have g2:=hg 2 (by decide:2<4)
    have g3:=hg 3 (by decide:3<4)
    have s1:=hsz 1 (by decide:1<4)
    have s2:=hsz 2 (by decide:2<4)
    have s3:=hsz 3 (by decide:3<4)
    rw [Nat.add_zero] at g0
    generalize hS:pre++(⟨#[UInt8.ofNat (240+n / 262144),UInt8.ofNat (128+n / 4096 % 64),UInt8.ofNat (128+n / 64 % 64),UInt8.ofNat (128+n % 64)]⟩:ByteArray)++post=S at *
    have t0:(S.get! pre.size).toNat=240+n / 262144:=by rw [g0];show (UInt8.ofNat (240+n / 262144)).toNat=_;exact ofNat_toNat (by omega)
    have t1:(S.get! (pre.size+1)).toNat=128+n / 4096 % 64:=by rw [g1];show (UInt8.ofNat (128+n / 4096 % 64)).toNat=_;exact ofNat_toNat (by omega)
    have t2:(S.get! (pre.size+2)).toNat=128+n / 64 % 64:=by rw [g2];show (UInt8.ofNat (128+n / 64 % 64)).toNat=_;exact ofNat_toNat (by omega)
    have t3:(S.get! (pre.size+3)).toNat=128+n % 64:=by rw [g3];show (UInt8.ofNat (128+n % 64)).toNat=_;exact ofNat_toNat (by omega)
    have ev:(240+n / 262144) % 8*262144+(128+n / 4096 % 64) % 64*4096+(128+n / 64 % 64) % 64*64+(128+n % 64) % 64=n:=by omega
    unfold Utf8.decode
    simp only [Nat.add_zero,t0,t1,t2,t3,s1,s2,s3,decide_true,Bool.true_and,Bool.and_eq_true,beq_iff_eq,ev,hv,decide_eq_true_eq,and_true,ge_iff_le]
    rw [if_neg (by omega),if_neg (by omega),if_neg (by omega),if_pos (by omega),if_pos (by omega)]
    rfl
theorem mH (c:Int) (l:List Int):runesBytes (c::l)=Utf8.encode c++runesBytes l:=by
 have key:∀ (l:List Int) (s:ByteArray),l.foldl (fun r n=>r++Utf8.encode n) s=s++l.foldl (fun r n=>r++Utf8.encode n) ByteArray.empty:=by
  intro l
  induction l with
  | nil=>intro s;simp
  | cons d l ih=>
   intro s
   rw [List.foldl_cons,List.foldl_cons,ih,ih (ByteArray.empty++Utf8.encode d)]
   simp [ByteArray.append_assoc]
 unfold runesBytes
 rw [List.foldl_cons,key]
 simp
theorem zG (c:Int):1<=(Utf8.encode c).size:=by
 unfold Utf8.encode
 simp only
 repeat' split
 all_goals simp [ByteArray.size]
theorem qV:∀ (ns:List Int) (pre:ByteArray) (bound:Nat) (acc:Array Value),(∀ c∈ns,aD c=true)->(runesBytes ns).size<=bound ->
  Conv.runesFrom (pre++runesBytes ns) bound pre.size acc=acc++(ns.map (Value.int .i32)).toArray
 | [],pre,bound,acc,_,_=>by
  have e:runesBytes []=ByteArray.empty:=rfl
  rw [e,ByteArray.append_empty]
  cases bound with
  | zero=>simp [Conv.runesFrom]
  | succ b=>rw [Conv.runesFrom,if_neg (by omega)];simp
 | c::ns,pre,bound,acc,hs,hb=>by
  have hp:=zG c
  rw [mH,ByteArray.size_append] at hb
  cases bound with
  | zero=>omega
  | succ b=>
   have hd:=encode_decode c (hs c (List.mem_cons_self ..)) pre (runesBytes ns)
   rw [Conv.runesFrom,mH,<-ByteArray.append_assoc,if_pos (by rw [ByteArray.size_append,ByteArray.size_append];omega),hd]
   simp only []
   have ih:=qV ns (pre++Utf8.encode c) b (acc.push (.int .i32 (Int.ofNat c.toNat))) (fun d h=>hs d (List.mem_cons_of_mem _ h)) (by omega)
   rw [ByteArray.size_append] at ih
   rw [ih]
   have hc0:=(aC.1 (hs c (List.mem_cons_self ..))).1
   have:Int.ofNat c.toNat=c:=Int.toNat_of_nonneg hc0
   rw [this]
   simp
theorem uW {l:ah} (h:∀ p∈l,jN p):Conv.runesFrom (encS l) (encS l).size 0 #[]=((bI l).map (Value.int .i32)).toArray:=by
 have hs:∀ c∈bI l,aD c=true:=by
  intro c hc
  induction l with
  | nil=>simp [bI] at hc
  | cons x l ih=>
   simp only [bI,List.mem_cons] at hc
   have hx:=h x (List.mem_cons_self ..)
   rcases hc with rfl | rfl | hc
   ·exact hx.1
   ·exact hx.2.1
   ·exact ih (fun p hp=>h p (List.mem_cons_of_mem _ hp)) hc
 have:=qV (bI l) ByteArray.empty (encS l).size #[] hs (Nat.le_refl _)
 simpa [encS] using this
theorem bD:∀ {m:Int} {l:ah},fC m l->∀ p∈l,jN p
 | _,[],_=>by simp
 | _,x::l,h=>by
  intro p hp
  rcases List.mem_cons.1 hp with rfl | hp
  ·exact ⟨h.2.1,h.2.2.1,h.2.2.2.1⟩
  ·exact bD h.2.2.2.2 p hp
def zH (c:Int):Int:=if c=57344 then 55295 else c - 1
def lD (low:Int):ah->ah
 | []=>if low<=1114111 then [(low,1114111)] else []
 | p::l=>(if low<p.1 then [(low,zH p.1)] else [])++lD (kJ p.2) l
def UG (low:Int):Prop:=aD low=true\/low=1114112
theorem Y6 {h:Int} (hh:aD h=true):UG (kJ h):=by
 unfold UG
 rw [aC] at *
 unfold kJ
 split<;>omega
theorem UH {m:Int} {l:ah} (h:fC m l) {q:Int×Int} (hq:q∈l):dD l q.1=true:=by
 have hg:=bD h q hq
 unfold dD
 rw [List.any_eq_true]
 exact ⟨q,hq,by simp [hg.2.2]⟩
theorem xV:∀ (l:ah) (m low:Int),fC m l->UG low->(∀ p∈l,low<=p.1)->(∀ p∈lD low l,jN p/\low<=p.1)/\∀ c,aD c=true->(dD (lD low l) c=(decide (low<=c)&&!dD l c))
 | [],_,low,_,hlow,_=>by
  rw [lD]
  split
  ·rename_i h
   have hs:aD low=true:=by
    rcases hlow with h1 | h1
    ·exact h1
    ·omega
   refine ⟨fun p hp=>by simp at hp;subst hp;exact ⟨⟨hs,(show aD 1114111=true by decide),h⟩,Int.le_refl _⟩,fun c hc=>?_⟩
   have:=aC.1 hc
   rw [ig,fG]
   simp;omega
  ·refine ⟨by simp,fun c hc=>?_⟩
   have:=aC.1 hc
   rw [fG]
   simp;omega
 | p::l,m,low,ht,hlow,hle=>by
  have hp1:=hle p (List.mem_cons_self ..)
  have s1:=aC.1 ht.2.1
  have s2:=aC.1 ht.2.2.1
  have hab:p.2<kJ p.2:=by unfold kJ;split<;>omega
  have hr:∀ q∈l,kJ p.2<=q.1:=by
   intro q hq
   have:=ht.2.2.2.2.ge (UH ht.2.2.2.2 hq)
   omega
  obtain ⟨g1,g2⟩:=xV l (kJ p.2) (kJ p.2) ht.2.2.2.2 (Y6 ht.2.2.1) hr
  have aaZ:aD low=true:=by
   rcases hlow with h | h
   ·exact h
   ·omega
  have sl:=aC.1 aaZ
  have hbel:low<p.1->aD (zH p.1)=true/\low<=zH p.1:=by
   intro h
   rw [aC]
   unfold zH
   split<;>omega
  rw [lD]
  constructor
  ·intro q hq
   rcases List.mem_append.1 hq with hq | hq
   ·split at hq
    ·rename_i h
     simp at hq;subst hq
     exact ⟨⟨aaZ,(hbel h).1,(hbel h).2⟩,Int.le_refl _⟩
    ·simp at hq
   ·have:=g1 q hq
    exact ⟨this.1,by have:=this.2;have:=ht.2.2.2.1;omega⟩
  ·intro c hc
   have sc:=aC.1 hc
   rw [lC,g2 c hc,ig]
   have adb:p.2<c->kJ p.2<=c:=by intro h;unfold kJ;split<;>omega
   have hpp:=ht.2.2.2.1
   have hno:c<=p.2->dD l c=false:=by
    intro h
    cases hb:dD l c with
    | false=>rfl
    | true=>have:=ht.2.2.2.2.ge hb;omega
   by_cases h1:low<p.1
   ·rw [if_pos h1,ig,fG]
    have hb:c<p.1↔c<=zH p.1:=by unfold zH;split<;>omega
    by_cases h2:c<p.1
    ·rw [hno (by omega)]
     have h4:¬ kJ p.2<=c:=by omega
     have h5:¬ p.1<=c:=by omega
     simp [h4,h5,<-hb,h2]
    ·by_cases h3:c<=p.2
     ·rw [hno h3]
      have h4:¬ kJ p.2<=c:=by omega
      have h5:p.1<=c:=by omega
      simp [h4,h5,h3,<-hb,h2]
     ·have h4:=adb (by omega)
      have h5:low<=c:=by omega
      simp [h4,h5,h3,<-hb,h2]
   ·rw [if_neg h1,fG]
    by_cases h3:c<=p.2
    ·rw [hno h3]
     have h4:¬ kJ p.2<=c:=by omega
     by_cases h5:p.1<=c
     ·simp [h4,h5,h3]
     ·have h6:¬ low<=c:=by omega
      simp [h4,h5,h6]
    ·have h4:=adb (by omega)
     have h5:low<=c:=by omega
     simp [h4,h5,h3]
theorem Eu {l:ah} (h:Tidy l):∀ p∈lD 0 l,jN p:=fun p hp=>
 ((xV l (-1) 0 h (.inl (by decide)) (fun q hq=>(aC.1 (bD h q hq).1).1)).1 p hp).1
theorem ME {l:ah} (h:Tidy l):iX (lD 0 l)=fU l:=by
 have hs:=xV l (-1) 0 h (.inl (by decide)) (fun q hq=>(aC.1 (bD h q hq).1).1)
 have hp:=l8 (Eu h)
 refine iW (iY hp) (dI h.pos) fun c hc=>?_
 rw [pO hp hc,hs.2 c hc,kK h.pos hc]
 have:=aC.1 hc
 simp [this.1]
theorem IU:∀ (l:ah) (low:Int),(lD low l).length<=l.length+1
 | [],low=>by rw [lD];split<;>simp
 | p::l,low=>by
  have:=IU l (kJ p.2)
  rw [lD,List.length_append,List.length_cons]
  split<;>simp<;>omega
def h_ (a:ah×Int) (p:Int×Int):ah×Int:=(a.1++(if a.2<p.1 then [(a.2,zH p.1)] else []),kJ p.2)
def aU (l:ah):ah×Int:=l.foldl h_ ([],0)
theorem vY (l:ah) (p:Int×Int):aU (l++[p])=h_ (aU l) p:=by
 unfold aU
 rw [List.foldl_append];rfl
theorem A8:∀ (l:ah) (a:ah) (low:Int),a++lD low l=(l.foldl h_ (a,low)).1++(if (l.foldl h_ (a,low)).2<=1114111 then [((l.foldl h_ (a,low)).2,1114111)] else [])
 | [],a,low=>rfl
 | p::l,a,low=>by
  have ih:=A8 l (a++(if low<p.1 then [(low,zH p.1)] else [])) (kJ p.2)
  rw [lD,<-List.append_assoc]
  exact ih
theorem IV (l:ah):lD 0 l=(aU l).1++(if (aU l).2<=1114111 then [((aU l).2,1114111)] else []):=A8 l [] 0
end Go.Proofs.YtfolanohokflkaaGreatDoor
namespace Go.Proofs
open Go.Shelf
def Tryz.MF:Go.Shelf.Ren:=⟨fun | 6=>269 | 15=>230 | 14=>290 | 28=>267 | 29=>255 | 20=>309 | 21=>310 | 22=>311 | 23=>312 | 24=>313 | 25=>314 | 26=>315 | 27=>316 | 46=>324 | 47=>285 | 48=>286 | 49=>325 | 50=>326 | 57=>336 | n=>n,fun | 22=>237 | 24=>248 | 25=>295 | 3=>3 | 39=>99 | 0=>0 | 53=>304 | 55=>278 | 4=>4 | 46=>308 | 45=>307 | 50=>69 | 5=>5 | 9=>9 | 66=>326 | 70=>330 | 76=>344 | 77=>141 | n=>n,fun | n=>n⟩
theorem Tryz.Gf:Go.Proofs.SlLaysF0.n6 Tryz.prog Tryz.MF:={
 mixed:=by kernel_rfl
 f6:=⟨ "slices.SortFunc[[]motif/motif.piece,motif/motif.piece]",by decide,Tryz.func269.trans (congrArg some (by kernel_rfl))⟩
 f14:=⟨ "slices.pdqsortCmpFunc[motif/motif.piece]",by decide,Tryz.func290.trans (congrArg some (by kernel_rfl))⟩
 f15:=Tryz.func230.trans (congrArg some (by kernel_rfl))
 f20:=⟨ "slices.insertionSortCmpFunc[motif/motif.piece]",by decide,Tryz.func309.trans (congrArg some (by kernel_rfl))⟩
 f21:=⟨ "slices.heapSortCmpFunc[motif/motif.piece]",by decide,Tryz.func310.trans (congrArg some (by kernel_rfl))⟩
 f22:=⟨ "slices.breakPatternsCmpFunc[motif/motif.piece]",by decide,Tryz.func311.trans (congrArg some (by kernel_rfl))⟩
 f23:=⟨ "slices.choosePivotCmpFunc[motif/motif.piece]",by decide,Tryz.func312.trans (congrArg some (by kernel_rfl))⟩
 f24:=⟨ "slices.reverseRangeCmpFunc[motif/motif.piece]",by decide,Tryz.func313.trans (congrArg some (by kernel_rfl))⟩
 f25:=⟨ "slices.partialInsertionSortCmpFunc[motif/motif.piece]",by decide,Tryz.func314.trans (congrArg some (by kernel_rfl))⟩
 f26:=⟨ "slices.partitionEqualCmpFunc[motif/motif.piece]",by decide,Tryz.func315.trans (congrArg some (by kernel_rfl))⟩
 f27:=⟨ "slices.partitionCmpFunc[motif/motif.piece]",by decide,Tryz.func316.trans (congrArg some (by kernel_rfl))⟩
 f28:=Tryz.func267.trans (congrArg some (by kernel_rfl))
 f29:=Tryz.func255.trans (congrArg some (by kernel_rfl))
 f46:=⟨ "slices.siftDownCmpFunc[motif/motif.piece]",by decide,Tryz.func324.trans (congrArg some (by kernel_rfl))⟩
 f47:=Tryz.func285.trans (congrArg some (by kernel_rfl))
 f48:=Tryz.func286.trans (congrArg some (by kernel_rfl))
 f49:=⟨ "slices.medianAdjacentCmpFunc[motif/motif.piece]",by decide,Tryz.func325.trans (congrArg some (by kernel_rfl))⟩
 f50:=⟨ "slices.medianCmpFunc[motif/motif.piece]",by decide,Tryz.func326.trans (congrArg some (by kernel_rfl))⟩
 f57:=⟨ "slices.order2CmpFunc[motif/motif.piece]",by decide,Tryz.func336.trans (congrArg some (by kernel_rfl))⟩
 t0:=Tryz.underlying0
 a0:=Tryz.isAgg0
 z0:=Tryz.sizeOf0
 v0:=Tryz.zeroValue0
 t3:=Tryz.underlying3
 a3:=Tryz.isAgg3
 z3:=Tryz.sizeOf3
 v3:=Tryz.zeroValue3
 t4:=Tryz.underlying4
 a4:=Tryz.isAgg4
 z4:=Tryz.sizeOf4
 v4:=Tryz.zeroValue4
 t5:=Tryz.underlying5
 a5:=Tryz.isAgg5
 z5:=Tryz.sizeOf5
 v5:=Tryz.zeroValue5
 t9:=Tryz.underlying9
 a9:=Tryz.isAgg9
 z9:=Tryz.sizeOf9
 v9:=Tryz.zeroValue9
 t22:=Tryz.underlying237
 a22:=Tryz.isAgg237
 z22:=Tryz.sizeOf237
 v22:=Tryz.zeroValue237
 t25:=Tryz.underlying295
 a25:=Tryz.isAgg295
 z25:=Tryz.sizeOf295
 v25:=Tryz.zeroValue295
 t39:=Tryz.underlying99
 a39:=Tryz.isAgg99
 z39:=Tryz.sizeOf99
 v39:=Tryz.zeroValue99
 t45:=Tryz.underlying307
 a45:=Tryz.isAgg307
 z45:=Tryz.sizeOf307
 v45:=Tryz.zeroValue307
 t46:=Tryz.underlying308
 a46:=Tryz.isAgg308
 z46:=Tryz.sizeOf308
 v46:=Tryz.zeroValue308
 t50:=Tryz.underlying69
 a50:=Tryz.isAgg69
 z50:=Tryz.sizeOf69
 v50:=Tryz.zeroValue69
 t53:=Tryz.underlying304
 a53:=Tryz.isAgg304
 z53:=Tryz.sizeOf304
 v53:=Tryz.zeroValue304
 t55:=Tryz.underlying278
 a55:=Tryz.isAgg278
 z55:=Tryz.sizeOf278
 v55:=Tryz.zeroValue278
 t66:=Tryz.underlying326
 a66:=Tryz.isAgg326
 z66:=Tryz.sizeOf326
 v66:=Tryz.zeroValue326
 t70:=Tryz.underlying330
 a70:=Tryz.isAgg330
 z70:=Tryz.sizeOf330
 v70:=Tryz.zeroValue330
 t76:=Tryz.underlying344
 a76:=Tryz.isAgg344
 z76:=Tryz.sizeOf344
 v76:=Tryz.zeroValue344
 t77:=Tryz.underlying141
 a77:=Tryz.isAgg141
 z77:=Tryz.sizeOf141
 v77:=Tryz.zeroValue141 }
end Go.Proofs
