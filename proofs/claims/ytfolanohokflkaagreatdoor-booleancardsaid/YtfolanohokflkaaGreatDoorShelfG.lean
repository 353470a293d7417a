import Derived.Test.YtfolanohokflkaaGreatDoorTabC
import Derived.Laws.Cover4
import Derived.Laws.IdiomStrings
import Derived.Shelf.SlSortCmp.WholeK
import Derived.Test.YtfolanohokflkaaGreatDoorProg
namespace Go.Proofs.YtfolanohokflkaaGreatDoor
abbrev ah:=List (Int×Int)
def dn (l:ah) (c:Int):Bool:=l.any fun x=>decide (x.1<=c)&&decide (c<=x.2)
theorem fe (c:Int):dn [] c=false:=rfl
theorem gX (x:Int×Int) (l:ah) (c:Int):dn (x::l) c=(decide (x.1<=c/\c<=x.2)||dn l c):=by
 simp [dn,Bool.decide_and]
theorem bU {x:Int×Int} {l:ah} {c:Int}:dn (x::l) c=true↔(x.1<=c/\c<=x.2)\/dn l c=true:=by
 rw [gX];simp
theorem az {n:Int}:aC n=true↔0<=n/\n<=1114111/\(n<55296\/57343<n):=by simp [aC]
def yO {α:Type} (gt:α->α->Bool) (c:α):List α->List α
 | []=>[c]
 | x::r=>if gt x c=true then c::x::r else x::yO gt c r
theorem zY {α:Type} {gt:α->α->Bool} {c x:α}:∀ {l:List α},x∈yO gt c l↔x=c\/x∈l
 | []=>by simp [yO]
 | y::r=>by
  rw [yO]
  split
  ·simp
  ·simp [zY (l:=r)]
   constructor
   ·rintro (h | h | h)<;>simp [h]
   ·rintro (h | h | h)<;>simp [h]
def oO {α:Type} [BEq α] (gt:α->α->Bool) (c:α) (l:List α):List α:=if l.contains c=true then l else yO gt c l
theorem si {α:Type} [BEq α] [LawfulBEq α] {gt:α->α->Bool} {c x:α} {l:List α}:x∈oO gt c l↔x=c\/x∈l:=by
 unfold oO
 split
 ·rename_i h
  have h':c∈l:=by simpa using h
  constructor
  ·exact .inr
  ·rintro (rfl | h2)
   ·exact h'
   ·exact h2
 ·exact zY
theorem qK {α:Type} {gt:α->α->Bool} (htr:∀ a b c,gt b a=true->gt c b=true->gt c a=true) {c:α} :
  ∀ {l:List α},(∀ x∈l,gt x c=true\/gt c x=true)->l.Pairwise (fun a b=>gt b a=true)->(yO gt c l).Pairwise (fun a b=>gt b a=true)
 | [],_,_=>by simp [yO]
 | y::r,hc,hp=>by
  rw [yO]
  have hp':=List.pairwise_cons.1 hp
  split
  ·rename_i h
   refine List.pairwise_cons.2 ⟨fun z hz=>?_,hp⟩
   rcases List.mem_cons.1 hz with rfl | hz
   ·exact h
   ·exact htr _ _ _ h (hp'.1 z hz)
  ·rename_i h
   refine List.pairwise_cons.2 ⟨fun z hz=>?_,qK htr (fun x hx=>hc x (List.mem_cons_of_mem _ hx)) hp'.2⟩
   rcases zY.1 hz with rfl | hz
   ·rcases hc y (List.mem_cons_self ..) with h2 | h2
    ·exact absurd h2 h
    ·exact h2
   ·exact hp'.1 z hz
theorem ug {α:Type} {gt:α->α->Bool} (WI:∀ a,gt a a=false) (htr:∀ a b c,gt b a=true->gt c b=true->gt c a=true) :
  ∀ {l m:List α},l.Pairwise (fun a b=>gt b a=true)->m.Pairwise (fun a b=>gt b a=true)->(∀ x,x∈l↔x∈m)->l=m
 | [],[],_,_,_=>rfl
 | [],y::m,_,_,h=>absurd ((h y).2 (List.mem_cons_self ..)) (by simp)
 | x::l,[],_,_,h=>absurd ((h x).1 (List.mem_cons_self ..)) (by simp)
 | x::l,y::m,hl,hm,h=>by
  have hl':=List.pairwise_cons.1 hl
  have hm':=List.pairwise_cons.1 hm
  have e:x=y:=by
   rcases List.mem_cons.1 ((h x).1 (List.mem_cons_self ..)) with e | e
   ·exact e
   ·rcases List.mem_cons.1 ((h y).2 (List.mem_cons_self ..)) with e2 | e2
    ·exact e2.symm
    ·have h1:=hm'.1 x e
     have h2:=hl'.1 y e2
     have h3:=htr _ _ _ h1 h2
     rw [WI] at h3;exact absurd h3 (by simp)
  subst e
  have hx:∀ z,z∈l↔z∈m:=by
   intro z
   constructor
   ·intro hz
    rcases List.mem_cons.1 ((h z).1 (List.mem_cons_of_mem _ hz)) with e | e
    ·subst e;have h3:=hl'.1 z hz;rw [WI] at h3;exact absurd h3 (by simp)
    ·exact e
   ·intro hz
    rcases List.mem_cons.1 ((h z).2 (List.mem_cons_of_mem _ hz)) with e | e
    ·subst e;have h3:=hm'.1 z hz;rw [WI] at h3;exact absurd h3 (by simp)
    ·exact e
  rw [ug WI htr hl'.2 hm'.2 hx]
def gtI (a b:Int):Bool:=decide (b<a)
theorem y9 {a b:Int}:gtI a b=true↔b<a:=by simp [gtI]
def jD (c:Int):Int:=if 55296<=c/\c<=57343 then 57344 else c
def fH (l:List Int) (c:Int):List Int:=if 1114111<jD c then l else oO gtI (jD c) l
def sU (l:List Int):Prop:=l.Pairwise (fun a b=>gtI b a=true)
theorem EW {l:List Int} (h:sU l) (c:Int):sU (oO gtI c l):=by
 unfold oO
 split
 ·exact h
 ·rename_i hc
  refine qK (fun a b c h1 h2=>?_) (fun x hx=>?_) h
  ·rw [y9] at *;omega
  ·rw [y9,y9]
   have:¬ x=c:=by rintro rfl;exact hc (by simpa using hx)
   omega
theorem qL {l:List Int} (h:sU l) (c:Int):sU (fH l c):=by
 unfold fH;split
 ·exact h
 ·exact EW h _
theorem x8 {l:List Int} {c x:Int}:x∈fH l c↔x∈l\/(x=jD c/\x<=1114111):=by
 unfold fH
 split
 ·constructor
  ·exact .inl
  ·rintro (h | ⟨rfl,h⟩)
   ·exact h
   ·omega
 ·rw [si]
  constructor
  ·rintro (rfl | h)
   ·exact .inr ⟨rfl,by omega⟩
   ·exact .inl h
  ·rintro (h | ⟨rfl,h⟩)
   ·exact .inr h
   ·exact .inl rfl
theorem RZ (c:Int):c<=jD c:=by unfold jD;split<;>omega
theorem R3 {c x:Int} (hx:aC x=true) (h:c<=x):jD c<=x:=by
 rw [az] at hx;unfold jD;split<;>omega
theorem Dm {c:Int} (h0:0<=c) (h:jD c<=1114111):aC (jD c)=true:=by
 rw [az];unfold jD at *;split at h<;>omega
def Pos (a:ah):Prop:=∀ x∈a,0<=x.1/\0<=x.2
def mV (l:List Int) (a:ah):List Int:=a.foldl (fun l x=>fH (fH l x.1) (x.2+1)) l
def mf (a b:ah):List Int:=mV (mV [0] a) b
theorem oF:∀ (a:ah) {l:List Int},sU l->sU (mV l a)
 | [],_,h=>h
 | x::a,l,h=>oF a (l:=fH (fH l x.1) (x.2+1)) (qL (qL h _) _)
theorem uh:∀ (a:ah) {l:List Int} {y:Int},y∈mV l a↔y∈l\/∃ x∈a,(y=jD x.1\/y=jD (x.2+1))/\y<=1114111
 | [],l,y=>by simp [mV]
 | x::a,l,y=>by
  rw [show mV l (x::a)=mV (fH (fH l x.1) (x.2+1)) a from rfl,uh a,x8,x8]
  constructor
  ·rintro (((h | ⟨h1,h2⟩) | ⟨h1,h2⟩) | ⟨z,hz,h⟩)
   ·exact .inl h
   ·exact .inr ⟨x,List.mem_cons_self ..,.inl h1,h2⟩
   ·exact .inr ⟨x,List.mem_cons_self ..,.inr h1,h2⟩
   ·exact .inr ⟨z,List.mem_cons_of_mem _ hz,h⟩
  ·rintro (h | ⟨z,hz,h1,h2⟩)
   ·exact .inl (.inl (.inl h))
   ·rcases List.mem_cons.1 hz with rfl | hz
    ·rcases h1 with h1 | h1
     ·exact .inl (.inl (.inr ⟨h1,h2⟩))
     ·exact .inl (.inr ⟨h1,h2⟩)
    ·exact .inr ⟨z,hz,h1,h2⟩
theorem oP {a b:ah} {y:Int}:y∈mf a b↔y=0\/(∃ x∈a,(y=jD x.1\/y=jD (x.2+1))/\y<=1114111)\/∃ x∈b,(y=jD x.1\/y=jD (x.2+1))/\y<=1114111:=by
 rw [mf,uh,uh,or_assoc];simp
theorem je (a b:ah):sU (mf a b):=oF _ (oF _ (by simp [sU]))
theorem kT {a b:ah} (ha:Pos a) (hb:Pos b):∀ y∈mf a b,aC y=true:=by
 intro y hy
 have key:∀ l:ah,Pos l->(∃ x∈l,(y=jD x.1\/y=jD (x.2+1))/\y<=1114111)->aC y=true:=by
  rintro l hl ⟨x,hx,rfl | rfl,h⟩
  ·exact Dm (hl x hx).1 h
  ·exact Dm (by have:=(hl x hx).2;omega) h
 rcases oP.1 hy with rfl | h | h
 ·decide
 ·exact key a ha h
 ·exact key b hb h
theorem mW {x:Int} {r:List Int} (h:sU (x::r)):∀ y∈r,x<y:=fun y hy=>y9.1 ((List.pairwise_cons.1 h).1 y hy)
theorem iO {x:Int} {r:List Int} (h:sU (x::r)):sU r:=(List.pairwise_cons.1 h).2
def Gj:List Int->Int->Int
 | [],c=>c
 | [x],_=>x
 | x::y::r,c=>if y<=c then Gj (y::r) c else x
theorem GK:∀ (l:List Int) (c:Int),sU l->(∃ x r,l=x::r/\x<=c)->Gj l c∈l/\Gj l c<=c/\∀ y∈l,y<=c->y<=Gj l c
 | [],_,_,h=>by obtain ⟨x,r,h,_⟩:=h;cases h
 | [x],c,_,h=>by
  obtain ⟨x',r,e,hx⟩:=h
  cases e
  exact ⟨by simp [Gj],hx,fun y hy _=>by simp at hy;simp [Gj,hy]⟩
 | x::y::r,c,hs,h=>by
  obtain ⟨x',r',e,hx⟩:=h
  cases e
  rw [Gj]
  have h1:=mW hs
  split
  ·rename_i hy
   obtain ⟨h2,h3,h4⟩:=GK (y::r) c (iO hs) ⟨y,r,rfl,hy⟩
   refine ⟨List.mem_cons_of_mem _ h2,h3,fun z hz hzc=>?_⟩
   rcases List.mem_cons.1 hz with rfl | hz
   ·have:=h4 y (List.mem_cons_self ..) hy
    have:=h1 y (List.mem_cons_self ..)
    omega
   ·exact h4 z hz hzc
  ·rename_i hy
   refine ⟨List.mem_cons_self ..,hx,fun z hz hzc=>?_⟩
   rcases List.mem_cons.1 hz with rfl | hz
   ·exact Int.le_refl _
   ·rcases List.mem_cons.1 hz with rfl | hz
    ·exact absurd hzc hy
    ·have:=mW (iO hs) z hz
     omega
theorem Dn {l:List Int} (hs:sU l) (h0:0∈l) (hp:∀ y∈l,0<=y):∃ r,l=0::r:=by
 cases l with
 | nil=>simp at h0
 | cons x r=>
  rcases List.mem_cons.1 h0 with h | h
  ·exact ⟨r,by rw [h]⟩
  ·have:=mW hs 0 h
   have:=hp x (List.mem_cons_self ..)
   omega
theorem M3 {a:ah} {l:List Int} (hs:sU l) (h0:∃ x r,l=x::r/\x<=0) (hl:∀ y∈l,aC y=true)
  (hc:∀ x∈a,∀ y,y=jD x.1\/y=jD (x.2+1)->y<=1114111->y∈l) {c:Int} (hy:aC c=true):dn a c=dn a (Gj l c):=by
 have hc0:=az.1 hy
 obtain ⟨h1,h2,h3⟩:=GK l c hs (by obtain ⟨x,r,e,h⟩:=h0;exact ⟨x,r,e,by omega⟩)
 have hsy:=hl _ h1
 have key:∀ x∈a,(x.1<=c/\c<=x.2)↔(x.1<=Gj l c/\Gj l c<=x.2):=by
  intro x hx
  have up:∀ z:Int,(∀ y,y=jD z->y<=1114111->y∈l)->(z<=c↔z<=Gj l c):=by
   intro z hz
   constructor
   ·intro hzc
    have h4:=R3 hy hzc
    have h5:=hz _ rfl (by omega)
    have:=h3 _ h5 h4
    have:=RZ z
    omega
   ·intro h;omega
  have u1:=up x.1 (fun y e=>hc x hx y (.inl e))
  have u2:=up (x.2+1) (fun y e=>hc x hx y (.inr e))
  omega
 unfold dn
 rw [Bool.eq_iff_iff,List.any_eq_true,List.any_eq_true]
 constructor
 ·rintro ⟨x,hx,h⟩;exact ⟨x,hx,by have:=key x hx;simp at h ⊢;omega⟩
 ·rintro ⟨x,hx,h⟩;exact ⟨x,hx,by have:=key x hx;simp at h ⊢;omega⟩
theorem qM {a b:ah} (ha:Pos a) (hb:Pos b) {c:Int} (hy:aC c=true):dn a c=dn a (Gj (mf a b) c)/\dn b c=dn b (Gj (mf a b) c):=by
 have hs:=je a b
 have hl:=kT ha hb
 obtain ⟨r,hr⟩:=Dn hs (oP.2 (.inl rfl)) (fun y h=>(az.1 (hl y h)).1)
 have h0:∃ x r,mf a b=x::r/\x<=0:=⟨0,r,hr,Int.le_refl _⟩
 exact ⟨M3 hs h0 hl (fun x hx y h1 h2=>oP.2 (.inr (.inl ⟨x,hx,h1,h2⟩))) hy,M3 hs h0 hl (fun x hx y h1 h2=>oP.2 (.inr (.inr ⟨x,hx,h1,h2⟩))) hy⟩
def u6:List Int->Int
 | []=>1114111
 | y::_=>if y - 1=57343 then 55295 else y - 1
def qm (p:Int->Bool):List Int->Bool
 | []=>false
 | y::_=>p y
def oU (x h:Int) (b:Bool) (l:ah):ah:=match b,l with
 | true,z::q=>(x,z.2)::q
 | _,l=>(x,h)::l
def gY (p:Int->Bool):List Int->ah
 | []=>[]
 | x::r=>if p x=true then oU x (u6 r) (qm p r) (gY p r) else gY p r
def ko (h:Int):Int:=if h=55295 then 57344 else h+1
def eP (m:Int):ah->Prop
 | []=>True
 | x::r=>m<x.1/\aC x.1=true/\aC x.2=true/\x.1<=x.2/\eP (ko x.2) r
abbrev Tidy (l:ah):Prop:=eP (-1) l
theorem eP.ge {m c:Int}:∀ {l:ah},eP m l->dn l c=true->m<c
 | [],_,h=>by simp [dn] at h
 | x::r,h,hc=>by
  rcases bU.1 hc with h1 | h1
  ·have:=h.1;omega
  ·have h2:=h.2.2.2.2.ge h1
   have:x.2<ko x.2:=by unfold ko;split<;>omega
   have:=h.1
   have:=h.2.2.2.1
   omega
theorem eP.pos {m:Int}:∀ {l:ah},eP m l->Pos l
 | [],_=>fun x h=>by simp at h
 | y::r,h=>fun x hx=>by
  rcases List.mem_cons.1 hx with rfl | hx
  ·exact ⟨(az.1 h.2.1).1,(az.1 h.2.2.1).1⟩
  ·exact h.2.2.2.2.pos x hx
theorem M4 {h y:Int} (hh:aC h=true) (hy:aC y=true) (hlt:h<y):aC (ko h)=true/\ko h<=y/\h<ko h:=by
 rw [az] at *;unfold ko;split<;>omega
theorem iP:∀ {m n:Int} {a b:ah},eP m a->eP n b->(∀ c,aC c=true->dn a c=dn b c)->a=b
 | _,_,[],[],_,_,_=>rfl
 | _,_,[],y::b,_,hb,h=>by
  have:=h y.1 hb.2.1
  rw [fe,gX] at this
  simp [hb.2.2.2.1] at this
 | _,_,x::a,[],ha,_,h=>by
  have:=h x.1 ha.2.1
  rw [fe,gX] at this
  simp [ha.2.2.2.1] at this
 | _,_,x::a,y::b,ha,hb,h=>by
  have xin:dn (x::a) x.1=true:=bU.2 (.inl ⟨Int.le_refl _,ha.2.2.2.1⟩)
  have yin:dn (y::b) y.1=true:=bU.2 (.inl ⟨Int.le_refl _,hb.2.2.2.1⟩)
  have lo:∀ {m:Int} {z:Int×Int} {l:ah} {c:Int},eP m (z::l)->dn (z::l) c=true->z.1<=c:=by
   intro m z l c hz hc
   rcases bU.1 hc with h1 | h1
   ·exact h1.1
   ·have:=hz.2.2.2.2.ge h1
    have:z.2<ko z.2:=by unfold ko;split<;>omega
    have:=hz.2.2.2.1
    omega
  have e1:x.1=y.1:=by
   have h1:=lo hb (by rw [<-h x.1 ha.2.1];exact xin)
   have h2:=lo ha (by rw [h y.1 hb.2.1];exact yin)
   omega
  have no:∀ {m:Int} {z:Int×Int} {l:ah} {c:Int},eP m (z::l)->z.2<c->c<=ko z.2->¬ dn (z::l) c=true:=by
   intro m z l c hz h1 h2 hc
   rcases bU.1 hc with h3 | h3
   ·omega
   ·have:=hz.2.2.2.2.ge h3
    omega
  have e2:x.2=y.2:=by
   rcases Int.lt_trichotomy x.2 y.2 with hlt | he | hgt
   ·obtain ⟨h1,h2,h3⟩:=M4 ha.2.2.1 hb.2.2.1 hlt
    refine absurd ?_ (no ha h3 (Int.le_refl _))
    rw [h _ h1]
    exact bU.2 (.inl ⟨by have:=ha.2.2.2.1;omega,h2⟩)
   ·exact he
   ·obtain ⟨h1,h2,h3⟩:=M4 hb.2.2.1 ha.2.2.1 hgt
    refine absurd ?_ (no hb h3 (Int.le_refl _))
    rw [<-h _ h1]
    exact bU.2 (.inl ⟨by have:=hb.2.2.2.1;omega,h2⟩)
  have e:x=y:=Prod.ext e1 e2
  subst e
  have hr:∀ c,aC c=true->dn a c=dn b c:=by
   intro c hc
   have h1:=h c hc
   rw [gX,gX] at h1
   by_cases hin:x.1<=c/\c<=x.2
   ·have g:∀ {l:ah},eP (ko x.2) l->dn l c=false:=by
     intro l hl
     cases hb2:dn l c with
     | false=>rfl
     | true=>
      have:=hl.ge hb2
      have:x.2<ko x.2:=by unfold ko;split<;>omega
      omega
    rw [g ha.2.2.2.2,g hb.2.2.2.2]
   ·simpa [hin] using h1
  rw [iP ha.2.2.2.2 hb.2.2.2.2 hr]
theorem ui {p:Int->Bool} {y:Int} {r:List Int} (h:p y=true):∃ z q,gY p (y::r)=(y,z)::q:=by
 rw [gY,if_pos h]
 unfold oU
 split
 ·exact ⟨_,_,rfl⟩
 ·exact ⟨_,_,rfl⟩
theorem kU (p:Int->Bool):∀ (l:List Int) (m:Int),sU l->(∀ y∈l,aC y=true)->(∀ y∈l,m<y)->eP m (gY p l)
 | [],_,_,_,_=>trivial
 | x::r,m,hs,hy,hm=>by
  rw [gY]
  have hx:=mW hs
  have hr:∀ y∈r,aC y=true:=fun y h=>hy y (List.mem_cons_of_mem _ h)
  have hmx:=hm x (List.mem_cons_self ..)
  have hxs:=hy x (List.mem_cons_self ..)
  split
  ·cases r with
   | nil=>exact ⟨hmx,hxs,by show aC 1114111=true;decide,by show x<=1114111;have:=az.1 hxs;omega,trivial⟩
   | cons y r=>
    have hxy:=hx y (List.mem_cons_self ..)
    have hys:=az.1 (hr y (List.mem_cons_self ..))
    have hxs':=az.1 hxs
    cases hp:p y with
    | true=>
     have ih:=kU p (y::r) x (iO hs) hr hx
     obtain ⟨z,q,e⟩:=ui (r:=r) hp
     rw [e] at ih ⊢
     rw [show qm p (y::r)=true from hp]
     exact ⟨hmx,hxs,ih.2.2.1,by show x<=z;have:=ih.2.2.2.1;simp at this;omega,ih.2.2.2.2⟩
    | false=>
     have ih:=kU p r y (iO (iO hs)) (fun z h=>hr z (List.mem_cons_of_mem _ h)) (mW (iO hs))
     rw [show qm p (y::r)=false from hp,gY,if_neg (by rw [hp];decide)]
     have e1:ko (u6 (y::r))=y:=by simp only [u6,ko];split<;>split<;>omega
     refine ⟨hmx,hxs,?_,?_,?_⟩
     ·show aC (u6 (y::r))=true
      rw [az];simp only [u6];split<;>omega
     ·show x<=u6 (y::r)
      simp only [u6];split<;>omega
     ·show eP (ko (u6 (y::r))) _
      rw [e1];exact ih
  ·exact kU p r m (iO hs) hr (fun y h=>hm y (List.mem_cons_of_mem _ h))
theorem u7 (p:Int->Bool):∀ (l:List Int) (c:Int),sU l->(∀ y∈l,aC y=true)->aC c=true->(∃ x r,l=x::r/\x<=c)->dn (gY p l) c=p (Gj l c)
 | [],_,_,_,_,h=>by obtain ⟨x,r,h,_⟩:=h;cases h
 | [x],c,_,_,hc,h=>by
  obtain ⟨x',r,e,hx⟩:=h
  cases e
  rw [Gj,gY]
  have:=az.1 hc
  split
  ·rename_i hp
   rw [hp]
   exact bU.2 (.inl ⟨hx,by show c<=1114111;omega⟩)
  ·rename_i hp
   simp [gY,dn]
   simpa using hp
 | x::y::r,c,hs,hy,hc,h=>by
  obtain ⟨x',r',e,hx⟩:=h
  cases e
  have hxy:=mW hs y (List.mem_cons_self ..)
  have hr:∀ z∈y::r,aC z=true:=fun z h=>hy z (List.mem_cons_of_mem _ h)
  have hcs:=az.1 hc
  have hys:=az.1 (hr y (List.mem_cons_self ..))
  rw [Gj]
  by_cases hyc:y<=c
  ·rw [if_pos hyc,<-u7 p (y::r) c (iO hs) hr hc ⟨y,r,rfl,hyc⟩]
   rw [gY]
   split
   ·cases hp:p y with
    | true=>
     obtain ⟨z,q,e⟩:=ui (r:=r) hp
     rw [e,show qm p (y::r)=true from hp]
     show dn ((x,z)::q) c=_
     rw [gX,gX]
     have hiff:(x<=c/\c<=z)↔(y<=c/\c<=z):=by omega
     simp only [hiff]
    | false=>
     rw [show qm p (y::r)=false from hp]
     show dn ((x,u6 (y::r))::gY p (y::r)) c=_
     rw [gX]
     have:u6 (y::r)<c:=by simp only [u6];split<;>omega
     simp;omega
   ·rfl
  ·rw [if_neg hyc]
   have hbelow:dn (gY p (y::r)) c=false:=by
    cases hb:dn (gY p (y::r)) c with
    | false=>rfl
    | true=>
     have:=(kU p (y::r) (y - 1) (iO hs) hr (fun z hz=>by
      rcases List.mem_cons.1 hz with rfl | hz
      ·omega
      ·have:=mW (iO hs) z hz;omega)).ge hb
     omega
   rw [gY]
   split
   ·rename_i hpx
    rw [hpx]
    cases hp:p y with
    | true=>
     have ht:=kU p (y::r) (-1) (iO hs) hr (fun z hz=>by have:=az.1 (hr z hz);omega)
     obtain ⟨z,q,e⟩:=ui (r:=r) hp
     rw [e] at ht ⊢
     rw [show qm p (y::r)=true from hp]
     exact bU.2 (.inl ⟨hx,by have:=ht.2.2.2.1;simp at this;show c<=z;omega⟩)
    | false=>
     rw [show qm p (y::r)=false from hp]
     exact bU.2 (.inl ⟨hx,by show c<=u6 (y::r);simp only [u6];split<;>omega⟩)
   ·rename_i hpx
    rw [hbelow];simpa using hpx
def qA (a b:ah):ah:=gY (fun x=>dn a x||dn b x) (mf a b)
def GL (a b:ah):ah:=gY (fun x=>dn a x&&dn b x) (mf a b)
def fI (a:ah):ah:=gY (fun x=>!dn a x) (mf a [])
theorem wR {a b:ah} (ha:Pos a) (hb:Pos b) {c:Int} (hc:aC c=true):∃ x r,mf a b=x::r/\x<=c:=by
 obtain ⟨r,hr⟩:=Dn (je a b) (oP.2 (.inl rfl)) (fun y h=>(az.1 (kT ha hb y h)).1)
 exact ⟨0,r,hr,(az.1 hc).1⟩
theorem n_ {a b:ah} (ha:Pos a) (hb:Pos b) {c:Int} (hc:aC c=true):dn (qA a b) c=(dn a c||dn b c):=by
 rw [qA,u7 _ _ c (je a b) (kT ha hb) hc (wR ha hb hc),<-(qM ha hb hc).1,<-(qM ha hb hc).2]
theorem u_ {a b:ah} (ha:Pos a) (hb:Pos b) {c:Int} (hc:aC c=true):dn (GL a b) c=(dn a c&&dn b c):=by
 rw [GL,u7 _ _ c (je a b) (kT ha hb) hc (wR ha hb hc),<-(qM ha hb hc).1,<-(qM ha hb hc).2]
theorem og:Pos []:=fun x h=>by simp at h
theorem kr {a:ah} (ha:Pos a) {c:Int} (hc:aC c=true):dn (fI a) c=!dn a c:=by
 rw [fI,u7 _ _ c (je a []) (kT ha og) hc (wR ha og hc),<-(qM ha og hc).1]
theorem EX {a b:ah} (ha:Pos a) (hb:Pos b) (p:Int->Bool):Tidy (gY p (mf a b)):=
 kU _ _ _ (je a b) (kT ha hb) (fun y hy=>by have:=az.1 (kT ha hb y hy);omega)
theorem jf {a b:ah} (ha:Pos a) (hb:Pos b):Tidy (qA a b):=EX ha hb _
theorem wS {a b:ah} (ha:Pos a) (hb:Pos b):Tidy (GL a b):=EX ha hb _
theorem dC {a:ah} (ha:Pos a):Tidy (fI a):=EX ha og _
end Go.Proofs.YtfolanohokflkaaGreatDoor
namespace Go.Proofs.YtfolanohokflkaaGreatDoor
def Zu {α:Type} (gt:α->α->Bool) (c:α) (l:List α):Bool:=l.any fun x=>gt x c
def mAt {α:Type} (gt:α->α->Bool) (c:α) (l:List α):List α:=if Zu gt c l=true then yO gt c l else l
theorem WJ {α:Type} (gt:α->α->Bool) (c:α) (l:List α):(mAt gt c l).length<=l.length+1:=by
 have h:=zZ gt c l
 unfold mAt;split<;>omega
where zZ {α:Type} (gt:α->α->Bool) (c:α):∀ l:List α,(yO gt c l).length=l.length+1
 | []=>rfl
 | x::l=>by rw [yO];split<;>simp [zZ gt c l]
theorem x9 (l:List Int) (c:Int):(fH l c).length<=l.length+1:=by
 unfold fH
 split
 ·omega
 ·unfold oO
  split
  ·omega
  ·rw [WJ.zZ];omega
theorem uj:∀ (a:ah) (l:List Int),(mV l a).length<=l.length+2*a.length
 | [],l=>by simp [mV]
 | x::a,l=>by
  have h1:=x9 l x.1
  have h2:=x9 (fH l x.1) (x.2+1)
  have h3:=uj a (fH (fH l x.1) (x.2+1))
  rw [List.length_cons]
  show (mV (fH (fH l x.1) (x.2+1)) a).length<=_
  omega
theorem Pw (a b:ah):(mf a b).length<=1+2*(a.length+b.length):=by
 have h1:=uj b (mV [0] a)
 have h2:=uj a [0]
 unfold mf
 simp at h2
 omega
theorem EY (x h:Int) (b:Bool) (l:ah):(oU x h b l).length<=l.length+1:=by
 unfold oU;split<;>simp
theorem Dp (p:Int->Bool):∀ l:List Int,2*(gY p l).length<=l.length+(if qm p l=true then 1 else 0)
 | []=>by simp [gY]
 | x::r=>by
  have ih:=Dp p r
  rw [gY,List.length_cons]
  by_cases hx:p x=true
  ·rw [if_pos hx,show qm p (x::r)=true from hx,if_pos rfl]
   cases hr:qm p r with
   | true=>
    rw [hr,if_pos rfl] at ih
    cases ht:gY p r with
    | nil=>simp [oU]
    | cons z q=>rw [ht] at ih;simp [oU] at ih ⊢;omega
   | false=>
    rw [hr,if_neg (by decide)] at ih
    have:=EY x (u6 r) false (gY p r)
    omega
  ·rw [if_neg hx]
   have:qm p (x::r)=false:=by simpa [qm] using hx
   rw [this,if_neg (by decide)]
   split at ih<;>omega
theorem Zv {a b:ah} {p:Int->Bool}:(gY p (mf a b)).length<=a.length+b.length+1:=by
 have h1:=Dp p (mf a b)
 have h2:=Pw a b
 split at h1<;>omega
theorem R4 (a b:ah):(qA a b).length<=a.length+b.length+1:=Zv
end Go.Proofs.YtfolanohokflkaaGreatDoor
namespace Go.Proofs.YtfolanohokflkaaGreatDoor
def GM (l:List (Int×Int)):Prop:=l.Pairwise fun a b=>a.1<=b.1
def jE (p:Int×Int):Prop:=aC p.1=true/\aC p.2=true/\p.1<=p.2
def lK (acc:ah) (p:Int×Int):ah:=match acc.getLast? with
 | some x=>if p.1<=ko x.2 then acc.dropLast++[(x.1,max x.2 p.2)] else acc++[p]
 | none=>acc++[p]
def gz (l:ah):ah:=l.foldl lK []
theorem wT (p:Int×Int):lK [] p=[p]:=rfl
theorem kV (L:ah) (x p:Int×Int):lK (L++[x]) p=if p.1<=ko x.2 then L++[(x.1,max x.2 p.2)] else L++[x]++[p]:=by
 unfold lK
 rw [List.getLast?_concat]
 simp only [List.dropLast_concat]
def ve (m:Int):ah->Int
 | []=>m
 | x::l=>ve (ko x.2) l
theorem mq:∀ {m:Int} {l r:ah},eP m (l++r)↔eP m l/\eP (ve m l) r
 | m,[],r=>by simp [eP,ve]
 | m,x::l,r=>by
  rw [List.cons_append]
  show (m<x.1/\aC x.1=true/\aC x.2=true/\x.1<=x.2/\eP (ko x.2) (l++r))↔(m<x.1/\aC x.1=true/\aC x.2=true/\x.1<=x.2/\eP (ko x.2) l)/\eP (ve (ko x.2) l) r
  rw [mq]
  constructor
  ·rintro ⟨h1,h2,h3,h4,h5,h6⟩;exact ⟨⟨h1,h2,h3,h4,h5⟩,h6⟩
  ·rintro ⟨⟨h1,h2,h3,h4,h5⟩,h6⟩;exact ⟨h1,h2,h3,h4,h5,h6⟩
theorem kW (a b:ah) (c:Int):dn (a++b) c=(dn a c||dn b c):=by simp [dn]
theorem step_ok {acc:ah} {p:Int×Int} (ht:Tidy acc) (hp:jE p) (hlo:∀ x∈acc,x.1<=p.1):Tidy (lK acc p)/\(∀ c,aC c=true->dn (lK acc p) c=(dn acc c||dn [p] c))/\∀ x∈lK acc p,x.1<=p.1:=by
 rcases List.eq_nil_or_concat acc with rfl | ⟨L,x,rfl⟩
 ·rw [wT]
  refine ⟨⟨by show (-1:Int)<p.1;have:=az.1 hp.1;omega,hp.1,hp.2.1,hp.2.2,trivial⟩,fun c _=>by simp [dn],fun x hx=>by simp at hx;subst hx;exact Int.le_refl _⟩
 ·simp only [List.concat_eq_append] at *
  have hx1:=hlo x (by simp)
  rw [kV]
  obtain ⟨tL,tx⟩:=mq.1 ht
  split
  ·rename_i hle
   have hmax:aC (max x.2 p.2)=true:=by
    rcases Int.le_total x.2 p.2 with h | h
    ·rw [Int.max_eq_right h];exact hp.2.1
    ·rw [Int.max_eq_left h];exact tx.2.2.1
   refine ⟨mq.2 ⟨tL,tx.1,tx.2.1,hmax,by show x.1<=max x.2 p.2;have:=tx.2.2.2.1;omega,trivial⟩,fun c hc=>?_,fun y hy=>?_⟩
   ·rw [kW,kW,Bool.or_assoc]
    congr 1
    have hcs:=az.1 hc
    have hxs:=az.1 tx.2.2.1
    have hab:∀ c,aC c=true->x.2<c->ko x.2<=c:=by
     intro c hc h;have:=az.1 hc;unfold ko;split<;>omega
    have key:(x.1<=c/\c<=max x.2 p.2)↔(x.1<=c/\c<=x.2)\/(p.1<=c/\c<=p.2):=by
     constructor
     ·rintro ⟨h1,h2⟩
      by_cases h3:c<=x.2
      ·exact .inl ⟨h1,h3⟩
      ·have:=hab c hc (by omega)
       exact .inr ⟨by omega,by omega⟩
     ·rintro (⟨h1,h2⟩ | ⟨h1,h2⟩)
      ·exact ⟨h1,by omega⟩
      ·exact ⟨by omega,by omega⟩
    rw [Bool.eq_iff_iff,Bool.or_eq_true,bU,bU,bU]
    simp only [fe,Bool.false_eq_true,or_false]
    exact key
   ·rcases List.mem_append.1 hy with hy | hy
    ·exact hlo y (List.mem_append_left _ hy)
    ·simp at hy;subst hy;exact hx1
  ·rename_i hgt
   have e:ve (-1) (L++[x])=ko x.2:=by
    clear hlo ht tL tx hgt hx1
    generalize (-1:Int)=m
    induction L generalizing m with
    | nil=>rfl
    | cons y L ih=>exact ih _
   refine ⟨mq.2 ⟨ht,by rw [e];exact ⟨by omega,hp.1,hp.2.1,hp.2.2,trivial⟩⟩,fun c _=>kW _ _ _,fun y hy=>?_⟩
   rcases List.mem_append.1 hy with hy | hy
   ·exact hlo y hy
   ·simp at hy;subst hy;exact Int.le_refl _
theorem EZ:∀ (l:ah) {acc:ah},Tidy acc->(∀ p∈l,jE p)->GM l->(∀ x∈acc,∀ p∈l,x.1<=p.1)->Tidy (l.foldl lK acc)/\∀ c,aC c=true->dn (l.foldl lK acc) c=(dn acc c||dn l c)
 | [],acc,ht,_,_,_=>⟨ht,fun c _=>by simp [dn]⟩
 | p::l,acc,ht,hp,hs,hlo=>by
  have hs':=List.pairwise_cons.1 hs
  obtain ⟨h1,h2,h3⟩:=step_ok ht (hp p (List.mem_cons_self ..)) (fun x hx=>hlo x hx p (List.mem_cons_self ..))
  obtain ⟨h4,h5⟩:=EZ l h1 (fun q hq=>hp q (List.mem_cons_of_mem _ hq)) hs'.2 (fun x hx q hq=>by
   have:=h3 x hx
   have:=hs'.1 q hq
   omega)
  refine ⟨h4,fun c hc=>?_⟩
  rw [List.foldl_cons,h5 c hc,h2 c hc,Bool.or_assoc]
  congr 1
  rw [show p::l=[p]++l from rfl,kW]
theorem R5 {a b:ah} (h:a.Perm b) (c:Int):dn a c=dn b c:=by
 unfold dn
 rw [Bool.eq_iff_iff,List.any_eq_true,List.any_eq_true]
 exact ⟨fun ⟨x,hx,h1⟩=>⟨x,h.mem_iff.1 hx,h1⟩,fun ⟨x,hx,h1⟩=>⟨x,h.mem_iff.2 hx,h1⟩⟩
theorem lL {l:ah} (h:∀ p∈l,jE p):Pos l:=fun x hx=>⟨(az.1 (h x hx).1).1,(az.1 (h x hx).2.1).1⟩
def iQ (ps:ah):ah:=qA [] ps
theorem iR {ps:ah} (h:Pos ps):Tidy (iQ ps):=jf og h
theorem oV {ps:ah} (h:Pos ps) {c:Int} (hc:aC c=true):dn (iQ ps) c=dn ps c:=by rw [iQ,n_ og h hc];rfl
theorem GN {ps ts:ah} (hg:∀ p∈ps,jE p) (hp:ts.Perm ps) (hs:GM ts):gz ts=iQ ps:=by
 have hgt:∀ p∈ts,jE p:=fun p h=>hg p (hp.mem_iff.1 h)
 obtain ⟨h1,h2⟩:=EZ ts (acc:=[]) trivial hgt hs (by simp)
 refine iP h1 (iR (lL hg)) fun c hc=>?_
 rw [show gz ts=ts.foldl lK [] from rfl,h2 c hc,oV (lL hg) hc,fe,Bool.false_or,R5 hp]
theorem KN (l:ah) (p:Int×Int):gz (l++[p])=lK (gz l) p:=by simp [gz]
theorem R6 (acc:ah) (p:Int×Int):(lK acc p).length<=acc.length+1:=by
 rcases List.eq_nil_or_concat acc with rfl | ⟨L,x,rfl⟩
 ·simp [wT]
 ·simp only [List.concat_eq_append]
  rw [kV];split<;>simp
theorem GQ:∀ (l acc:ah),(l.foldl lK acc).length<=acc.length+l.length
 | [],_=>by simp
 | p::l,acc=>by
  have:=GQ l (lK acc p)
  have:=R6 acc p
  rw [List.foldl_cons,List.length_cons];omega
theorem Px (l:ah):(gz l).length<=l.length:=by have:=GQ l [];simpa [gz] using this
def bG:ah->List Int
 | []=>[]
 | x::l=>x.1::x.2::bG l
theorem mr (a b:ah):bG (a++b)=bG a++bG b:=by
 induction a with
 | nil=>rfl
 | cons x a ih=>simp [bG,ih]
theorem fJ (a:ah):(bG a).length=a.length*2:=by
 induction a with
 | nil=>rfl
 | cons x a ih=>simp [bG,ih];omega
def encS (l:ah):ByteArray:=runesBytes (bG l)
theorem WK (pre e post:ByteArray) (k:Nat) (h:k<e.size):(pre++e++post).get! (pre.size+k)=e.get! k:=by
 have h1:pre.size+k<(pre++e++post).size:=by rw [ByteArray.size_append,ByteArray.size_append];omega
 have h2:pre.size+k<(pre++e).size:=by rw [ByteArray.size_append];omega
 rw [uT _ _ h1,uT _ _ h,ByteArray.getElem_append_left h2,ByteArray.getElem_append_right (by omega)]
 congr 1
 omega
theorem ofNat_toNat {n:Nat} (h:n<256):(UInt8.ofNat n).toNat=n:=UInt8.toNat_ofNat_of_lt' h
theorem Py {c:Int} (hc:aC c=true):Utf8.valid c=true:=by
 have:=az.1 hc
 simp only [Utf8.valid,Bool.or_eq_true,Bool.and_eq_true,decide_eq_true_eq];omega
theorem encode_decode (c:Int) (hc:aC c=true) (pre post:ByteArray):Utf8.decode (pre++Utf8.encode c++post) pre.size=(c.toNat,(Utf8.encode c).size):=by
 obtain ⟨n,rfl⟩:=Int.eq_ofNat_of_zero_le (az.1 hc).1
 have hn:=az.1 hc
 have hv:=Py hc
 have hsz:∀ k,k<(Utf8.encode (n:Int)).size->pre.size+k<(pre++Utf8.encode (n:Int)++post).size:=by
  intro k hk;rw [ByteArray.size_append,ByteArray.size_append];omega
 have hg:=fun k h=>WK pre (Utf8.encode (n:Int)) post k h
 have d1:n / 64 / 64=n / 4096:=by rw [Nat.div_div_eq_div_mul]
 have d2:n / 4096 / 64=n / 262144:=by rw [Nat.div_div_eq_div_mul]
 rw [Int.toNat_natCast]
 have hE:Utf8.encode (n:Int)=if n<128 then ⟨#[UInt8.ofNat n]⟩ else if n<2048 then ⟨#[UInt8.ofNat (192+n / 64),UInt8.ofNat (128+n % 64)]⟩ else if n<65536 then ⟨#[UInt8.ofNat (224+n / 4096),UInt8.ofNat (128+n / 64 % 64),UInt8.ofNat (128+n % 64)]⟩ else ⟨#[UInt8.ofNat (240+n / 262144),UInt8.ofNat (128+n / 4096 % 64),UInt8.ofNat (128+n / 64 % 64),UInt8.ofNat (128+n % 64)]⟩:=by
  unfold Utf8.encode
  rw [hv]
  simp
 by_cases h1:n<128
 ·rw [if_pos h1] at hE
  rw [hE] at hg hsz ⊢
  have g0:=hg 0 (show 0<1 by decide)
  rw [Nat.add_zero] at g0
  have t0:((pre++(⟨#[UInt8.ofNat n]⟩:ByteArray)++post).get! pre.size).toNat=n:=by rw [g0];show (UInt8.ofNat n).toNat=n;exact ofNat_toNat (by omega)
  unfold Utf8.decode
  simp only [Nat.add_zero,t0]
  rw [if_pos h1];rfl
 ·rw [if_neg h1] at hE
  by_cases h2:n<2048
  ·rw [if_pos h2] at hE
   rw [hE] at hg hsz ⊢
   have g0:=hg 0 (by decide:0<2)
   have g1:=hg 1 (by decide:1<2)
   have s1:=hsz 1 (by decide:1<2)
   rw [Nat.add_zero] at g0
   generalize hS:pre++(⟨#[UInt8.ofNat (192+n / 64),UInt8.ofNat (128+n % 64)]⟩:ByteArray)++post=S at *
   have t0:(S.get! pre.size).toNat=192+n / 64:=by rw [g0];show (UInt8.ofNat (192+n / 64)).toNat=_;exact ofNat_toNat (by omega)
   have t1:(S.get! (pre.size+1)).toNat=128+n % 64:=by rw [g1];show (UInt8.ofNat (128+n % 64)).toNat=_;exact ofNat_toNat (by omega)
   unfold Utf8.decode
   simp only [Nat.add_zero,t0,t1,s1,decide_true,Bool.true_and,Bool.and_eq_true,beq_iff_eq]
   rw [if_neg (by omega),if_pos (by omega),if_pos (by omega)]
   exact Prod.ext (by show (192+n / 64) % 32*64+(128+n % 64) % 64=n;omega) rfl
  ·rw [if_neg h2] at hE
   by_cases h3:n<65536
   ·rw [if_pos h3] at hE
    rw [hE] at hg hsz ⊢
    have g0:=hg 0 (by decide:0<3)
    have g1:=hg 1 (by decide:1<3)
    have g2:=hg 2 (by decide:2<3)
    have s1:=hsz 1 (by decide:1<3)
    have s2:=hsz 2 (by decide:2<3)
    rw [Nat.add_zero] at g0
    generalize hS:pre++(⟨#[UInt8.ofNat (224+n / 4096),UInt8.ofNat (128+n / 64 % 64),UInt8.ofNat (128+n % 64)]⟩:ByteArray)++post=S at *
    have t0:(S.get! pre.size).toNat=224+n / 4096:=by rw [g0];show (UInt8.ofNat (224+n / 4096)).toNat=_;exact ofNat_toNat (by omega)
    have t1:(S.get! (pre.size+1)).toNat=128+n / 64 % 64:=by rw [g1];show (UInt8.ofNat (128+n / 64 % 64)).toNat=_;exact ofNat_toNat (by omega)
    have t2:(S.get! (pre.size+2)).toNat=128+n % 64:=by rw [g2];show (UInt8.ofNat (128+n % 64)).toNat=_;exact ofNat_toNat (by omega)
    have ev:(224+n / 4096) % 16*4096+(128+n / 64 % 64) % 64*64+(128+n % 64) % 64=n:=by omega
    unfold Utf8.decode
    simp only [Nat.add_zero,t0,t1,t2,s1,s2,decide_true,Bool.true_and,Bool.and_eq_true,beq_iff_eq,ev,hv,decide_eq_true_eq,and_true,ge_iff_le]
    rw [if_neg (by omega),if_neg (by omega),if_pos (by omega),if_pos (by omega)]
    rfl
   ·rw [if_neg h3] at hE
    rw [hE] at hg hsz ⊢
    have g0:=hg 0 (by decide:0<4)
    have g1:=hg 1 (by decide:1<4)
    have g2:=hg 2 (by decide:2<4)
    have g3:=hg 3 (by decide:3<4)
    have s1:=hsz 1 (by decide:1<4)
    have s2:=hsz 2 (by decide:2<4)
    have s3:=hsz 3 (by decide:3<4)
    rw [Nat.add_zero] at g0
    generalize hS:pre++(⟨#[UInt8.ofNat (240+n / 262144),UInt8.ofNat (128+n / 4096 % 64),UInt8.ofNat (128+n / 64 % 64),UInt8.ofNat (128+n % 64)]⟩:ByteArray)++post=S at *
    have t0:(S.get! pre.size).toNat=240+n / 262144:=by rw [g0];show (UInt8.ofNat (240+n / 262144)).toNat=_;exact ofNat_toNat (by omega)
    have t1:(S.get! (pre.size+1)).toNat=128+n / 4096 % 64:=by rw [g1];show (UInt8.ofNat (128+n / 4096 % 64)).toNat=_;exact ofNat_toNat (by omega)
    have t2:(S.get! (pre.size+2)).toNat=128+n / 64 % 64:=by rw [g2];show (UInt8.ofNat (128+n / 64 % 64)).toNat=_;exact ofNat_toNat (by omega)
    have t3:(S.get! (pre.size+3)).toNat=128+n % 64:=by rw [g3];show (UInt8.ofNat (128+n % 64)).toNat=_;exact ofNat_toNat (by omega)
    have ev:(240+n / 262144) % 8*262144+(128+n / 4096 % 64) % 64*4096+(128+n / 64 % 64) % 64*64+(128+n % 64) % 64=n:=by omega
    unfold Utf8.decode
    simp only [Nat.add_zero,t0,t1,t2,t3,s1,s2,s3,decide_true,Bool.true_and,Bool.and_eq_true,beq_iff_eq,ev,hv,decide_eq_true_eq,and_true,ge_iff_le]
    rw [if_neg (by omega),if_neg (by omega),if_neg (by omega),if_pos (by omega),if_pos (by omega)]
    rfl
theorem l8 (c:Int) (l:List Int):runesBytes (c::l)=Utf8.encode c++runesBytes l:=by
 have key:∀ (l:List Int) (s:ByteArray),l.foldl (fun r n=>r++Utf8.encode n) s=s++l.foldl (fun r n=>r++Utf8.encode n) ByteArray.empty:=by
  intro l
  induction l with
  | nil=>intro s;simp
  | cons d l ih=>
   intro s
   rw [List.foldl_cons,List.foldl_cons,ih,ih (ByteArray.empty++Utf8.encode d)]
   simp [ByteArray.append_assoc]
 unfold runesBytes
 rw [List.foldl_cons,key]
 simp
theorem yP (c:Int):1<=(Utf8.encode c).size:=by
 unfold Utf8.encode
 simp only
 repeat' split
 all_goals simp [ByteArray.size]
theorem qo:∀ (ns:List Int) (pre:ByteArray) (bound:Nat) (acc:Array Value),(∀ c∈ns,aC c=true)->(runesBytes ns).size<=bound ->
  Conv.runesFrom (pre++runesBytes ns) bound pre.size acc=acc++(ns.map (Value.int .i32)).toArray
 | [],pre,bound,acc,_,_=>by
  have e:runesBytes []=ByteArray.empty:=rfl
  rw [e,ByteArray.append_empty]
  cases bound with
  | zero=>simp [Conv.runesFrom]
  | succ b=>rw [Conv.runesFrom,if_neg (by omega)];simp
 | c::ns,pre,bound,acc,hs,hb=>by
  have hp:=yP c
  rw [l8,ByteArray.size_append] at hb
  cases bound with
  | zero=>omega
  | succ b=>
   have hd:=encode_decode c (hs c (List.mem_cons_self ..)) pre (runesBytes ns)
   rw [Conv.runesFrom,l8,<-ByteArray.append_assoc,if_pos (by rw [ByteArray.size_append,ByteArray.size_append];omega),hd]
   simp only []
   have ih:=qo ns (pre++Utf8.encode c) b (acc.push (.int .i32 (Int.ofNat c.toNat))) (fun d h=>hs d (List.mem_cons_of_mem _ h)) (by omega)
   rw [ByteArray.size_append] at ih
   rw [ih]
   have hc0:=(az.1 (hs c (List.mem_cons_self ..))).1
   have:Int.ofNat c.toNat=c:=Int.toNat_of_nonneg hc0
   rw [this]
   simp
theorem uk {l:ah} (h:∀ p∈l,jE p):Conv.runesFrom (encS l) (encS l).size 0 #[]=((bG l).map (Value.int .i32)).toArray:=by
 have hs:∀ c∈bG l,aC c=true:=by
  intro c hc
  induction l with
  | nil=>simp [bG] at hc
  | cons x l ih=>
   simp only [bG,List.mem_cons] at hc
   have hx:=h x (List.mem_cons_self ..)
   rcases hc with rfl | rfl | hc
   ·exact hx.1
   ·exact hx.2.1
   ·exact ih (fun p hp=>h p (List.mem_cons_of_mem _ hp)) hc
 have:=qo (bG l) ByteArray.empty (encS l).size #[] hs (Nat.le_refl _)
 simpa [encS] using this
theorem bC:∀ {m:Int} {l:ah},eP m l->∀ p∈l,jE p
 | _,[],_=>by simp
 | _,x::l,h=>by
  intro p hp
  rcases List.mem_cons.1 hp with rfl | hp
  ·exact ⟨h.2.1,h.2.2.1,h.2.2.2.1⟩
  ·exact bC h.2.2.2.2 p hp
def yQ (c:Int):Int:=if c=57344 then 55295 else c - 1
def kX (low:Int):ah->ah
 | []=>if low<=1114111 then [(low,1114111)] else []
 | p::l=>(if low<p.1 then [(low,yQ p.1)] else [])++kX (ko p.2) l
def R7 (low:Int):Prop:=aC low=true\/low=1114112
theorem WL {h:Int} (hh:aC h=true):R7 (ko h):=by
 unfold R7
 rw [az] at *
 unfold ko
 split<;>omega
theorem R8 {m:Int} {l:ah} (h:eP m l) {q:Int×Int} (hq:q∈l):dn l q.1=true:=by
 have hg:=bC h q hq
 unfold dn
 rw [List.any_eq_true]
 exact ⟨q,hq,by simp [hg.2.2]⟩
theorem wU:∀ (l:ah) (m low:Int),eP m l->R7 low->(∀ p∈l,low<=p.1)->(∀ p∈kX low l,jE p/\low<=p.1)/\∀ c,aC c=true->(dn (kX low l) c=(decide (low<=c)&&!dn l c))
 | [],_,low,_,hlow,_=>by
  rw [kX]
  split
  ·rename_i h
   have hs:aC low=true:=by
    rcases hlow with h1 | h1
    ·exact h1
    ·omega
   refine ⟨fun p hp=>by simp at hp;subst hp;exact ⟨⟨hs,(show aC 1114111=true by decide),h⟩,Int.le_refl _⟩,fun c hc=>?_⟩
   have:=az.1 hc
   rw [gX,fe]
   simp;omega
  ·refine ⟨by simp,fun c hc=>?_⟩
   have:=az.1 hc
   rw [fe]
   simp;omega
 | p::l,m,low,ht,hlow,hle=>by
  have hp1:=hle p (List.mem_cons_self ..)
  have s1:=az.1 ht.2.1
  have s2:=az.1 ht.2.2.1
  have hab:p.2<ko p.2:=by unfold ko;split<;>omega
  have hr:∀ q∈l,ko p.2<=q.1:=by
   intro q hq
   have:=ht.2.2.2.2.ge (R8 ht.2.2.2.2 hq)
   omega
  obtain ⟨g1,g2⟩:=wU l (ko p.2) (ko p.2) ht.2.2.2.2 (WL ht.2.2.1) hr
  have YK:aC low=true:=by
   rcases hlow with h | h
   ·exact h
   ·omega
  have sl:=az.1 YK
  have hbel:low<p.1->aC (yQ p.1)=true/\low<=yQ p.1:=by
   intro h
   rw [az]
   unfold yQ
   split<;>omega
  rw [kX]
  constructor
  ·intro q hq
   rcases List.mem_append.1 hq with hq | hq
   ·split at hq
    ·rename_i h
     simp at hq;subst hq
     exact ⟨⟨YK,(hbel h).1,(hbel h).2⟩,Int.le_refl _⟩
    ·simp at hq
   ·have:=g1 q hq
    exact ⟨this.1,by have:=this.2;have:=ht.2.2.2.1;omega⟩
  ·intro c hc
   have sc:=az.1 hc
   rw [kW,g2 c hc,gX]
   have abb:p.2<c->ko p.2<=c:=by intro h;unfold ko;split<;>omega
   have hpp:=ht.2.2.2.1
   have hno:c<=p.2->dn l c=false:=by
    intro h
    cases hb:dn l c with
    | false=>rfl
    | true=>have:=ht.2.2.2.2.ge hb;omega
   by_cases h1:low<p.1
   ·rw [if_pos h1,gX,fe]
    have hb:c<p.1↔c<=yQ p.1:=by unfold yQ;split<;>omega
    by_cases h2:c<p.1
    ·rw [hno (by omega)]
     have h4:¬ ko p.2<=c:=by omega
     have h5:¬ p.1<=c:=by omega
     simp [h4,h5,<-hb,h2]
    ·by_cases h3:c<=p.2
     ·rw [hno h3]
      have h4:¬ ko p.2<=c:=by omega
      have h5:p.1<=c:=by omega
      simp [h4,h5,h3,<-hb,h2]
     ·have h4:=abb (by omega)
      have h5:low<=c:=by omega
      simp [h4,h5,h3,<-hb,h2]
   ·rw [if_neg h1,fe]
    by_cases h3:c<=p.2
    ·rw [hno h3]
     have h4:¬ ko p.2<=c:=by omega
     by_cases h5:p.1<=c
     ·simp [h4,h5,h3]
     ·have h6:¬ low<=c:=by omega
      simp [h4,h5,h6]
    ·have h4:=abb (by omega)
     have h5:low<=c:=by omega
     simp [h4,h5,h3]
theorem Dq {l:ah} (h:Tidy l):∀ p∈kX 0 l,jE p:=fun p hp=>
 ((wU l (-1) 0 h (.inl (by decide)) (fun q hq=>(az.1 (bC h q hq).1).1)).1 p hp).1
theorem KO {l:ah} (h:Tidy l):iQ (kX 0 l)=fI l:=by
 have hs:=wU l (-1) 0 h (.inl (by decide)) (fun q hq=>(az.1 (bC h q hq).1).1)
 have hp:=lL (Dq h)
 refine iP (iR hp) (dC h.pos) fun c hc=>?_
 rw [oV hp hc,hs.2 c hc,kr h.pos hc]
 have:=az.1 hc
 simp [this.1]
theorem GR:∀ (l:ah) (low:Int),(kX low l).length<=l.length+1
 | [],low=>by rw [kX];split<;>simp
 | p::l,low=>by
  have:=GR l (ko p.2)
  rw [kX,List.length_append,List.length_cons]
  split<;>simp<;>omega
def gT (a:ah×Int) (p:Int×Int):ah×Int:=(a.1++(if a.2<p.1 then [(a.2,yQ p.1)] else []),ko p.2)
def aU (l:ah):ah×Int:=l.foldl gT ([],0)
theorem vg (l:ah) (p:Int×Int):aU (l++[p])=gT (aU l) p:=by
 unfold aU
 rw [List.foldl_append];rfl
theorem z8:∀ (l:ah) (a:ah) (low:Int),a++kX low l=(l.foldl gT (a,low)).1++(if (l.foldl gT (a,low)).2<=1114111 then [((l.foldl gT (a,low)).2,1114111)] else [])
 | [],a,low=>rfl
 | p::l,a,low=>by
  have ih:=z8 l (a++(if low<p.1 then [(low,yQ p.1)] else [])) (ko p.2)
  rw [kX,<-List.append_assoc]
  exact ih
theorem GU (l:ah):kX 0 l=(aU l).1++(if (aU l).2<=1114111 then [((aU l).2,1114111)] else []):=z8 l [] 0
end Go.Proofs.YtfolanohokflkaaGreatDoor
namespace Go.Proofs
open Go.Shelf
def Tryz.KQ:Go.Shelf.Ren:=⟨fun | 6=>269 | 15=>230 | 14=>290 | 28=>267 | 29=>255 | 20=>309 | 21=>310 | 22=>311 | 23=>312 | 24=>313 | 25=>314 | 26=>315 | 27=>316 | 46=>324 | 47=>285 | 48=>286 | 49=>325 | 50=>326 | 57=>336 | n=>n,fun | 22=>237 | 24=>248 | 25=>295 | 3=>3 | 39=>99 | 0=>0 | 53=>304 | 55=>278 | 4=>4 | 46=>308 | 45=>307 | 50=>69 | 5=>5 | 9=>9 | 66=>326 | 70=>330 | 76=>344 | 77=>141 | n=>n,fun | n=>n⟩
theorem Tryz.E5:Go.Proofs.SlLaysF0.n6 Tryz.prog Tryz.KQ:={
 mixed:=by kernel_rfl
 f6:=⟨ "slices.SortFunc[[]motif/motif.piece,motif/motif.piece]",by decide,Tryz.func269.trans (congrArg some (by kernel_rfl))⟩
 f14:=⟨ "slices.pdqsortCmpFunc[motif/motif.piece]",by decide,Tryz.func290.trans (congrArg some (by kernel_rfl))⟩
 f15:=Tryz.func230.trans (congrArg some (by kernel_rfl))
 f20:=⟨ "slices.insertionSortCmpFunc[motif/motif.piece]",by decide,Tryz.func309.trans (congrArg some (by kernel_rfl))⟩
 f21:=⟨ "slices.heapSortCmpFunc[motif/motif.piece]",by decide,Tryz.func310.trans (congrArg some (by kernel_rfl))⟩
 f22:=⟨ "slices.breakPatternsCmpFunc[motif/motif.piece]",by decide,Tryz.func311.trans (congrArg some (by kernel_rfl))⟩
 f23:=⟨ "slices.choosePivotCmpFunc[motif/motif.piece]",by decide,Tryz.func312.trans (congrArg some (by kernel_rfl))⟩
 f24:=⟨ "slices.reverseRangeCmpFunc[motif/motif.piece]",by decide,Tryz.func313.trans (congrArg some (by kernel_rfl))⟩
 f25:=⟨ "slices.partialInsertionSortCmpFunc[motif/motif.piece]",by decide,Tryz.func314.trans (congrArg some (by kernel_rfl))⟩
 f26:=⟨ "slices.partitionEqualCmpFunc[motif/motif.piece]",by decide,Tryz.func315.trans (congrArg some (by kernel_rfl))⟩
 f27:=⟨ "slices.partitionCmpFunc[motif/motif.piece]",by decide,Tryz.func316.trans (congrArg some (by kernel_rfl))⟩
 f28:=Tryz.func267.trans (congrArg some (by kernel_rfl))
 f29:=Tryz.func255.trans (congrArg some (by kernel_rfl))
 f46:=⟨ "slices.siftDownCmpFunc[motif/motif.piece]",by decide,Tryz.func324.trans (congrArg some (by kernel_rfl))⟩
 f47:=Tryz.func285.trans (congrArg some (by kernel_rfl))
 f48:=Tryz.func286.trans (congrArg some (by kernel_rfl))
 f49:=⟨ "slices.medianAdjacentCmpFunc[motif/motif.piece]",by decide,Tryz.func325.trans (congrArg some (by kernel_rfl))⟩
 f50:=⟨ "slices.medianCmpFunc[motif/motif.piece]",by decide,Tryz.func326.trans (congrArg some (by kernel_rfl))⟩
 f57:=⟨ "slices.order2CmpFunc[motif/motif.piece]",by decide,Tryz.func336.trans (congrArg some (by kernel_rfl))⟩
 t0:=Tryz.underlying0
 a0:=Tryz.isAgg0
 z0:=Tryz.sizeOf0
 v0:=Tryz.zeroValue0
 t3:=Tryz.underlying3
 a3:=Tryz.isAgg3
 z3:=Tryz.sizeOf3
 v3:=Tryz.zeroValue3
 t4:=Tryz.underlying4
 a4:=Tryz.isAgg4
 z4:=Tryz.sizeOf4
 v4:=Tryz.zeroValue4
 t5:=Tryz.underlying5
 a5:=Tryz.isAgg5
 z5:=Tryz.sizeOf5
 v5:=Tryz.zeroValue5
 t9:=Tryz.underlying9
 a9:=Tryz.isAgg9
 z9:=Tryz.sizeOf9
 v9:=Tryz.zeroValue9
 t22:=Tryz.underlying237
 a22:=Tryz.isAgg237
 z22:=Tryz.sizeOf237
 v22:=Tryz.zeroValue237
 t25:=Tryz.underlying295
 a25:=Tryz.isAgg295
 z25:=Tryz.sizeOf295
 v25:=Tryz.zeroValue295
 t39:=Tryz.underlying99
 a39:=Tryz.isAgg99
 z39:=Tryz.sizeOf99
 v39:=Tryz.zeroValue99
 t45:=Tryz.underlying307
 a45:=Tryz.isAgg307
 z45:=Tryz.sizeOf307
 v45:=Tryz.zeroValue307
 t46:=Tryz.underlying308
 a46:=Tryz.isAgg308
 z46:=Tryz.sizeOf308
 v46:=Tryz.zeroValue308
 t50:=Tryz.underlying69
 a50:=Tryz.isAgg69
 z50:=Tryz.sizeOf69
 v50:=Tryz.zeroValue69
 t53:=Tryz.underlying304
 a53:=Tryz.isAgg304
 z53:=Tryz.sizeOf304
 v53:=Tryz.zeroValue304
 t55:=Tryz.underlying278
 a55:=Tryz.isAgg278
 z55:=Tryz.sizeOf278
 v55:=Tryz.zeroValue278
 t66:=Tryz.underlying326
 a66:=Tryz.isAgg326
 z66:=Tryz.sizeOf326
 v66:=Tryz.zeroValue326
 t70:=Tryz.underlying330
 a70:=Tryz.isAgg330
 z70:=Tryz.sizeOf330
 v70:=Tryz.zeroValue330
 t76:=Tryz.underlying344
 a76:=Tryz.isAgg344
 z76:=Tryz.sizeOf344
 v76:=Tryz.zeroValue344
 t77:=Tryz.underlying141
 a77:=Tryz.isAgg141
 z77:=Tryz.sizeOf141
 v77:=Tryz.zeroValue141 }
end Go.Proofs
