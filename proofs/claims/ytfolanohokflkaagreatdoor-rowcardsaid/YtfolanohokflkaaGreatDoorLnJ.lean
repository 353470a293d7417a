import Derived.Test.YtfolanohokflkaaGreatDoorLnE
namespace Go.Proofs.YtfolanohokflkaaGreatDoor
open Tm (eps)
def Ln (t:Tm) (w:List Int) (y:Tm):Prop:=∃ h z v,dW t eps h z/\v <:+ w/\y=au (aI h v) z/\bL (aI h v)=false/\aI h v≠eps
def Ph (t:Tm) (w:List Int) (y:Tm):Prop:=∃ h z v,dW t eps h z/\v <:+ w/\y=au (aI h v) z/\bL (aI h v)=false/\aI h v≠eps/\(eP h<eP t\/(h=t/\oW t=true/\v=[]))
theorem jq (t:Tm) (w:List Int) (c:Int):aI t (w++[c])=aG c (aI t w):=by simp [aI]
theorem Ph.up {t h z y:Tm} {v w:List Int} (p:dW t eps h z) (ht:Cn t) (hs:eP h<eP t) (hl:Ln h v y) (hv:v <:+ w):Ph t w (au y z):=by
 obtain ⟨h2,z2,v2,p2,hv2,rfl,hc,he⟩:=hl
 have hh:=p.cn ht trivial
 have h2c:=p2.cn hh.1 trivial
 refine ⟨h2,au z2 z,v2,p.comp ht p2,hv2.trans hv,qC _ _ _ (gm v2 h2c.1) h2c.2,hc,he,.inl ?_⟩
 have:=p2.sz
 omega
theorem Ph.ln {t y:Tm} {w:List Int} (h:Ph t w y):Ln t w y:=by
 obtain ⟨h,z,v,p,hv,e,hc,he,_⟩:=h
 exact ⟨h,z,v,p,hv,e,hc,he⟩
theorem kU:∀ {u z:Tm},Cn u->bL u=true->z≠aF->bL (au u z)=true:=by
 intro u z hu hc hz
 cases u with
 | chain a b=>
  obtain ⟨_,hb,hac,MM,hae,hbv,hbe⟩:=hu
  by_cases iy:z=eps
  ·rw [iy,ai];rfl
  ·rw [au,if_neg hz,if_neg iy,bE hac MM hae (fun e=>(oJ hb e).elim hbv hz) (fun e=>hbe (BV hb e).1)]
   rfl
 | _=>cases hc
theorem lI {k:Bool} {x m:Tm} (h:bL x=true) (hm:m∈memT k x):m=x:=by
 cases x with
 | chain a b=>simpa [memT] using hm
 | _=>cases h
theorem p9 {k:Bool} {x m:Tm} (h:cZ x=true) (hm:m∈memT k x):cZ m=true:=by
 rw [bu (mh h)] at hm
 simp at hm;subst hm
 exact h
section
variable {t:Tm} (ht:Cn t) (IH:∀ h,eP h<eP t->Cn h->∀ v,dU v->∀ y,qY (aI h v) y->cZ y=true\/Ln h v y)
include ht IH
theorem abP {h0 z:Tm} (p0:dW t eps h0 z) {w:List Int} {m:Tm} (hm:m∈memT false z):cZ m=true\/Ph t w m:=by
 rcases (p0.follow ht trivial (by simp)).2 with rfl | ⟨b,z1,p,rfl,hc,he,hv,hz1,hs⟩
 ·exact .inl (p9 rfl hm)
 ·by_cases iy:z1=eps
  ·subst iy
   rw [ai] at hm
   rcases hs with hs | ⟨rfl,hst⟩
   ·rcases IH b hs (p.cn ht trivial).1 [] (fun _ h=>by simp at h) m (qY.member hm) with h | h
    ·exact .inl h
    ·have:=Ph.up p ht hs h (List.nil_suffix (l:=w))
     rw [ai] at this
     exact .inr this
   ·cases b with
    | star a=>
     have:m=.star a:=by simpa [memT] using hm
     subst this
     exact .inr ⟨.star a,eps,[],p,List.nil_suffix,(ai _).symm,rfl,by simp [aI],.inr ⟨rfl,rfl,rfl⟩⟩
    | _=>cases hst
  ·rw [bE hc hv he hz1 iy] at hm
   have e:=lI rfl hm
   subst e
   exact .inr ⟨b,z1,[],p,List.nil_suffix,(bE hc hv he hz1 iy).symm,hc,he,hs.imp id (fun q=>⟨q.1,q.2,rfl⟩)⟩
theorem abQ {h z:Tm} (p:dW t eps h z) (hs:eP h<eP t) {v w:List Int} (hv:v <:+ w) (hw:dU w) {m:Tm} (hm:m∈memT false (au (aI h v) z)):cZ m=true\/Ph t w m:=by
 have hh:=p.cn ht trivial
 have hX:=gm v hh.1
 have hz:=(p.follow ht trivial (by simp)).1
 have hsv:dU v:=fun c hc=>hw c (hv.subset hc)
 have hQ:=IH h hs hh.1 v hsv
 by_cases uF:aI h v=aF
 ·rw [uF,aQ] at hm
  exact .inl (p9 rfl hm)
 by_cases RX:aI h v=eps
 ·rw [RX,bA] at hm
  exact abP ht IH p hm
 cases M7:bL (aI h v) with
 | true=>
  have e:=lI (kU hX M7 hz) hm
  subst e
  rcases hQ _ (.self _) with q | q
  ·cases hx:aI h v<;>rw [hx] at M7 q<;>simp [bL] at M7;simp [cZ] at q
  ·exact .inr (Ph.up p ht hs q hv)
 | false=>
  by_cases iy:z=eps
  ·subst iy
   rw [ai] at hm
   rcases hQ m (qY.member hm) with q | q
   ·exact .inl q
   ·have:=Ph.up p ht hs q hv
    rw [ai] at this
    exact .inr this
  ·rw [bE M7 uF RX hz iy] at hm
   have e:=lI rfl hm
   subst e
   exact .inr ⟨h,z,v,p,hv,(bE M7 uF RX hz iy).symm,M7,RX,.inl hs⟩
theorem Vf {c:Int} {w:List Int} (hw:dU (w++[c])):∀ (n:Nat) {h z:Tm} {v:List Int},eP z<=n->dW t eps h z->(eP h<eP t\/(h=t/\oW t=true/\v=[]))->v <:+ w->bL (aI h v)=false->aI h v≠eps ->
  ∀ {m:Tm},m∈memT false (aG c (au (aI h v) z))->cZ m=true\/Ph t (w++[c]) m:=by
 have base:∀ {h:Tm} {v:List Int},dW t eps h eps->(eP h<eP t\/(h=t/\oW t=true/\v=[]))->v <:+ w->∀ {m:Tm},m∈memT false (aG c (aI h v))->cZ m=true\/Ph t (w++[c]) m:=by
  intro h v p hs hv m hm
  rcases hs with hs | ⟨rfl,hst,rfl⟩
  ·rw [<-jq,<-ai (aI h (v++[c]))] at hm
   obtain ⟨q,rfl⟩:=hv
   exact abQ ht IH p hs ⟨q,by simp⟩ hw hm
  ·cases h with
   | star a=>
    have hm':m∈memT false (au (aI a [c]) (au (.star a) eps)):=by rw [ai];exact hm
    exact abQ ht IH (.star (.here _ _)) (by simp only [eP];omega) ⟨w,rfl⟩ hw hm'
   | _=>cases hst
 intro n
 induction n with
 | zero=>intro h z v hz;cases z<;>simp [eP] at hz
 | succ n ihn=>
  intro h z v hn p hs hv hc he m hm
  have hh:=p.cn ht trivial
  have hX:=gm v hh.1
  by_cases uF:aI h v=aF
  ·rw [uF,aQ] at hm
   exact .inl (p9 rfl hm)
  by_cases iy:z=eps
  ·subst iy
   rw [ai] at hm
   exact base p hs hv hm
  have hsl:eP h<eP t:=by
   rcases hs with hs | ⟨rfl,_⟩
   ·exact hs
   ·exact absurd (p.same (Nat.le_refl _)).2 iy
  obtain ⟨hz,M8⟩:=p.follow ht trivial (by simp)
  rw [bE hc uF he hz iy,fu,<-jq] at hm
  have Yg:v++[c] <:+ w++[c]:=by obtain ⟨q,rfl⟩:=hv;exact ⟨q,by simp⟩
  have hU:∀ m∈memT false (au (aI h (v++[c])) z),cZ m=true\/Ph t (w++[c]) m:=fun m hm=>abQ ht IH p hsl Yg hw hm
  split at hm
  ·rcases pY (fun q hq=>by
    simp only [List.mem_cons,List.not_mem_nil,or_false] at hq
    rcases hq with rfl | rfl
    ·exact fD _ _ (gm _ hh.1) hh.2
    ·exact (gu c hh.2).1) hm with q | ⟨q,hq,Yh⟩
   ·exact .inl q
   ·simp only [List.mem_cons,List.not_mem_nil,or_false] at hq
    rcases hq with rfl | rfl
    ·exact hU m Yh
    ·rcases M8 with rfl | ⟨b,z1,p1,rfl,hbc,hbe,hbv,hz1,hbs⟩
     ·exact absurd rfl iy
     ·by_cases Vg:z1=eps
      ·subst Vg
       rw [ai] at Yh
       exact base (v:=[]) p1 (hbs.imp id (fun q=>⟨q.1,q.2,rfl⟩)) List.nil_suffix Yh
      ·refine ihn (h:=b) (z:=z1) (v:=[]) ?_ p1 (hbs.imp id (fun q=>⟨q.1,q.2,rfl⟩)) List.nil_suffix hbc hbe Yh
       rw [bE hbc hbv hbe hz1 Vg] at hn
       simp only [eP] at hn
       omega
  ·exact hU m hm
theorem ads {w:List Int} (hw:dU w):∀ (n:Nat) {h z:Tm} {v:List Int},eP z<=n->dW t eps h z->(eP h<eP t\/(h=t/\oW t=true/\v=[]))->v <:+ w->bL (aI h v)=false->aI h v≠eps ->
  ∀ {y:Tm},qY (au (aI h v) z) y->cZ y=true\/Ln t w y:=by
 have base:∀ {h:Tm} {v:List Int},dW t eps h eps->(eP h<eP t\/(h=t/\oW t=true/\v=[]))->v <:+ w->∀ {y:Tm},qY (aI h v) y->cZ y=true\/Ln t w y:=by
  intro h v p hs hv y hy
  rcases hs with hs | ⟨rfl,hst,rfl⟩
  ·rcases IH h hs (p.cn ht trivial).1 v (fun c hc=>hw c (hv.subset hc)) y hy with q | q
   ·exact .inl q
   ·have:=(Ph.up p ht hs q hv).ln
    rw [ai] at this
    exact .inr this
  ·cases h with
   | star a=>
    cases hy with
    | self=>exact .inr ⟨.star a,eps,[],p,List.nil_suffix,(ai _).symm,rfl,by simp [aI]⟩
   | _=>cases hst
 intro n
 induction n with
 | zero=>intro h z v hz;cases z<;>simp [eP] at hz
 | succ n ihn=>
  intro h z v hn p hs hv hc he y hy
  by_cases uF:aI h v=aF
  ·rw [uF,aQ] at hy
   exact .inl (nV rfl hy)
  by_cases iy:z=eps
  ·subst iy
   rw [ai] at hy
   exact base p hs hv hy
  obtain ⟨hz,M8⟩:=p.follow ht trivial (by simp)
  rw [bE hc uF he hz iy] at hy
  cases hy with
  | self=>exact .inr ⟨h,z,v,p,hv,(bE hc uF he hz iy).symm,hc,he⟩
  | next _ hy=>
   rcases M8 with rfl | ⟨b,z1,p1,rfl,hbc,hbe,hbv,hz1,hbs⟩
   ·exact absurd rfl iy
   ·by_cases Vg:z1=eps
    ·subst Vg
     rw [ai] at hy
     exact base (v:=[]) p1 (hbs.imp id (fun q=>⟨q.1,q.2,rfl⟩)) List.nil_suffix hy
    ·refine ihn (h:=b) (z:=z1) (v:=[]) ?_ p1 (hbs.imp id (fun q=>⟨q.1,q.2,rfl⟩)) List.nil_suffix hbc hbe hy
     rw [bE hbc hbv hbe hz1 Vg] at hn
     simp only [eP] at hn
     omega
theorem aeB (Vh:bL t=true\/oW t=true):∀ (n:Nat) (w:List Int),w.length=n->dU w->∀ m∈memT false (aI t w),cZ m=true\/Ph t w m:=by
 intro n
 induction n with
 | zero=>
  intro w hn _ m hm
  obtain rfl:w=[]:=List.length_eq_zero_iff.1 hn
  cases t with
  | chain a b=>
   have e:m=.chain a b:=by simpa [memT,aI] using hm
   subst e
   obtain ⟨_,_,hac,MM,hae,hbv,hbe⟩:=ht
   exact .inr ⟨a,au b eps,[],.left (.here _ _),List.nil_suffix,by rw [ai];exact (bE hac MM hae hbv hbe).symm,hac,hae,.inl (by simp only [eP];omega)⟩
  | star a=>
   have e:m=.star a:=by simpa [memT,aI] using hm
   subst e
   exact .inr ⟨.star a,eps,[],.here _ _,List.nil_suffix,(ai _).symm,rfl,by simp [aI],.inr ⟨rfl,rfl,rfl⟩⟩
  | _=>rcases Vh with h | h<;>cases h
 | succ n ih=>
  intro w hn hw m hm
  obtain ⟨u,c,rfl⟩:∃ u c,w=u++[c]:=⟨w.dropLast,w.getLast (by intro e;subst e;cases hn),(List.dropLast_concat_getLast _).symm⟩
  have hu:u.length=n:=by simpa using hn
  rw [jq] at hm
  rcases Zj (gm u ht) hm with q | ⟨m0,hm0,hm⟩
  ·exact .inl q
  ·rcases ih u hu hw.left m0 hm0 with q | ⟨h,z,v,p,hv,rfl,hc,he,hs⟩
   ·exact .inl (p9 (wR q) hm)
   ·exact Vf ht IH hw _ (Nat.le_refl _) p hs hv hc he hm
theorem aa6 (Vh:bL t=true\/oW t=true) {w:List Int} (hw:dU w) {y:Tm} (h:qY (aI t w) y):cZ y=true\/Ln t w y:=by
 have hm:=aeB ht IH Vh _ w rfl hw
 have hx:=gm w ht
 rcases ja false (aI t w) with ⟨a,b,e⟩ | hn
 ·rw [e] at h hm
  cases h with
  | self=>exact .inr ⟨t,eps,w,.here _ _,List.suffix_refl _,by rw [e,ai],by rw [e];rfl,by rw [e];simp⟩
  | mem hmm hy=>
   rcases hm _ hmm with q | ⟨h,z,v,p,hv,rfl,hc,he,hs⟩
   ·exact .inl (nV q hy)
   ·exact ads ht IH hw _ (Nat.le_refl _) p hs hv hc he hy
 ·rw [bu hn] at hm
  rcases hm _ (List.mem_cons_self ..) with q | ⟨h',z,v,p,hv,e,hc,he,hs⟩
  ·exact .inl (nV q h)
  ·rw [e] at h
   exact ads ht IH hw _ (Nat.le_refl _) p hs hv hc he h
end
end Go.Proofs.YtfolanohokflkaaGreatDoor
namespace Go.Proofs.YtfolanohokflkaaGreatDoor
open Tm (eps)
theorem JD:∀ (w:List Int) {x:Tm},Cn x->aI (jO x) w=jO (aI x w)
 | [],_,_=>rfl
 | c::w,x,h=>by
  show aI (aG c (jO x)) w=jO (aI (aG c x) w)
  rw [Zm h,JD w (gu c h).1]
theorem BX {k:Bool}:∀ (w:List Int) {l:List Tm},(∀ t∈l,Cn t)->dU w->aI (aj k l) w=aj k (l.map fun t=>aI t w)
 | [],l,_,_=>by simp [aI]
 | c::w,l,h,hw=>by
  show aI (aG c (aj k l)) w=aj k (l.map fun t=>aI (aG c t) w)
  rw [RU (hw c (List.mem_cons_self ..)) h,BX w (nW h) (fun d hd=>hw d (List.mem_cons_of_mem _ hd)),List.map_map]
  rfl
theorem D6 {k:Bool} {t:Tm} (h:Cn t):aj k (memT k t)=t:=by
 have hm:∀ m∈memT k t,Cn m:=fun m hm=>(h.members m hm).1
 have e:(memT k t).flatMap (memT k)=memT k t:=by
  have:∀ l:List Tm,(∀ m∈l,dK k m=true)->l.flatMap (memT k)=l:=by
   intro l
   induction l with
   | nil=>intro _;rfl
   | cons a r ih=>intro h;rw [List.flatMap_cons,bu (h a (List.mem_cons_self ..)),ih fun m hm=>h m (List.mem_cons_of_mem _ hm)];rfl
  exact this _ fun m hm=>(h.members m hm).2
 have e2:aj k (memT k t)=aj k [t]:=by
  unfold aj
  rw [e,List.flatMap_cons,List.flatMap_nil,List.append_nil]
 rw [e2,group_one' h]
theorem yj:∀ (w:List Int) {t:Tm},cZ t=true->cZ (aI t w)=true
 | [],_,h=>h
 | c::w,_,h=>yj w (wR (c:=c) h)
theorem Ln.inner {t a y:Tm} {w:List Int} (p:∀ h z,dW a eps h z->dW t eps h z) (h:Ln a w y):Ln t w y:=by
 obtain ⟨h,z,v,q,hv,e,hc,he⟩:=h
 exact ⟨h,z,v,p h z q,hv,e,hc,he⟩
theorem Ln.self {t:Tm} {w:List Int} (hc:bL (aI t w)=false) (he:aI t w≠eps):Ln t w (aI t w):=⟨t,eps,w,.here _ _,List.suffix_refl _,(ai _).symm,hc,he⟩
theorem lJ:∀ (n:Nat) {t:Tm},eP t<=n->Cn t->∀ w,dU w->∀ y,qY (aI t w) y->cZ y=true\/Ln t w y:=by
 intro n
 induction n with
 | zero=>intro t ht;cases t<;>simp [eP] at ht
 | succ n ih=>
  intro t hn ht w hw y hy
  have IH:∀ h,eP h<eP t->Cn h->∀ v,dU v->∀ y,qY (aI h v) y->cZ y=true\/Ln h v y:=fun h hs hh v hv y hy=>ih (by omega) hh v hv y hy
  cases t with
  | set l=>exact .inl (nV (yj w rfl) hy)
  | eps=>exact .inl (nV (yj w rfl) hy)
  | chain a b=>exact aa6 ht IH (.inl rfl) hw hy
  | star a=>exact aa6 ht IH (.inr rfl) hw hy
  | not a=>
   have ha:Cn a:=ht.1
   have e:aI (.not a) w=jO (aI a w):=by
    rw [<-JD w ha]
    congr 1
    have:=ht.2.1
    cases a<;>simp [O3] at this<;>rfl
   have hIa:=IH a (by simp only [eP];omega) ha w hw
   have up:∀ y,cZ y=true\/Ln a w y->cZ y=true\/Ln (.not a) w y:=fun y h=>h.imp id (Ln.inner fun _ _ q=>.neg q)
   rw [e] at hy
   rcases Zi hy with rfl | hy
   ·cases hc:bL (jO (aI a w)) with
    | false=>
     by_cases he:jO (aI a w)=eps
     ·rw [he];exact .inl rfl
     ·rw [<-e] at hc he ⊢
      exact .inr (Ln.self hc he)
    | true=>
     refine up _ (hIa _ ?_)
     cases hX:aI a w with
     | not q=>exact .neg (.self _)
     | _=>rw [hX] at hc;cases hc
   ·exact up _ (hIa y hy)
  | aW k a b=>
   have hm:∀ m∈memT k (.aW k a b),Cn m:=fun m hm=>(ht.members m hm).1
   have e:aI (.aW k a b) w=aj k ((memT k (.aW k a b)).map fun t=>aI t w):=by
    conv=>lhs;rw [<-D6 (k:=k) ht]
    exact BX w hm hw
   have hcn:∀ t∈(memT k (.aW k a b)).map (fun t=>aI t w),Cn t:=fun t ht'=>by
    obtain ⟨m,hm',rfl⟩:=List.mem_map.1 ht'
    exact gm w (hm m hm')
   have up:∀ m∈memT k (.aW k a b),∀ y,qY (aI m w) y->cZ y=true\/Ln (.aW k a b) w y:=fun m hm' y hy=>
    (IH m (vg hm') (hm m hm') w hw y hy).imp id (Ln.inner fun _ _ q=>.mem hm' q)
   rw [e] at hy
   rcases RQ hcn hy with rfl | q | ⟨d,hd,m,hmd,hy⟩
   ·cases hc:bL (aj k ((memT k (.aW k a b)).map fun t=>aI t w)) with
    | false=>
     by_cases he:aj k ((memT k (.aW k a b)).map fun t=>aI t w)=eps
     ·rw [he];exact .inl rfl
     ·rw [<-e] at hc he ⊢
      exact .inr (Ln.self hc he)
    | true=>
     rcases si (k:=k) hcn with q | ⟨d,hd,hx⟩ | ⟨a',b',e',_⟩
     ·exact .inl q
     ·obtain ⟨m,hm',rfl⟩:=List.mem_map.1 hd
      exact up m hm' _ (qY.member hx)
     ·rw [e'] at hc;cases hc
   ·exact .inl q
   ·obtain ⟨m0,hm0,rfl⟩:=List.mem_map.1 hd
    exact up m0 hm0 y ((qY.member hmd).trans hy)
inductive Ih:Tm->Tm->Prop where
 | top {x y:Tm}:qY x y->Ih x y
 | head {x a b y:Tm}:qY x (.chain a b)->Ih a y->Ih x y
 | star {x a y:Tm}:qY x (.star a)->Ih a y->Ih x y
end Go.Proofs.YtfolanohokflkaaGreatDoor
namespace Go.Proofs.YtfolanohokflkaaGreatDoor
open Tm (eps)
def dC:Tm->List Tm
 | .set _=>[]
 | .eps=>[]
 | .chain a b=>dC a++dC b
 | .star a=>a::dC a
 | .not a=>dC a
 | .aW _ a b=>dC a++dC b
theorem wT {x:Tm}:∀ (u z:Tm),x∈dC (au u z)->x∈dC u\/x∈dC z:=by
 intro u
 induction u with
 | chain a b iha ihb=>
  intro z h
  rw [au] at h
  split at h
  ·cases h
  split at h
  ·exact .inl h
  ·rcases iha _ h with h | h
   ·exact .inl (List.mem_append_left _ h)
   ·rcases ihb _ h with h | h
    ·exact .inl (List.mem_append_right _ h)
    ·exact .inr h
 | eps=>intro z h;rw [bA] at h;exact .inr h
 | set l=>
  intro z h
  rw [au] at h
  split at h
  ·cases h
  split at h
  ·exact .inl h
  ·exact .inr (by simpa [dC] using h)
 | _=>
  intro z h
  rw [au] at h
  split at h
  ·cases h
  split at h
  ·exact .inl h
  ·exact List.mem_append.1 h
theorem nA {k:Bool} {x:Tm}:∀ (t:Tm),(∃ m∈memT k t,x∈dC m)↔x∈dC t
 | t=>by
  rcases ja k t with ⟨a,b,rfl⟩ | hn
  ·rw [iq]
   have:=nA (k:=k) (x:=x) b
   simp only [List.mem_cons,exists_eq_or_imp,this,dC,List.mem_append]
  ·rw [bu hn]
   simp only [List.mem_cons,List.not_mem_nil,or_false,exists_eq_left]
   exact Iff.rfl
 termination_by t=>t
theorem za {k:Bool} {x:Tm} {l:List Tm} (hl:∀ t∈l,Cn t) (h:x∈dC (aj k l)):∃ d∈l,x∈dC d:=by
 obtain ⟨m,hm,hx⟩:=(nA (k:=k) _).2 h
 rcases pY hl hm with q | ⟨d,hd,hmd⟩
 ·cases m with
  | set _=>cases hx
  | eps=>cases hx
  | not a=>
   cases a with
   | set _=>cases hx
   | _=>simp [cZ] at q
  | _=>simp [cZ] at q
 ·exact ⟨d,hd,(nA d).1 ⟨m,hmd,hx⟩⟩
theorem RY {c:Int} {x:Tm}:∀ (n:Nat) {t:Tm},eP t<=n->Cn t->x∈dC (aG c t)->x∈dC t:=by
 intro n
 induction n with
 | zero=>intro t ht;cases t<;>simp [eP] at ht
 | succ n ih=>
  intro t hn ht h
  cases t with
  | set l=>rw [il] at h;split at h<;>cases h
  | eps=>cases h
  | chain a b=>
   simp only [eP] at hn
   have hu:x∈dC (au (aG c a) b)->x∈dC (.chain a b):=fun h=>by
    rcases wT _ _ h with h | h
    ·exact List.mem_append_left _ (ih (by omega) ht.1 h)
    ·exact List.mem_append_right _ h
   rw [fu] at h
   split at h
   ·obtain ⟨d,hd,hx⟩:=za (fun q hq=>by
     simp only [List.mem_cons,List.not_mem_nil,or_false] at hq
     rcases hq with rfl | rfl
     ·exact fD _ _ (gu c ht.1).1 ht.2.1
     ·exact (gu c ht.2.1).1) h
    simp only [List.mem_cons,List.not_mem_nil,or_false] at hd
    rcases hd with rfl | rfl
    ·exact hu hx
    ·exact List.mem_append_right _ (ih (by omega) ht.2.1 hx)
   ·exact hu h
  | star a=>
   simp only [eP] at hn
   rw [pU] at h
   rcases wT _ _ h with h | h
   ·exact List.mem_cons_of_mem _ (ih (by omega) ht.1 h)
   ·exact h
  | not a=>
   simp only [eP] at hn
   rw [rR] at h
   refine ih (t:=a) (by omega) ht.1 ?_
   cases hd:aG c a<;>rw [hd] at h<;>exact h
  | aW k a b=>
   rw [l9] at h
   have hm:∀ m∈memT k (.aW k a b),Cn m:=fun m hm=>(ht.members m hm).1
   obtain ⟨d,hd,hx⟩:=za (nW hm) h
   obtain ⟨m,hm',rfl⟩:=List.mem_map.1 hd
   have:=vg hm'
   exact (nA (k:=k) _).1 ⟨m,hm',ih (by omega) (hm m hm') hx⟩
theorem vk {x:Tm}:∀ (w:List Int) {t:Tm},Cn t->x∈dC (aI t w)->x∈dC t
 | [],_,_,h=>h
 | c::w,_,ht,h=>RY _ (Nat.le_refl _) ht (vk w (gu c ht).1 h)
theorem RZ {x y:Tm} (h:qY x y) {q:Tm} (hq:q∈dC y):q∈dC x:=by
 induction h with
 | self=>exact hq
 | neg _ ih=>exact ih hq
 | mem hm _ ih=>exact (nA _).1 ⟨_,hm,ih hq⟩
 | next _ _ ih=>exact List.mem_append_right _ (ih hq)
theorem JE {x:Tm}:∀ (n:Nat) {t:Tm},eP t<=n->∀ z,x∈dC t->∃ z',dW t z (.star x) z':=by
 intro n
 induction n with
 | zero=>intro t ht;cases t<;>simp [eP] at ht
 | succ n ih=>
  intro t hn z h
  cases t with
  | set _=>cases h
  | eps=>cases h
  | chain a b=>
   simp only [eP] at hn
   rcases List.mem_append.1 h with h | h
   ·exact (ih (by omega) _ h).imp fun _ p=>.left p
   ·exact (ih (by omega) _ h).imp fun _ p=>.right p (p.nc rfl)
  | star a=>
   simp only [eP] at hn
   rcases List.mem_cons.1 h with rfl | h
   ·exact ⟨z,.here _ _⟩
   ·exact (ih (by omega) _ h).imp fun _ p=>.star p
  | not a=>
   simp only [eP] at hn
   exact (ih (t:=a) (by omega) z h).imp fun _ p=>.neg p
  | aW k a b=>
   obtain ⟨m,hm,hx⟩:=(nA (k:=k) (.aW k a b)).2 h
   have:=vg hm
   exact (ih (by omega) z hx).imp fun _ p=>.mem hm p
theorem Ln.mono {t y:Tm} {v w:List Int} (h:Ln t v y) (hv:v <:+ w):Ln t w y:=by
 obtain ⟨h,z,u,p,hu,e,hc,he⟩:=h
 exact ⟨h,z,u,p,hu.trans hv,e,hc,he⟩
theorem E5:∀ (n:Nat) {t:Tm},eP t<=n->Cn t->∀ w,dU w->∀ y,Ih (aI t w) y->cZ y=true\/∃ s z,dW t eps s z/\Ln s w y:=by
 intro n
 induction n with
 | zero=>intro t ht;cases t<;>simp [eP] at ht
 | succ n ih=>
  intro t hn ht w hw y hy
  cases hy with
  | top h=>exact (lJ _ (Nat.le_refl _) ht w hw y h).imp id fun q=>⟨t,eps,.here _ _,q⟩
  | head h hv=>
   rcases lJ _ (Nat.le_refl _) ht w hw _ h with q | ⟨h,z,v,p,hvw,e,hc,he⟩
   ·simp [cZ] at q
   ·have hh:=p.cn ht trivial
    have hz:=(p.follow ht trivial (by simp)).1
    have iy:z≠eps:=by rintro rfl;rw [ai] at e;rw [<-e] at hc;cases hc
    have uF:aI h v≠aF:=by intro q;rw [q,aQ] at e;cases e
    rw [bE hc uF he hz iy] at e
    injection e with e1 e2
    rw [e1] at hv
    have hs:eP h<eP t:=Nat.lt_of_not_le fun q=>iy (p.same q).2
    rcases ih (by omega) hh.1 v (fun c hc=>hw c (hvw.subset hc)) y hv with q | ⟨s,z2,p2,q⟩
    ·exact .inl q
    ·exact .inr ⟨s,_,p.comp ht p2,q.mono hvw⟩
  | star h hv=>
   rename_i a
   have hx:a∈dC t:=vk w ht (RZ h (List.mem_cons_self ..))
   obtain ⟨z',p⟩:=JE _ (Nat.le_refl _) eps hx
   have pa:dW t eps a (au (.star a) z'):=p.trans (.star (.here _ _))
   have hs:eP a<eP t:=by have:=p.sz;simp only [eP] at this;omega
   rcases ih (t:=a) (by omega) (pa.cn ht trivial).1 [] (fun _ h=>by simp at h) y hv with q | ⟨s,z2,p2,q⟩
   ·exact .inl q
   ·exact .inr ⟨s,_,pa.comp ht p2,q.mono List.nil_suffix⟩
end Go.Proofs.YtfolanohokflkaaGreatDoor
namespace Go.Proofs.YtfolanohokflkaaGreatDoor
open Tm (eps)
def bJ:Tm->Nat
 | .set _=>0
 | .eps=>0
 | .chain a b=>bJ a+bJ b+1
 | .star a=>bJ a+1
 | .not a=>bJ a+1
 | .aW _ a b=>bJ a+bJ b+1
def hF:Bool->Option Bool->Tm->Nat
 | _,_,.set _=>0
 | _,_,.eps=>0
 | c,_,.chain a b=>max (hF false Option.none a) (hF true Option.none b)+(if c=true then 0 else 1)
 | _,_,.star a=>hF false Option.none a+1
 | _,_,.not a=>hF false Option.none a+1
 | _,m,.aW k a b=>max (hF false Option.none a) (hF false (some k) b)+(if m=some k then 0 else 1)
def iJ:Bool->Option Bool->Tm->Tm->List (Tm×Tm)
 | _,_,.set l,z=>[(.set l,z)]
 | _,_,.eps,z=>[(eps,z)]
 | c,_,.chain a b,z=>(if c=true then [] else [(.chain a b,z)])++(iJ false Option.none a (au b z)++iJ true Option.none b z)
 | _,_,.star a,z=>(.star a,z)::iJ false Option.none a (au (.star a) z)
 | _,_,.not a,z=>(.not a,z)::iJ false Option.none a z
 | _,m,.aW k a b,z=>(if m=some k then [] else [(.aW k a b,z)])++(iJ false Option.none a z++iJ false (some k) b z)
theorem kV:∀ (c:Bool) (m:Option Bool) (t z:Tm),(iJ c m t z).length<=2*bJ t+1
 | _,_,.set _,_=>by simp [iJ,bJ]
 | _,_,.eps,_=>by simp [iJ,bJ]
 | c,_,.chain a b,z=>by
  have h1:=kV false Option.none a (au b z)
  have h2:=kV true Option.none b z
  simp only [iJ,bJ,List.length_append]
  split<;>simp<;>omega
 | _,_,.star a,z=>by
  have h1:=kV false Option.none a (au (.star a) z)
  simp only [iJ,bJ,List.length_cons];omega
 | _,_,.not a,z=>by
  have h1:=kV false Option.none a z
  simp only [iJ,bJ,List.length_cons];omega
 | _,m,.aW k a b,z=>by
  have h1:=kV false Option.none a z
  have h2:=kV false (some k) b z
  simp only [iJ,bJ,List.length_append]
  split<;>simp<;>omega
def bC:List Nat->Nat
 | []=>0
 | x::r=>x+bC r
theorem kW (a b:List Nat):bC (a++b)=bC a+bC b:=by
 induction a with
 | nil=>simp [bC]
 | cons x a ih=>simp only [List.cons_append,bC,ih];omega
theorem two_mul {r p q x y:Nat} (h1:p<=r) (h2:q<=r):p*x+q*y<=r*(x+y):=by
 rw [Nat.mul_add]
 exact Nat.add_le_add (Nat.mul_le_mul_right _ h1) (Nat.mul_le_mul_right _ h2)
theorem nX:∀ (c:Bool) (m:Option Bool) (t z:Tm),bC ((iJ c m t z).map fun p=>bJ p.1)<=hF c m t*bJ t
 | _,_,.set _,_=>by simp [iJ,bJ,bC]
 | _,_,.eps,_=>by simp [iJ,bJ,bC]
 | c,_,.chain a b,z=>by
  have h1:=nX false Option.none a (au b z)
  have h2:=nX true Option.none b z
  have h3:=two_mul (x:=bJ a) (y:=bJ b) (Nat.le_max_left (hF false Option.none a) (hF true Option.none b)) (Nat.le_max_right _ _)
  simp only [iJ,hF,List.map_append,kW]
  generalize max (hF false Option.none a) (hF true Option.none b)=r at *
  have h4:r*(bJ a+bJ b)<=r*bJ (.chain a b):=Nat.mul_le_mul_left _ (by simp only [bJ];omega)
  split
  ·simp only [List.map_nil,bC,Nat.add_zero];omega
  ·simp only [List.map_cons,List.map_nil,bC,Nat.add_mul,Nat.one_mul];omega
 | _,_,.star a,z=>by
  have h1:=nX false Option.none a (au (.star a) z)
  simp only [iJ,hF,List.map_cons,bC,Nat.add_mul,Nat.one_mul]
  have h4:hF false Option.none a*bJ a<=hF false Option.none a*bJ (.star a):=Nat.mul_le_mul_left _ (by simp only [bJ];omega)
  omega
 | _,_,.not a,z=>by
  have h1:=nX false Option.none a z
  simp only [iJ,hF,List.map_cons,bC,Nat.add_mul,Nat.one_mul]
  have h4:hF false Option.none a*bJ a<=hF false Option.none a*bJ (.not a):=Nat.mul_le_mul_left _ (by simp only [bJ];omega)
  omega
 | _,m,.aW k a b,z=>by
  have h1:=nX false Option.none a z
  have h2:=nX false (some k) b z
  have h3:=two_mul (x:=bJ a) (y:=bJ b) (Nat.le_max_left (hF false Option.none a) (hF false (some k) b)) (Nat.le_max_right _ _)
  simp only [iJ,hF,List.map_append,kW]
  generalize max (hF false Option.none a) (hF false (some k) b)=r at *
  have h4:r*(bJ a+bJ b)<=r*bJ (.aW k a b):=Nat.mul_le_mul_left _ (by simp only [bJ];omega)
  split
  ·simp only [List.map_nil,bC,Nat.add_zero];omega
  ·simp only [List.map_cons,List.map_nil,bC,Nat.add_mul,Nat.one_mul];omega
theorem R3 {k:Bool} {t:Tm} (h:dK k t=true) (z:Tm):iJ false (some k) t z=iJ false Option.none t z:=by
 cases t with
 | aW k' a b=>
  have:k'≠k:=by simpa [dK] using h
  simp [iJ,Ne.symm this]
 | _=>rfl
theorem JF {k:Bool} {m z:Tm} {x:Tm×Tm} (hx:x∈iJ false Option.none m z):∀ (t:Tm),m∈memT k t->x∈iJ false (some k) t z
 | t,h=>by
  rcases ja k t with ⟨a,b,rfl⟩ | hn
  ·rw [iq] at h
   simp only [iJ,if_true,List.nil_append]
   rcases List.mem_cons.1 h with rfl | h
   ·exact List.mem_append_left _ hx
   ·exact List.mem_append_right _ (JF hx b h)
  ·rw [bu hn] at h
   have:m=t:=by simpa using h
   subst this
   rw [R3 hn];exact hx
theorem M9 {b z:Tm} {x:Tm×Tm} (hx:x∈iJ false Option.none b z) (h:bL b=false\/eP x.1<eP b):x∈iJ true Option.none b z:=by
 cases b with
 | chain a b=>
  simp only [iJ,Bool.false_eq_true,if_false,List.cons_append,List.nil_append,List.mem_cons] at hx
  simp only [iJ,if_true,List.nil_append]
  rcases hx with rfl | hx
  ·rcases h with h | h
   ·cases h
   ·exact absurd h (Nat.lt_irrefl _)
  ·exact hx
 | _=>exact hx
theorem dW.listed {t z h z':Tm} (p:dW t z h z'):(h,z')∈iJ false Option.none t z:=by
 induction p with
 | here t z=>
  cases t<;>simp [iJ]
 | left _ ih=>simp only [iJ];exact List.mem_append_right _ (List.mem_append_left _ ih)
 | right _ hr ih=>simp only [iJ];exact List.mem_append_right _ (List.mem_append_right _ (M9 ih hr))
 | star _ ih=>exact List.mem_cons_of_mem _ ih
 | neg _ ih=>exact List.mem_cons_of_mem _ ih
 | @mem k a b m z h z' hm _ ih=>
  have:=JF ih _ hm
  simp only [iJ,if_true,List.nil_append] at this
  simp only [iJ]
  exact List.mem_append_right _ this
theorem dW.nz {t z h z':Tm} (p:dW t z h z'):bJ h<=bJ t:=by
 have hm:∀ (k:Bool) (t:Tm) {m:Tm},m∈memT k t->bJ m<=bJ t:=by
  intro k t
  induction t with
  | aW k' a b _ ih=>
   intro m h
   rw [memT] at h
   split at h
   ·rcases List.mem_cons.1 h with rfl | h
    ·simp only [bJ];omega
    ·have:=ih h;simp only [bJ];omega
   ·simp at h;subst h;exact Nat.le_refl _
  | _=>intro m h;simp [memT] at h;subst h;exact Nat.le_refl _
 induction p with
 | here=>exact Nat.le_refl _
 | left _ ih=>simp only [bJ];omega
 | right _ _ ih=>simp only [bJ];omega
 | star _ ih=>simp only [bJ];omega
 | neg _ ih=>simp only [bJ];omega
 | mem h _ ih=>have:=hm _ _ h;omega
def D7:List Int->List (List Int)
 | []=>[[]]
 | a::l=>(a::l)::D7 l
theorem wU:∀ l:List Int,(D7 l).length=l.length+1
 | []=>rfl
 | _::l=>by rw [D7,List.length_cons,wU l,List.length_cons]
theorem sw {v:List Int}:∀ {w:List Int},v <:+ w->v∈D7 w
 | [],h=>by rw [List.suffix_nil.1 h];exact List.mem_cons_self ..
 | a::l,h=>by
  rcases List.suffix_cons_iff.1 h with rfl | h
  ·exact List.mem_cons_self ..
  ·exact List.mem_cons_of_mem _ (sw h)
abbrev D8 (t:Tm):List (Tm×Tm):=iJ false Option.none t eps
def qD (t:Tm) (vs:List (List Int)):List Tm:=(D8 t).flatMap fun p=>vs.map fun v=>au (aI p.1 v) p.2
theorem JG {α β:Type} (f:α->List β) (n:Nat):∀ (l:List α),(∀ a∈l,(f a).length<=n)->(l.flatMap f).length<=l.length*n
 | [],_=>by simp
 | a::l,h=>by
  have h1:=h a (List.mem_cons_self ..)
  have h2:=JG f n l fun b hb=>h b (List.mem_cons_of_mem _ hb)
  rw [List.flatMap_cons,List.length_append,List.length_cons,Nat.add_mul]
  omega
theorem qE (t:Tm) (vs:List (List Int)):(qD t vs).length<=(2*bJ t+1)*vs.length:=
 Nat.le_trans (JG _ vs.length _ fun a _=>by simp) (Nat.mul_le_mul_right _ (kV _ _ _ _))
theorem Ln.listed {t y:Tm} {w:List Int} {vs:List (List Int)} (hv:∀ v,v <:+ w->v∈vs) (h:Ln t w y):y∈qD t vs:=by
 obtain ⟨h,z,v,p,hvw,rfl,_⟩:=h
 exact List.mem_flatMap.2 ⟨(h,z),p.listed,List.mem_map.2 ⟨v,hv v hvw,rfl⟩⟩
end Go.Proofs.YtfolanohokflkaaGreatDoor
namespace Go.Proofs.YtfolanohokflkaaGreatDoor
open Tm (eps)
theorem jr {α:Type} [DecidableEq α]:∀ {l m:List α},l.Nodup->(∀ x∈l,x∈m)->l.length<=m.length
 | [],_,_,_=>Nat.zero_le _
 | a::l,m,hn,hs=>by
  have hn':=List.nodup_cons.1 hn
  have ha:=hs a (List.mem_cons_self ..)
  have ih:=jr (l:=l) (m:=m.erase a) hn'.2 fun x hx=>by
   have hne:x≠a:=by rintro rfl;exact hn'.1 hx
   exact (List.mem_erase_of_ne hne).2 (hs x (List.mem_cons_of_mem _ hx))
  rw [List.length_erase_of_mem ha] at ih
  have:0<m.length:=List.length_pos_of_mem ha
  rw [List.length_cons]
  omega
theorem BZ {α:Type} (p:α->Bool):∀ l:List α,l.length=(l.filter p).length+(l.filter fun x=>!p x).length
 | []=>rfl
 | a::l=>by
  have:=BZ p l
  rw [List.filter_cons,List.filter_cons]
  cases p a<;>simp<;>omega
theorem B_:∀ {l:List Tm},l.Nodup->whole∉l->(l.filter cZ).length<=(l.filterMap aP).length+(if eps∈l then 1 else 0)
 | [],_,_=>by simp
 | a::l,hn,hw=>by
  have hn':=List.nodup_cons.1 hn
  have ih:=B_ hn'.2 fun h=>hw (List.mem_cons_of_mem _ h)
  have hwa:a≠whole:=fun e=>hw (by rw [e];exact List.mem_cons_self ..)
  rw [List.filter_cons,List.filterMap_cons]
  cases a with
  | set s=>simp [aP,cZ];omega
  | eps=>
   rw [if_neg hn'.1] at ih
   simp [aP,cZ];omega
  | not x=>
   have:cZ (.not x)=false:=by
    cases x with
    | set s=>cases s with
     | nil=>exact absurd rfl hwa
     | cons _ _=>rfl
    | _=>rfl
   simp [aP,this];exact ih
  | chain x y=>simp [aP,cZ];exact ih
  | star x=>simp [aP,cZ];exact ih
  | aW k x y=>simp [aP,cZ];exact ih
theorem E8 {k:Bool} {x:Tm} (hx:Cn x):(memT k x).Nodup/\((memT k x).length=1\/(mI (memT k x)/\whole∉memT k x/\aF∉memT k x)):=by
 rcases ja k x with ⟨a,b,rfl⟩ | hn
 ·obtain ⟨h1,h2,h3,h4,h5,h6,h7⟩:=hx
  refine ⟨x8 h6,.inr ⟨h7,fun h=>?_,fun h=>?_⟩⟩
  ·rw [iq] at h
   rcases List.mem_cons.1 h with e | h
   ·exact h4 e.symm
   ·exact (h5.members _ h).2.2.2 rfl
  ·rw [iq] at h
   rcases List.mem_cons.1 h with e | h
   ·exact h3 e.symm
   ·exact (h5.members _ h).2.2.1 rfl
 ·rw [bu hn];exact ⟨by simp,.inl rfl⟩
theorem t_ {k:Bool} {x:Tm} {L:List Tm} (hx:Cn x) (h:∀ m∈memT k x,cZ m=true\/m∈L):(memT k x).length<=L.length+2:=by
 obtain ⟨hn,h1 | ⟨ho,hw,_⟩⟩:=E8 (k:=k) hx
 ·omega
 ·have e:=BZ cZ (memT k x)
  have h2:=B_ hn hw
  have h3:((memT k x).filter fun m=>!cZ m).length<=L.length:=jr (hn.filter _) fun m hm=>by
   obtain ⟨hm,hq⟩:=List.mem_filter.1 hm
   rcases h m hm with q | q
   ·rw [q] at hq;cases hq
   ·exact q
  unfold mI at ho
  split at h2<;>omega
theorem adt {h:Tm} (hh:Cn h) {v:List Int} {c:Int} (hw:dU (v++[c])) (k:Bool):(memT k (aG c (aI h v))).length<=(2*bJ h+1)*(v.length+2)+2:=by
 rw [<-jq]
 refine Nat.le_trans (t_ (gm _ hh) (L:=qD h (D7 (v++[c]))) fun m hm=>?_) ?_
 ·exact (lJ _ (Nat.le_refl _) hh _ hw m (qY.member hm)).imp id fun q=>q.listed fun v hv=>sw hv
 ·have:=qE h (D7 (v++[c]))
  rw [wU,List.length_append] at this
  simp only [List.length_cons,List.length_nil,Nat.zero_add] at this
  rw [show v.length+1+1=v.length+2 from rfl] at this
  omega
theorem Pj {c:Int} {v:List Int} (h:v <:+ []++[c]):v∈[[c],[]]:=by
 have:=sw h
 simpa [D7] using this
theorem adu {s:Tm} (hs:Cn s) {h z:Tm} {v:List Int} {c:Int} (hw:dU (v++[c])) (p:dW s eps h z) (iy:z≠eps) (hc:bL (aI h v)=false) (he:aI h v≠eps) (hv:aI h v≠aF) :
  (memT false (aG c (.chain (aI h v) z))).length<=4*bJ s+5:=by
 have IH:∀ h,eP h<eP s->Cn h->∀ v,dU v->∀ y,qY (aI h v) y->cZ y=true\/Ln h v y:=fun h _ hh v hv y hy=>lJ _ (Nat.le_refl _) hh v hv y hy
 have hsc:dU ([]++[c]):=fun d hd=>hw d (List.mem_append_right _ (by simpa using hd))
 have hh:=p.cn hs trivial
 obtain ⟨hz,M8⟩:=p.follow hs trivial (by simp)
 have hcn:Cn (.chain (aI h v) z):=⟨gm v hh.1,hh.2,hc,hv,he,hz,iy⟩
 have zm:∀ m∈memT false z,cZ m=true\/m∈qD s [[c],[]]:=fun m hm=>(abP hs IH p (w:=[]) hm).imp id fun q=>q.ln.listed fun u hu=>by rw [List.suffix_nil.1 hu];simp
 have zd:∀ m∈memT false (aG c z),cZ m=true\/m∈qD s [[c],[]]:=by
  intro m hm
  rcases M8 with e | ⟨b,z1,p1,rfl,hbc,hbe,hbv,hz1,hbs⟩
  ·exact absurd e iy
  ·exact (Vf hs IH (w:=[]) hsc _ (Nat.le_refl _) (v:=[]) p1 (hbs.imp id fun q=>⟨q.1,q.2,rfl⟩) List.nil_suffix hbc hbe hm).imp id fun q=>q.ln.listed fun u hu=>Pj hu
 have xm:∀ m∈memT false (au (aI h (v++[c])) z),cZ m=true\/m∈au (aI h (v++[c])) z::qD s [[c],[]]:=by
  intro m hm
  by_cases uF:aI h (v++[c])=aF
  ·rw [uF,aQ] at hm
   exact .inl (p9 rfl hm)
  by_cases RX:aI h (v++[c])=eps
  ·rw [RX,bA] at hm
   exact (zm m hm).imp id fun q=>List.mem_cons_of_mem _ q
  cases M7:bL (aI h (v++[c])) with
  | true=>
   have e:=lI (kU (gm _ hh.1) M7 hz) hm
   exact .inr (by rw [e];exact List.mem_cons_self ..)
  | false=>
   have e0:=bE M7 uF RX hz iy
   have e:=lI (x:=au (aI h (v++[c])) z) (by rw [e0];rfl) hm
   exact .inr (by rw [e];exact List.mem_cons_self ..)
 refine Nat.le_trans (t_ (gu c hcn).1 (L:=au (aI h (v++[c])) z::qD s [[c],[]]) fun m hm=>?_) ?_
 ·rw [fu,<-jq] at hm
  split at hm
  ·rcases pY (fun q hq=>by
    simp only [List.mem_cons,List.not_mem_nil,or_false] at hq
    rcases hq with rfl | rfl
    ·exact fD _ _ (gm _ hh.1) hh.2
    ·exact (gu c hh.2).1) hm with q | ⟨q,hq,Yh⟩
   ·exact .inl q
   ·simp only [List.mem_cons,List.not_mem_nil,or_false] at hq
    rcases hq with rfl | rfl
    ·exact xm m Yh
    ·exact (zd m Yh).imp id fun q=>List.mem_cons_of_mem _ q
  ·exact xm m hm
 ·have:=qE s [[c],[]]
  simp only [List.length_cons,List.length_nil] at this ⊢
  omega
def dZ:Tm->Nat
 | .chain a b=>dZ a+dZ b
 | _=>1
theorem sD:∀ t:Tm,1<=dZ t
 | .chain a b=>by have:=sD a;simp only [dZ];omega
 | .set _=>Nat.le_refl _
 | .eps=>Nat.le_refl _
 | .star _=>Nat.le_refl _
 | .not _=>Nat.le_refl _
 | .aW _ _ _=>Nat.le_refl _
theorem Gy:∀ t:Tm,dZ t<=bJ t+1
 | .chain a b=>by have:=Gy a;have:=Gy b;simp only [dZ,bJ];omega
 | .set _=>by simp [dZ,bJ]
 | .eps=>by simp [dZ,bJ]
 | .star _=>by simp [dZ,bJ]
 | .not _=>by simp [dZ,bJ]
 | .aW _ _ _=>by simp [dZ,bJ]
theorem sF:∀ (u z:Tm),dZ (au u z)<=dZ u+dZ z:=by
 intro u
 induction u with
 | chain a b iha ihb=>
  intro z
  have h1:=iha (au b z)
  have h2:=ihb z
  have h3:=sD a
  have h4:=sD b
  rw [au]
  split
  ·simp only [dZ];omega
  ·split
   ·simp only [dZ];omega
   ·simp only [dZ];omega
 | _=>
  intro z
  have:=sD z
  simp only [au]
  repeat' split
  all_goals simp only [dZ]
  all_goals omega
theorem dW.len {t z h z':Tm} (p:dW t z h z'):dZ z'<=dZ z+bJ t:=by
 induction p with
 | here=>omega
 | @left a b z h z' _ ih=>have:=sF b z;have:=Gy b;simp only [bJ];omega
 | right _ _ ih=>simp only [bJ];omega
 | @star a z h z' _ ih=>have:=sF (.star a) z;simp only [dZ] at this;simp only [bJ];omega
 | neg _ ih=>simp only [bJ];omega
 | mem h _ ih=>have:=(dW.mem h (.here _ eps)).nz;omega
theorem spine {h:Tm} (hh:Cn h) {u:List Int} (hu:dU u):dZ (aI h u)<=bJ h+2:=by
 by_cases hc:bL (aI h u)=true
 ·rcases lJ _ (Nat.le_refl _) hh u hu _ (.self _) with q | ⟨h',z',v',p,_,e,hnc,_⟩
  ·cases hx:aI h u<;>rw [hx] at hc q<;>simp [bL] at hc;simp [cZ] at q
  ·have h1:=sF (aI h' v') z'
   have h2:=p.len
   have h3:dZ (aI h' v')=1:=by cases hx:aI h' v'<;>rw [hx] at hnc<;>first | rfl | cases hnc
   rw [<-e] at h1
   simp only [dZ] at h2
   omega
 ·have h3:dZ (aI h u)=1:=by
   cases hx:aI h u<;>rw [hx] at hc<;>first | rfl | exact absurd rfl hc
  omega
end Go.Proofs.YtfolanohokflkaaGreatDoor
