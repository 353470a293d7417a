import Derived.Test.YtfolanohokflkaaGreatDoorLnO
namespace Go.Proofs.YtfolanohokflkaaGreatDoor
open Tm (eps)
def F1 (t:Tm):Nat:=(2*bJ t+1)*62+3
theorem KT {h:Tm} (hh:Cn h) {v:List Int} (hw:dU v) (hl:v.length<=61) (k:Bool):(memT k (aI h v)).length<=F1 h:=by
 refine Nat.le_trans (t_ (gm _ hh) (L:=qD h (D7 v)) fun m hm=>?_) ?_
 ·exact (lJ _ (Nat.le_refl _) hh _ hw m (qY.member hm)).imp id fun q=>q.listed fun v hv=>sw hv
 ·have h1:=qE h (D7 v)
  rw [wU] at h1
  have h2:(2*bJ h+1)*(v.length+1)<=(2*bJ h+1)*62:=Nat.mul_le_mul_left _ (by omega)
  unfold F1
  omega
theorem Hf {s t:Tm} (h:bJ s<=bJ t):F1 s<=F1 t:=by
 unfold F1
 have:(2*bJ s+1)*62<=(2*bJ t+1)*62:=Nat.mul_le_mul_right _ (by omega)
 omega
theorem Hg (t:Tm):1<=F1 t:=by unfold F1;omega
theorem o8 {k:Bool} {x:Tm} (h:bL x=true):(memT k x).length=1:=by cases x<;>first | rfl | cases h
theorem ic {k:Bool} {x:Tm} (h:cZ x=true):(memT k x).length=1:=by rw [bu (mh h)];rfl
theorem WK {s y:Tm} (hs:Cn s) {w:List Int} (hw:dU w) (hl:w.length<=61) (h:Ln s w y) (k:Bool):(memT k y).length<=F1 s:=by
 obtain ⟨h0,z,v,p,hv,rfl,hc,he⟩:=h
 have hh:=p.cn hs trivial
 have hsv:dU v:=fun c hc=>hw c (hv.subset hc)
 have hvl:=hv.length_le
 have hp:=Hg s
 by_cases iy:z=eps
 ·subst iy
  rw [ai]
  exact Nat.le_trans (KT hh.1 hsv (by omega) k) (Hf p.nz)
 by_cases uF:aI h0 v=aF
 ·rw [uF,aQ,ic rfl];exact hp
 ·have hz:=(p.follow hs trivial (by simp)).1
  rw [bE hc uF he hz iy,o8 rfl];exact hp
theorem NY {k:Bool} {x:Tm} (h:∀ a b,x≠.aW k a b):(memT k x).length=1:=by
 rcases ja k x with ⟨a,b,e⟩ | hn
 ·exact absurd e (h a b)
 ·rw [bu hn];rfl
theorem WL {s x X:Tm} (hs:Cn s) (hx:Cn x) {c:Int} (hsc:dU [c]) (hX:∀ k,(memT k X).length<=F1 s) (h:∀ m∈memT false x,cZ m=true\/m=X\/Ln s [c] m) (k:Bool):(memT k x).length<=F1 s:=by
 have hp:=Hg s
 cases k with
 | false=>
  refine Nat.le_trans (t_ hx (L:=X::qD s [[c],[]]) fun m hm=>?_) ?_
  ·rcases h m hm with q | q | q
   ·exact .inl q
   ·exact .inr (by rw [q];exact List.mem_cons_self ..)
   ·exact .inr (List.mem_cons_of_mem _ (q.listed fun v hv=>Pj (by simpa using hv)))
  ·have h1:=qE s [[c],[]]
   simp only [List.length_cons,List.length_nil] at h1 ⊢
   have h2:(2*bJ s+1)*(0+1+1)<=(2*bJ s+1)*62:=Nat.mul_le_mul_left _ (by omega)
   unfold F1
   omega
 | true=>
  by_cases hg:∃ a b,x=.aW true a b
  ·obtain ⟨a,b,rfl⟩:=hg
   rcases h (.aW true a b) (by simp [memT]) with q | q | q
   ·cases q
   ·rw [q];exact hX true
   ·exact WK hs hsc (by simp) q true
  ·rw [NY fun a b e=>hg ⟨a,b,e⟩];exact hp
theorem acx {s h z:Tm} (hs:Cn s) {v:List Int} {c:Int} (hw:dU (v++[c])) (p:dW s eps h z) (iy:z≠eps) (hc:bL (aI h v)=false) (he:aI h v≠eps) (hv:aI h v≠aF) (k:Bool) :
  (memT k (aG c (.chain (aI h v) z))).length<=F1 s/\(memT k (au (aG c (aI h v)) z)).length<=F1 s:=by
 have IH:∀ h,eP h<eP s->Cn h->∀ v,dU v->∀ y,qY (aI h v) y->cZ y=true\/Ln h v y:=fun h _ hh v hv y hy=>lJ _ (Nat.le_refl _) hh v hv y hy
 have hsc:dU ([]++[c]):=fun d hd=>hw d (List.mem_append_right _ (by simpa using hd))
 have hsc':dU [c]:=hsc
 have hh:=p.cn hs trivial
 obtain ⟨hz,M8⟩:=p.follow hs trivial (by simp)
 have hcn:Cn (.chain (aI h v) z):=⟨gm v hh.1,hh.2,hc,hv,he,hz,iy⟩
 have zm:∀ m∈memT false z,cZ m=true\/Ln s [c] m:=fun m hm=>(abP hs IH p (w:=[]) hm).imp id fun q=>q.ln.mono List.nil_suffix
 have zd:∀ m∈memT false (aG c z),cZ m=true\/Ln s [c] m:=by
  intro m hm
  rcases M8 with e | ⟨b,z1,p1,rfl,hbc,hbe,hbv,hz1,hbs⟩
  ·exact absurd e iy
  ·exact (Vf hs IH (w:=[]) hsc _ (Nat.le_refl _) (v:=[]) p1 (hbs.imp id fun q=>⟨q.1,q.2,rfl⟩) List.nil_suffix hbc hbe hm).imp id fun q=>q.ln
 rw [<-jq]
 have hXX:∀ m∈memT false (au (aI h (v++[c])) z),cZ m=true\/m=au (aI h (v++[c])) z\/Ln s [c] m:=by
  intro m hm
  by_cases uF:aI h (v++[c])=aF
  ·rw [uF,aQ] at hm
   exact .inl (p9 rfl hm)
  by_cases RX:aI h (v++[c])=eps
  ·rw [RX,bA] at hm
   exact (zm m hm).imp id .inr
  cases M7:bL (aI h (v++[c])) with
  | true=>exact .inr (.inl (lI (kU (gm _ hh.1) M7 hz) hm))
  | false=>
   have e0:=bE M7 uF RX hz iy
   exact .inr (.inl (lI (x:=au (aI h (v++[c])) z) (by rw [e0];rfl) hm))
 have hX:∀ k,(memT k (au (aI h (v++[c])) z)).length<=F1 s:=by
  intro k
  have hp:=Hg s
  by_cases uF:aI h (v++[c])=aF
  ·rw [uF,aQ,ic rfl];exact hp
  by_cases RX:aI h (v++[c])=eps
  ·rw [RX,bA]
   exact WL (X:=aF) hs hh.2 hsc' (fun k=>by rw [ic rfl];exact hp) (fun m hm=>(zm m hm).imp id .inr) k
  cases M7:bL (aI h (v++[c])) with
  | true=>rw [o8 (kU (gm _ hh.1) M7 hz)];exact hp
  | false=>rw [bE M7 uF RX hz iy,o8 rfl];exact hp
 refine ⟨WL hs (gu c hcn).1 hsc' hX (fun m hm=>?_) k,hX k⟩
 rw [fu,<-jq] at hm
 split at hm
 ·rcases pY (fun q hq=>by
   simp only [List.mem_cons,List.not_mem_nil,or_false] at hq
   rcases hq with rfl | rfl
   ·exact fD _ _ (gm _ hh.1) hh.2
   ·exact (gu c hh.2).1) hm with q | ⟨q,hq,Yh⟩
  ·exact .inl q
  ·simp only [List.mem_cons,List.not_mem_nil,or_false] at hq
   rcases hq with rfl | rfl
   ·exact hXX m Yh
   ·exact (zd m Yh).imp id .inr
 ·exact hXX m hm
theorem Qa {t y:Tm} (ht:Cn t) {w:List Int} {c:Int} (hw:dU (w++[c])) (hl:w.length<=60) (h:Ih (aI t w) y) :
  (∀ k,(memT k y).length<=F1 t/\(memT k (aG c y)).length<=F1 t)/\∀ a b,y=.chain a b->(memT false (au (aG c a) b)).length<=F1 t:=by
 have hp:=Hg t
 rcases E5 _ (Nat.le_refl _) ht w hw.left y h with q | ⟨s,z0,p0,hln⟩
 ·refine ⟨fun k=>?_,fun a b e=>by subst e;cases q⟩
  rw [ic q,ic (wR q)];omega
 have hs:=(p0.cn ht trivial).1
 have hF:=Hf p0.nz
 have h1:=WK hs hw.left (by omega) hln
 obtain ⟨h0,z,v,p,hvw,e,hc,he⟩:=hln
 have hh:=(p.cn hs trivial).1
 have Yg:dU (v++[c]):=by
  obtain ⟨q,rfl⟩:=hvw
  intro d hd
  refine hw d ?_
  rw [List.append_assoc]
  exact List.mem_append_right _ hd
 have hvl:v.length<=60:=Nat.le_trans hvw.length_le hl
 by_cases iy:z=eps
 ·subst iy
  rw [ai] at e
  subst e
  refine ⟨fun k=>⟨Nat.le_trans (h1 k) hF,?_⟩,fun a b e=>by rw [e] at hc;cases hc⟩
  rw [<-jq]
  exact Nat.le_trans (KT hh Yg (by rw [List.length_append];simp;omega) k) (Nat.le_trans (Hf p.nz) hF)
 by_cases uF:aI h0 v=aF
 ·rw [uF,aQ] at e
  subst e
  exact ⟨fun k=>⟨by rw [ic rfl];omega,by rw [ic (wR rfl)];omega⟩,fun a b e=>by cases e⟩
 have hz:=(p.follow hs trivial (by simp)).1
 have e0:=bE hc uF he hz iy
 rw [e0] at e
 have h2:=fun k=>acx hs Yg p iy hc he uF k
 refine ⟨fun k=>⟨Nat.le_trans (h1 k) hF,?_⟩,fun a b e'=>?_⟩
 ·rw [e];exact Nat.le_trans (h2 k).1 hF
 ·rw [e'] at e
  injection e with e1 e2
  subst e1 e2
  exact Nat.le_trans (h2 false).2 hF
theorem Ih.head' {x a b:Tm} (h:Ih x (.chain a b)):Ih x a:=by
 generalize hy:Tm.chain a b=y at h
 induction h with
 | top h=>subst hy;exact .head h (.top (.self _))
 | head h _ ih=>exact .head h (ih hy)
 | star h _ ih=>exact .star h (ih hy)
theorem Ih.star' {x a:Tm} (h:Ih x (.star a)):Ih x a:=by
 generalize hy:Tm.star a=y at h
 induction h with
 | top h=>subst hy;exact .star h (.top (.self _))
 | head h _ ih=>exact .head h (ih hy)
 | star h _ ih=>exact .star h (ih hy)
theorem Ih.more {x y z:Tm} (h:Ih x y) (k:qY y z):Ih x z:=by
 induction h with
 | top h=>exact .top (h.trans k)
 | head h _ ih=>exact .head h (ih k)
 | star h _ ih=>exact .star h (ih k)
structure NZ (G:List Gx) (Vd:Tm->Int->Prop):Prop where
 head:∀ {a b:Tm} {c:Int},Vd (.chain a b) c->Vd a c
 next:∀ {a b:Tm} {c:Int},Vd (.chain a b) c->bZ a=true->Vd b c
 star:∀ {a:Tm} {c:Int},Vd (.star a) c->Vd a c
 neg:∀ {a:Tm} {c:Int},Vd (.not a) c->Vd a c
 mem:∀ {k:Bool} {a b m:Tm} {c:Int},Vd (.aW k a b) c->m∈memT k (.aW k a b)->Vd m c
 sym:∀ {y:Tm} {c:Int},Vd y c->aD c=true
 cost:∀ {y:Tm} {c:Int},Vd y c->cZ y=true\/∃ k,((y,c),k)∈G/\nY c y<=k
 few:∀ {y:Tm} {c:Int} (k:Bool),Vd y c->(memT k y).length<=200000/\(memT k (aG c y)).length<=200000
 adX:∀ {a b:Tm} {c:Int},Vd (.chain a b) c->(memT false (au (aG c a) b)).length<=200000
def VdL (t:Tm) (L:List Int) (y:Tm) (c:Int):Prop:=∃ a b w,L=a++c::b/\w <:+ a/\Ih (aI t w) y
theorem Qb {t:Tm} (ht:Cn t) (hn:bJ t<=1380) {L:List Int} (hL:dU L) (hl:L.length<=60):NZ (Ca t (sG L)) (VdL t L):=by
 have hsy:∀ {a b w:List Int} {c:Int},L=a++c::b->w <:+ a->dU (w++[c])/\w.length<=60:=fun {a b w c} e hw=>by
  refine ⟨fun d hd=>hL d ?_,?_⟩
  ·rw [e]
   rcases List.mem_append.1 hd with q | q
   ·exact List.mem_append_left _ (hw.subset q)
   ·have:d=c:=by simpa using q
    subst this;simp
  ·have:=hw.length_le
   rw [e,List.length_append,List.length_cons] at hl
   omega
 have hF:F1 t<=200000:=by
  unfold F1
  have:(2*bJ t+1)*62<=2761*62:=Nat.mul_le_mul_right _ (by omega)
  omega
 refine ⟨?_,?_,?_,?_,?_,?_,?_,?_,?_⟩
 ·rintro a b c ⟨p,q,w,e,hw,h⟩;exact ⟨p,q,w,e,hw,h.head'⟩
 ·rintro a b c ⟨p,q,w,e,hw,h⟩ hn;exact ⟨p,q,w,e,hw,h.more (.next hn (.self _))⟩
 ·rintro a c ⟨p,q,w,e,hw,h⟩;exact ⟨p,q,w,e,hw,h.star'⟩
 ·rintro a c ⟨p,q,w,e,hw,h⟩;exact ⟨p,q,w,e,hw,h.more (.neg (.self _))⟩
 ·rintro k a b m c ⟨p,q,w,e,hw,h⟩ hm;exact ⟨p,q,w,e,hw,h.more (.mem hm (.self _))⟩
 ·rintro y c ⟨p,q,w,e,hw,h⟩
  exact hL c (by rw [e];simp)
 ·rintro y c ⟨p,q,w,e,hw,h⟩
  exact ady ht (hsy e hw).1 (hsy e hw).2 (fun v hv=>Na e hw hv) h
 ·rintro y c k ⟨p,q,w,e,hw,h⟩
  have:=(Qa ht (hsy e hw).1 (hsy e hw).2 h).1 k
  omega
 ·rintro a b c ⟨p,q,w,e,hw,h⟩
  have:=(Qa ht (hsy e hw).1 (hsy e hw).2 h).2 a b rfl
  omega
end Go.Proofs.YtfolanohokflkaaGreatDoor
