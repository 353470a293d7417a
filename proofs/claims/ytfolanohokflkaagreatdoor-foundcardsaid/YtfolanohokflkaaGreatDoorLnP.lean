import Derived.Test.YtfolanohokflkaaGreatDoorLnO
namespace Go.Proofs.YtfolanohokflkaaGreatDoor
open Tm (eps)
def F1 (t:Tm):Nat:=(2*bF t+1)*62+3
theorem Kl {h:Tm} (hh:Cn h) {v:List Int} (hw:iq v) (hl:v.length<=61) (k:Bool):(memT k (aJ h v)).length<=F1 h:=by
 refine Nat.le_trans (sW (fK _ hh) (L:=qh h (DN v)) fun m hm=>?_) ?_
 ·exact (lG _ (Nat.le_refl _) hh _ hw m (qE.member hm)).imp id fun q=>q.listed fun v hv=>rO hv
 ·have h1:=qi h (DN v)
  rw [wH] at h1
  have h2:(2*bF h+1)*(v.length+1)<=(2*bF h+1)*62:=Nat.mul_le_mul_left _ (by omega)
  unfold F1
  omega
theorem GX {s t:Tm} (h:bF s<=bF t):F1 s<=F1 t:=by
 unfold F1
 have:(2*bF s+1)*62<=(2*bF t+1)*62:=Nat.mul_le_mul_right _ (by omega)
 omega
theorem GY (t:Tm):1<=F1 t:=by unfold F1;omega
theorem oL {k:Bool} {x:Tm} (h:bG x=true):(memT k x).length=1:=by cases x<;>first | rfl | cases h
theorem gV {k:Bool} {x:Tm} (h:b_ x=true):(memT k x).length=1:=by rw [bn (l6 h)];rfl
theorem Vp {s y:Tm} (hs:Cn s) {w:List Int} (hw:iq w) (hl:w.length<=61) (h:Ln s w y) (k:Bool):(memT k y).length<=F1 s:=by
 obtain ⟨h0,z,v,p,hv,rfl,hc,he⟩:=h
 have hh:=p.cn hs trivial
 have hsv:iq v:=fun c hc=>hw c (hv.subset hc)
 have hvl:=hv.length_le
 have hp:=GY s
 by_cases ib:z=eps
 ·subst ib
  rw [ai]
  exact Nat.le_trans (Kl hh.1 hsv (by omega) k) (GX p.nz)
 by_cases ug:aJ h0 v=aH
 ·rw [ug,aS,gV rfl];exact hp
 ·have hz:=(p.follow hs trivial (by simp)).1
  rw [bC hc ug he hz ib,oL rfl];exact hp
theorem Nh {k:Bool} {x:Tm} (h:∀ a b,x≠.bf k a b):(memT k x).length=1:=by
 rcases iR k x with ⟨a,b,e⟩ | hn
 ·exact absurd e (h a b)
 ·rw [bn hn];rfl
theorem Vq {s x X:Tm} (hs:Cn s) (hx:Cn x) {c:Int} (hsc:iq [c]) (hX:∀ k,(memT k X).length<=F1 s) (h:∀ m∈memT false x,b_ m=true\/m=X\/Ln s [c] m) (k:Bool):(memT k x).length<=F1 s:=by
 have hp:=GY s
 cases k with
 | false=>
  refine Nat.le_trans (sW hx (L:=X::qh s [[c],[]]) fun m hm=>?_) ?_
  ·rcases h m hm with q | q | q
   ·exact .inl q
   ·exact .inr (by rw [q];exact List.mem_cons_self ..)
   ·exact .inr (List.mem_cons_of_mem _ (q.listed fun v hv=>OC (by simpa using hv)))
  ·have h1:=qi s [[c],[]]
   simp only [List.length_cons,List.length_nil] at h1 ⊢
   have h2:(2*bF s+1)*(0+1+1)<=(2*bF s+1)*62:=Nat.mul_le_mul_left _ (by omega)
   unfold F1
   omega
 | true=>
  by_cases hg:∃ a b,x=.bf true a b
  ·obtain ⟨a,b,rfl⟩:=hg
   rcases h (.bf true a b) (by simp [memT]) with q | q | q
   ·cases q
   ·rw [q];exact hX true
   ·exact Vp hs hsc (by simp) q true
  ·rw [Nh fun a b e=>hg ⟨a,b,e⟩];exact hp
theorem abm {s h z:Tm} (hs:Cn s) {v:List Int} {c:Int} (hw:iq (v++[c])) (p:dN s eps h z) (ib:z≠eps) (hc:bG (aJ h v)=false) (he:aJ h v≠eps) (hv:aJ h v≠aH) (k:Bool) :
  (memT k (aL c (.chain (aJ h v) z))).length<=F1 s/\(memT k (ay (aL c (aJ h v)) z)).length<=F1 s:=by
 have IH:∀ h,ek h<ek s->Cn h->∀ v,iq v->∀ y,qE (aJ h v) y->b_ y=true\/Ln h v y:=fun h _ hh v hv y hy=>lG _ (Nat.le_refl _) hh v hv y hy
 have hsc:iq ([]++[c]):=fun d hd=>hw d (List.mem_append_right _ (by simpa using hd))
 have hsc':iq [c]:=hsc
 have hh:=p.cn hs trivial
 obtain ⟨hz,MI⟩:=p.follow hs trivial (by simp)
 have hcn:Cn (.chain (aJ h v) z):=⟨fK v hh.1,hh.2,hc,hv,he,hz,ib⟩
 have zm:∀ m∈memT false z,b_ m=true\/Ln s [c] m:=fun m hm=>(aaS hs IH p (w:=[]) hm).imp id fun q=>q.ln.mono List.nil_suffix
 have zd:∀ m∈memT false (aL c z),b_ m=true\/Ln s [c] m:=by
  intro m hm
  rcases MI with e | ⟨b,z1,p1,rfl,hbc,hbe,hbv,hz1,hbs⟩
  ·exact absurd e ib
  ·exact (UB hs IH (w:=[]) hsc _ (Nat.le_refl _) (v:=[]) p1 (hbs.imp id fun q=>⟨q.1,q.2,rfl⟩) List.nil_suffix hbc hbe hm).imp id fun q=>q.ln
 rw [<-je]
 have hXX:∀ m∈memT false (ay (aJ h (v++[c])) z),b_ m=true\/m=ay (aJ h (v++[c])) z\/Ln s [c] m:=by
  intro m hm
  by_cases ug:aJ h (v++[c])=aH
  ·rw [ug,aS] at hm
   exact .inl (pI rfl hm)
  by_cases Rc:aJ h (v++[c])=eps
  ·rw [Rc,bz] at hm
   exact (zm m hm).imp id .inr
  cases MH:bG (aJ h (v++[c])) with
  | true=>exact .inr (.inl (lF (kN (fK _ hh.1) MH hz) hm))
  | false=>
   have e0:=bC MH ug Rc hz ib
   exact .inr (.inl (lF (x:=ay (aJ h (v++[c])) z) (by rw [e0];rfl) hm))
 have hX:∀ k,(memT k (ay (aJ h (v++[c])) z)).length<=F1 s:=by
  intro k
  have hp:=GY s
  by_cases ug:aJ h (v++[c])=aH
  ·rw [ug,aS,gV rfl];exact hp
  by_cases Rc:aJ h (v++[c])=eps
  ·rw [Rc,bz]
   exact Vq (X:=aH) hs hh.2 hsc' (fun k=>by rw [gV rfl];exact hp) (fun m hm=>(zm m hm).imp id .inr) k
  cases MH:bG (aJ h (v++[c])) with
  | true=>rw [oL (kN (fK _ hh.1) MH hz)];exact hp
  | false=>rw [bC MH ug Rc hz ib,oL rfl];exact hp
 refine ⟨Vq hs (fT c hcn).1 hsc' hX (fun m hm=>?_) k,hX k⟩
 rw [fQ,<-je] at hm
 split at hm
 ·rcases pF (fun q hq=>by
   simp only [List.mem_cons,List.not_mem_nil,or_false] at hq
   rcases hq with rfl | rfl
   ·exact eP _ _ (fK _ hh.1) hh.2
   ·exact (fT c hh.2).1) hm with q | ⟨q,hq,Xh⟩
  ·exact .inl q
  ·simp only [List.mem_cons,List.not_mem_nil,or_false] at hq
   rcases hq with rfl | rfl
   ·exact hXX m Xh
   ·exact (zd m Xh).imp id .inr
 ·exact hXX m hm
theorem O7 {t y:Tm} (ht:Cn t) {w:List Int} {c:Int} (hw:iq (w++[c])) (hl:w.length<=60) (h:Hw (aJ t w) y) :
  (∀ k,(memT k y).length<=F1 t/\(memT k (aL c y)).length<=F1 t)/\∀ a b,y=.chain a b->(memT false (ay (aL c a) b)).length<=F1 t:=by
 have hp:=GY t
 rcases EW _ (Nat.le_refl _) ht w hw.left y h with q | ⟨s,z0,p0,hln⟩
 ·refine ⟨fun k=>?_,fun a b e=>by subst e;cases q⟩
  rw [gV q,gV (wE q)];omega
 have hs:=(p0.cn ht trivial).1
 have hF:=GX p0.nz
 have h1:=Vp hs hw.left (by omega) hln
 obtain ⟨h0,z,v,p,hvw,e,hc,he⟩:=hln
 have hh:=(p.cn hs trivial).1
 have Xg:iq (v++[c]):=by
  obtain ⟨q,rfl⟩:=hvw
  intro d hd
  refine hw d ?_
  rw [List.append_assoc]
  exact List.mem_append_right _ hd
 have hvl:v.length<=60:=Nat.le_trans hvw.length_le hl
 by_cases ib:z=eps
 ·subst ib
  rw [ai] at e
  subst e
  refine ⟨fun k=>⟨Nat.le_trans (h1 k) hF,?_⟩,fun a b e=>by rw [e] at hc;cases hc⟩
  rw [<-je]
  exact Nat.le_trans (Kl hh Xg (by rw [List.length_append];simp;omega) k) (Nat.le_trans (GX p.nz) hF)
 by_cases ug:aJ h0 v=aH
 ·rw [ug,aS] at e
  subst e
  exact ⟨fun k=>⟨by rw [gV rfl];omega,by rw [gV (wE rfl)];omega⟩,fun a b e=>by cases e⟩
 have hz:=(p.follow hs trivial (by simp)).1
 have e0:=bC hc ug he hz ib
 rw [e0] at e
 have h2:=fun k=>abm hs Xg p ib hc he ug k
 refine ⟨fun k=>⟨Nat.le_trans (h1 k) hF,?_⟩,fun a b e'=>?_⟩
 ·rw [e];exact Nat.le_trans (h2 k).1 hF
 ·rw [e'] at e
  injection e with e1 e2
  subst e1 e2
  exact Nat.le_trans (h2 false).2 hF
theorem Hw.head' {x a b:Tm} (h:Hw x (.chain a b)):Hw x a:=by
 generalize hy:Tm.chain a b=y at h
 induction h with
 | top h=>subst hy;exact .head h (.top (.self _))
 | head h _ ih=>exact .head h (ih hy)
 | star h _ ih=>exact .star h (ih hy)
theorem Hw.star' {x a:Tm} (h:Hw x (.star a)):Hw x a:=by
 generalize hy:Tm.star a=y at h
 induction h with
 | top h=>subst hy;exact .star h (.top (.self _))
 | head h _ ih=>exact .head h (ih hy)
 | star h _ ih=>exact .star h (ih hy)
theorem Hw.more {x y z:Tm} (h:Hw x y) (k:qE y z):Hw x z:=by
 induction h with
 | top h=>exact .top (h.trans k)
 | head h _ ih=>exact .head h (ih k)
 | star h _ ih=>exact .star h (ih k)
structure Ni (G:List Gx) (Vd:Tm->Int->Prop):Prop where
 head:∀ {a b:Tm} {c:Int},Vd (.chain a b) c->Vd a c
 next:∀ {a b:Tm} {c:Int},Vd (.chain a b) c->cB a=true->Vd b c
 star:∀ {a:Tm} {c:Int},Vd (.star a) c->Vd a c
 neg:∀ {a:Tm} {c:Int},Vd (.not a) c->Vd a c
 mem:∀ {k:Bool} {a b m:Tm} {c:Int},Vd (.bf k a b) c->m∈memT k (.bf k a b)->Vd m c
 sym:∀ {y:Tm} {c:Int},Vd y c->aG c=true
 cost:∀ {y:Tm} {c:Int},Vd y c->b_ y=true\/∃ k,((y,c),k)∈G/\nN c y<=k
 few:∀ {y:Tm} {c:Int} (k:Bool),Vd y c->(memT k y).length<=200000/\(memT k (aL c y)).length<=200000
 acN:∀ {a b:Tm} {c:Int},Vd (.chain a b) c->(memT false (ay (aL c a) b)).length<=200000
def VdL (t:Tm) (L:List Int) (y:Tm) (c:Int):Prop:=∃ a b w,L=a++c::b/\w <:+ a/\Hw (aJ t w) y
theorem O8 {t:Tm} (ht:Cn t) (hn:bF t<=1380) {L:List Int} (hL:iq L) (hl:L.length<=60):Ni (BQ t (rR L)) (VdL t L):=by
 have hsy:∀ {a b w:List Int} {c:Int},L=a++c::b->w <:+ a->iq (w++[c])/\w.length<=60:=fun {a b w c} e hw=>by
  refine ⟨fun d hd=>hL d ?_,?_⟩
  ·rw [e]
   rcases List.mem_append.1 hd with q | q
   ·exact List.mem_append_left _ (hw.subset q)
   ·have:d=c:=by simpa using q
    subst this;simp
  ·have:=hw.length_le
   rw [e,List.length_append,List.length_cons] at hl
   omega
 have hF:F1 t<=200000:=by
  unfold F1
  have:(2*bF t+1)*62<=2761*62:=Nat.mul_le_mul_right _ (by omega)
  omega
 refine ⟨?_,?_,?_,?_,?_,?_,?_,?_,?_⟩
 ·rintro a b c ⟨p,q,w,e,hw,h⟩;exact ⟨p,q,w,e,hw,h.head'⟩
 ·rintro a b c ⟨p,q,w,e,hw,h⟩ hn;exact ⟨p,q,w,e,hw,h.more (.next hn (.self _))⟩
 ·rintro a c ⟨p,q,w,e,hw,h⟩;exact ⟨p,q,w,e,hw,h.star'⟩
 ·rintro a c ⟨p,q,w,e,hw,h⟩;exact ⟨p,q,w,e,hw,h.more (.neg (.self _))⟩
 ·rintro k a b m c ⟨p,q,w,e,hw,h⟩ hm;exact ⟨p,q,w,e,hw,h.more (.mem hm (.self _))⟩
 ·rintro y c ⟨p,q,w,e,hw,h⟩
  exact hL c (by rw [e];simp)
 ·rintro y c ⟨p,q,w,e,hw,h⟩
  exact acu ht (hsy e hw).1 (hsy e hw).2 (fun v hv=>ML e hw hv) h
 ·rintro y c k ⟨p,q,w,e,hw,h⟩
  have:=(O7 ht (hsy e hw).1 (hsy e hw).2 h).1 k
  omega
 ·rintro a b c ⟨p,q,w,e,hw,h⟩
  have:=(O7 ht (hsy e hw).1 (hsy e hw).2 h).2 a b rfl
  omega
end Go.Proofs.YtfolanohokflkaaGreatDoor
