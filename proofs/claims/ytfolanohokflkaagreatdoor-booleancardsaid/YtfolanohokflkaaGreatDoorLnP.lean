import Derived.Test.YtfolanohokflkaaGreatDoorLnO
namespace Go.Proofs.YtfolanohokflkaaGreatDoor
open Tm (eps)
def F1 (t:Tm):Nat:=(2*bH t+1)*62+3
theorem Jr {h:Tm} (hh:Cn h) {v:List Int} (hw:fB v) (hl:v.length<=61) (k:Bool):(memT k (aO h v)).length<=F1 h:=by
 refine Nat.le_trans (sG (fM _ hh) (L:=pX h (CZ v)) fun m hm=>?_) ?_
 ·exact (lq _ (Nat.le_refl _) hh _ hw m (qy.member hm)).imp id fun q=>q.listed fun v hv=>rC hv
 ·have h1:=pY h (CZ v)
  rw [vU] at h1
  have h2:(2*bH h+1)*(v.length+1)<=(2*bH h+1)*62:=Nat.mul_le_mul_left _ (by omega)
  unfold F1
  omega
theorem FX {s t:Tm} (h:bH s<=bH t):F1 s<=F1 t:=by
 unfold F1
 have:(2*bH s+1)*62<=(2*bH t+1)*62:=Nat.mul_le_mul_right _ (by omega)
 omega
theorem FY (t:Tm):1<=F1 t:=by unfold F1;omega
theorem oJ {k:Bool} {x:Tm} (h:bI x=true):(memT k x).length=1:=by cases x<;>first | rfl | cases h
theorem gV {k:Bool} {x:Tm} (h:cu x=true):(memT k x).length=1:=by rw [bq (lT h)];rfl
theorem Uq {s y:Tm} (hs:Cn s) {w:List Int} (hw:fB w) (hl:w.length<=61) (h:Ln s w y) (k:Bool):(memT k y).length<=F1 s:=by
 obtain ⟨h0,z,v,p,hv,rfl,hc,he⟩:=h
 have hh:=p.cn hs trivial
 have hsv:fB v:=fun c hc=>hw c (hv.subset hc)
 have hvl:=hv.length_le
 have hp:=FY s
 by_cases ig:z=eps
 ·subst ig
  rw [ai]
  exact Nat.le_trans (Jr hh.1 hsv (by omega) k) (FX p.nz)
 by_cases tF:aO h0 v=aH
 ·rw [tF,aQ,gV rfl];exact hp
 ·have hz:=(p.follow hs trivial (by simp)).1
  rw [bD hc tF he hz ig,oJ rfl];exact hp
theorem Mh {k:Bool} {x:Tm} (h:∀ a b,x≠.aT k a b):(memT k x).length=1:=by
 rcases iU k x with ⟨a,b,e⟩ | hn
 ·exact absurd e (h a b)
 ·rw [bq hn];rfl
theorem Ur {s x X:Tm} (hs:Cn s) (hx:Cn x) {c:Int} (hsc:fB [c]) (hX:∀ k,(memT k X).length<=F1 s) (h:∀ m∈memT false x,cu m=true\/m=X\/Ln s [c] m) (k:Bool):(memT k x).length<=F1 s:=by
 have hp:=FY s
 cases k with
 | false=>
  refine Nat.le_trans (sG hx (L:=X::pX s [[c],[]]) fun m hm=>?_) ?_
  ·rcases h m hm with q | q | q
   ·exact .inl q
   ·exact .inr (by rw [q];exact List.mem_cons_self ..)
   ·exact .inr (List.mem_cons_of_mem _ (q.listed fun v hv=>Nw (by simpa using hv)))
  ·have h1:=pY s [[c],[]]
   simp only [List.length_cons,List.length_nil] at h1 ⊢
   have h2:(2*bH s+1)*(0+1+1)<=(2*bH s+1)*62:=Nat.mul_le_mul_left _ (by omega)
   unfold F1
   omega
 | true=>
  by_cases hg:∃ a b,x=.aT true a b
  ·obtain ⟨a,b,rfl⟩:=hg
   rcases h (.aT true a b) (by simp [memT]) with q | q | q
   ·cases q
   ·rw [q];exact hX true
   ·exact Uq hs hsc (by simp) q true
  ·rw [Mh fun a b e=>hg ⟨a,b,e⟩];exact hp
theorem aav {s h z:Tm} (hs:Cn s) {v:List Int} {c:Int} (hw:fB (v++[c])) (p:dL s eps h z) (ig:z≠eps) (hc:bI (aO h v)=false) (he:aO h v≠eps) (hv:aO h v≠aH) (k:Bool) :
  (memT k (aG c (.chain (aO h v) z))).length<=F1 s/\(memT k (au (aG c (aO h v)) z)).length<=F1 s:=by
 have IH:∀ h,ed h<ed s->Cn h->∀ v,fB v->∀ y,qy (aO h v) y->cu y=true\/Ln h v y:=fun h _ hh v hv y hy=>lq _ (Nat.le_refl _) hh v hv y hy
 have hsc:fB ([]++[c]):=fun d hd=>hw d (List.mem_append_right _ (by simpa using hd))
 have hsc':fB [c]:=hsc
 have hh:=p.cn hs trivial
 obtain ⟨hz,Lu⟩:=p.follow hs trivial (by simp)
 have hcn:Cn (.chain (aO h v) z):=⟨fM v hh.1,hh.2,hc,hv,he,hz,ig⟩
 have zm:∀ m∈memT false z,cu m=true\/Ln s [c] m:=fun m hm=>(Z0 hs IH p (w:=[]) hm).imp id fun q=>q.ln.mono List.nil_suffix
 have zd:∀ m∈memT false (aG c z),cu m=true\/Ln s [c] m:=by
  intro m hm
  rcases Lu with e | ⟨b,z1,p1,rfl,hbc,hbe,hbv,hz1,hbs⟩
  ·exact absurd e ig
  ·exact (Tn hs IH (w:=[]) hsc _ (Nat.le_refl _) (v:=[]) p1 (hbs.imp id fun q=>⟨q.1,q.2,rfl⟩) List.nil_suffix hbc hbe hm).imp id fun q=>q.ln
 rw [<-ji]
 have hXX:∀ m∈memT false (au (aO h (v++[c])) z),cu m=true\/m=au (aO h (v++[c])) z\/Ln s [c] m:=by
  intro m hm
  by_cases tF:aO h (v++[c])=aH
  ·rw [tF,aQ] at hm
   exact .inl (pE rfl hm)
  by_cases Qb:aO h (v++[c])=eps
  ·rw [Qb,bz] at hm
   exact (zm m hm).imp id .inr
  cases Lt:bI (aO h (v++[c])) with
  | true=>exact .inr (.inl (ll (kI (fM _ hh.1) Lt hz) hm))
  | false=>
   have e0:=bD Lt tF Qb hz ig
   exact .inr (.inl (ll (x:=au (aO h (v++[c])) z) (by rw [e0];rfl) hm))
 have hX:∀ k,(memT k (au (aO h (v++[c])) z)).length<=F1 s:=by
  intro k
  have hp:=FY s
  by_cases tF:aO h (v++[c])=aH
  ·rw [tF,aQ,gV rfl];exact hp
  by_cases Qb:aO h (v++[c])=eps
  ·rw [Qb,bz]
   exact Ur (X:=aH) hs hh.2 hsc' (fun k=>by rw [gV rfl];exact hp) (fun m hm=>(zm m hm).imp id .inr) k
  cases Lt:bI (aO h (v++[c])) with
  | true=>rw [oJ (kI (fM _ hh.1) Lt hz)];exact hp
  | false=>rw [bD Lt tF Qb hz ig,oJ rfl];exact hp
 refine ⟨Ur hs (fP c hcn).1 hsc' hX (fun m hm=>?_) k,hX k⟩
 rw [eF,<-ji] at hm
 split at hm
 ·rcases pq (fun q hq=>by
   simp only [List.mem_cons,List.not_mem_nil,or_false] at hq
   rcases hq with rfl | rfl
   ·exact eQ _ _ (fM _ hh.1) hh.2
   ·exact (fP c hh.2).1) hm with q | ⟨q,hq,VS⟩
  ·exact .inl q
  ·simp only [List.mem_cons,List.not_mem_nil,or_false] at hq
   rcases hq with rfl | rfl
   ·exact hXX m VS
   ·exact (zd m VS).imp id .inr
 ·exact hXX m hm
theorem N7 {t y:Tm} (ht:Cn t) {w:List Int} {c:Int} (hw:fB (w++[c])) (hl:w.length<=60) (h:Gm (aO t w) y) :
  (∀ k,(memT k y).length<=F1 t/\(memT k (aG c y)).length<=F1 t)/\∀ a b,y=.chain a b->(memT false (au (aG c a) b)).length<=F1 t:=by
 have hp:=FY t
 rcases Ea _ (Nat.le_refl _) ht w hw.left y h with q | ⟨s,z0,p0,hln⟩
 ·refine ⟨fun k=>?_,fun a b e=>by subst e;cases q⟩
  rw [gV q,gV (vR q)];omega
 have hs:=(p0.cn ht trivial).1
 have hF:=FX p0.nz
 have h1:=Uq hs hw.left (by omega) hln
 obtain ⟨h0,z,v,p,hvw,e,hc,he⟩:=hln
 have hh:=(p.cn hs trivial).1
 have VR:fB (v++[c]):=by
  obtain ⟨q,rfl⟩:=hvw
  intro d hd
  refine hw d ?_
  rw [List.append_assoc]
  exact List.mem_append_right _ hd
 have hvl:v.length<=60:=Nat.le_trans hvw.length_le hl
 by_cases ig:z=eps
 ·subst ig
  rw [ai] at e
  subst e
  refine ⟨fun k=>⟨Nat.le_trans (h1 k) hF,?_⟩,fun a b e=>by rw [e] at hc;cases hc⟩
  rw [<-ji]
  exact Nat.le_trans (Jr hh VR (by rw [List.length_append];simp;omega) k) (Nat.le_trans (FX p.nz) hF)
 by_cases tF:aO h0 v=aH
 ·rw [tF,aQ] at e
  subst e
  exact ⟨fun k=>⟨by rw [gV rfl];omega,by rw [gV (vR rfl)];omega⟩,fun a b e=>by cases e⟩
 have hz:=(p.follow hs trivial (by simp)).1
 have e0:=bD hc tF he hz ig
 rw [e0] at e
 have h2:=fun k=>aav hs VR p ig hc he tF k
 refine ⟨fun k=>⟨Nat.le_trans (h1 k) hF,?_⟩,fun a b e'=>?_⟩
 ·rw [e];exact Nat.le_trans (h2 k).1 hF
 ·rw [e'] at e
  injection e with e1 e2
  subst e1 e2
  exact Nat.le_trans (h2 false).2 hF
theorem Gm.head' {x a b:Tm} (h:Gm x (.chain a b)):Gm x a:=by
 generalize hy:Tm.chain a b=y at h
 induction h with
 | top h=>subst hy;exact .head h (.top (.self _))
 | head h _ ih=>exact .head h (ih hy)
 | star h _ ih=>exact .star h (ih hy)
theorem Gm.star' {x a:Tm} (h:Gm x (.star a)):Gm x a:=by
 generalize hy:Tm.star a=y at h
 induction h with
 | top h=>subst hy;exact .star h (.top (.self _))
 | head h _ ih=>exact .head h (ih hy)
 | star h _ ih=>exact .star h (ih hy)
theorem Gm.more {x y z:Tm} (h:Gm x y) (k:qy y z):Gm x z:=by
 induction h with
 | top h=>exact .top (h.trans k)
 | head h _ ih=>exact .head h (ih k)
 | star h _ ih=>exact .star h (ih k)
structure Us (G:List Gx) (Vd:Tm->Int->Prop):Prop where
 head:∀ {a b:Tm} {c:Int},Vd (.chain a b) c->Vd a c
 next:∀ {a b:Tm} {c:Int},Vd (.chain a b) c->cO a=true->Vd b c
 star:∀ {a:Tm} {c:Int},Vd (.star a) c->Vd a c
 neg:∀ {a:Tm} {c:Int},Vd (.not a) c->Vd a c
 mem:∀ {k:Bool} {a b m:Tm} {c:Int},Vd (.aT k a b) c->m∈memT k (.aT k a b)->Vd m c
 sym:∀ {y:Tm} {c:Int},Vd y c->aC c=true
 cost:∀ {y:Tm} {c:Int},Vd y c->cu y=true\/∃ k,((y,c),k)∈G/\nK c y<=k
 few:∀ {y:Tm} {c:Int} (k:Bool),Vd y c->(memT k y).length<=200000/\(memT k (aG c y)).length<=200000
 ab0:∀ {a b:Tm} {c:Int},Vd (.chain a b) c->(memT false (au (aG c a) b)).length<=200000
def VdL (t:Tm) (L:List Int) (y:Tm) (c:Int):Prop:=∃ a b w,L=a++c::b/\w <:+ a/\Gm (aO t w) y
theorem XN {t:Tm} (ht:Cn t) (hn:bH t<=1380) {L:List Int} (hL:fB L) (hl:L.length<=60):Us (Ec t (uE L)) (VdL t L):=by
 have hsy:∀ {a b w:List Int} {c:Int},L=a++c::b->w <:+ a->fB (w++[c])/\w.length<=60:=fun {a b w c} e hw=>by
  refine ⟨fun d hd=>hL d ?_,?_⟩
  ·rw [e]
   rcases List.mem_append.1 hd with q | q
   ·exact List.mem_append_left _ (hw.subset q)
   ·have:d=c:=by simpa using q
    subst this;simp
  ·have:=hw.length_le
   rw [e,List.length_append,List.length_cons] at hl
   omega
 have hF:F1 t<=200000:=by
  unfold F1
  have:(2*bH t+1)*62<=2761*62:=Nat.mul_le_mul_right _ (by omega)
  omega
 refine ⟨?_,?_,?_,?_,?_,?_,?_,?_,?_⟩
 ·rintro a b c ⟨p,q,w,e,hw,h⟩;exact ⟨p,q,w,e,hw,h.head'⟩
 ·rintro a b c ⟨p,q,w,e,hw,h⟩ hn;exact ⟨p,q,w,e,hw,h.more (.next hn (.self _))⟩
 ·rintro a c ⟨p,q,w,e,hw,h⟩;exact ⟨p,q,w,e,hw,h.star'⟩
 ·rintro a c ⟨p,q,w,e,hw,h⟩;exact ⟨p,q,w,e,hw,h.more (.neg (.self _))⟩
 ·rintro k a b m c ⟨p,q,w,e,hw,h⟩ hm;exact ⟨p,q,w,e,hw,h.more (.mem hm (.self _))⟩
 ·rintro y c ⟨p,q,w,e,hw,h⟩
  exact hL c (by rw [e];simp)
 ·rintro y c ⟨p,q,w,e,hw,h⟩
  exact abH ht (hsy e hw).1 (hsy e hw).2 (fun v hv=>LB e hw hv) h
 ·rintro y c k ⟨p,q,w,e,hw,h⟩
  have:=(N7 ht (hsy e hw).1 (hsy e hw).2 h).1 k
  omega
 ·rintro a b c ⟨p,q,w,e,hw,h⟩
  have:=(N7 ht (hsy e hw).1 (hsy e hw).2 h).2 a b rfl
  omega
end Go.Proofs.YtfolanohokflkaaGreatDoor
