import Derived.Test.YtfolanohokflkaaGreatDoorLnO
namespace Go.Proofs.YtfolanohokflkaaGreatDoor
open Tm (eps)
def F1 (t:Tm):Nat:=(2*bE t+1)*62+3
theorem Km {h:Tm} (hh:Cn h) {v:List Int} (hw:iq v) (hl:v.length<=61) (k:Bool):(memT k (aI h v)).length<=F1 h:=by
 refine Nat.le_trans (tO (fH _ hh) (L:=qp h (DX v)) fun m hm=>?_) ?_
 ·exact (lG _ (Nat.le_refl _) hh _ hw m (qO.member hm)).imp id fun q=>q.listed fun v hv=>rY hv
 ·have h1:=qw h (DX v)
  rw [wS] at h1
  have h2:(2*bE h+1)*(v.length+1)<=(2*bE h+1)*62:=Nat.mul_le_mul_left _ (by omega)
  unfold F1
  omega
theorem GU {s t:Tm} (h:bE s<=bE t):F1 s<=F1 t:=by
 unfold F1
 have:(2*bE s+1)*62<=(2*bE t+1)*62:=Nat.mul_le_mul_right _ (by omega)
 omega
theorem GV (t:Tm):1<=F1 t:=by unfold F1;omega
theorem oN {k:Bool} {x:Tm} (h:bF x=true):(memT k x).length=1:=by cases x<;>first | rfl | cases h
theorem gQ {k:Bool} {x:Tm} (h:bY x=true):(memT k x).length=1:=by rw [bf (l7 h)];rfl
theorem VU {s y:Tm} (hs:Cn s) {w:List Int} (hw:iq w) (hl:w.length<=61) (h:Ln s w y) (k:Bool):(memT k y).length<=F1 s:=by
 obtain ⟨h0,z,v,p,hv,rfl,hc,he⟩:=h
 have hh:=p.cn hs trivial
 have hsv:iq v:=fun c hc=>hw c (hv.subset hc)
 have hvl:=hv.length_le
 have hp:=GV s
 by_cases gZ:z=eps
 ·subst gZ
  rw [ah]
  exact Nat.le_trans (Km hh.1 hsv (by omega) k) (GU p.nz)
 by_cases uw:aI h0 v=aG
 ·rw [uw,aR,gQ rfl];exact hp
 ·have hz:=(p.follow hs trivial (by simp)).1
  rw [bB hc uw he hz gZ,oN rfl];exact hp
theorem NC {k:Bool} {x:Tm} (h:∀ a b,x≠.aZ k a b):(memT k x).length=1:=by
 rcases iP k x with ⟨a,b,e⟩ | hn
 ·exact absurd e (h a b)
 ·rw [bf hn];rfl
theorem VV {s x X:Tm} (hs:Cn s) (hx:Cn x) {c:Int} (hsc:iq [c]) (hX:∀ k,(memT k X).length<=F1 s) (h:∀ m∈memT false x,bY m=true\/m=X\/Ln s [c] m) (k:Bool):(memT k x).length<=F1 s:=by
 have hp:=GV s
 cases k with
 | false=>
  refine Nat.le_trans (tO hx (L:=X::qp s [[c],[]]) fun m hm=>?_) ?_
  ·rcases h m hm with q | q | q
   ·exact .inl q
   ·exact .inr (by rw [q];exact List.mem_cons_self ..)
   ·exact .inr (List.mem_cons_of_mem _ (q.listed fun v hv=>O3 (by simpa using hv)))
  ·have h1:=qw s [[c],[]]
   simp only [List.length_cons,List.length_nil] at h1 ⊢
   have h2:(2*bE s+1)*(0+1+1)<=(2*bE s+1)*62:=Nat.mul_le_mul_left _ (by omega)
   unfold F1
   omega
 | true=>
  by_cases hg:∃ a b,x=.aZ true a b
  ·obtain ⟨a,b,rfl⟩:=hg
   rcases h (.aZ true a b) (by simp [memT]) with q | q | q
   ·cases q
   ·rw [q];exact hX true
   ·exact VU hs hsc (by simp) q true
  ·rw [NC fun a b e=>hg ⟨a,b,e⟩];exact hp
theorem abX {s h z:Tm} (hs:Cn s) {v:List Int} {c:Int} (hw:iq (v++[c])) (p:dL s eps h z) (gZ:z≠eps) (hc:bF (aI h v)=false) (he:aI h v≠eps) (hv:aI h v≠aG) (k:Bool) :
  (memT k (aK c (.chain (aI h v) z))).length<=F1 s/\(memT k (ax (aK c (aI h v)) z)).length<=F1 s:=by
 have IH:∀ h,dZ h<dZ s->Cn h->∀ v,iq v->∀ y,qO (aI h v) y->bY y=true\/Ln h v y:=fun h _ hh v hv y hy=>lG _ (Nat.le_refl _) hh v hv y hy
 have hsc:iq ([]++[c]):=fun d hd=>hw d (List.mem_append_right _ (by simpa using hd))
 have hsc':iq [c]:=hsc
 have hh:=p.cn hs trivial
 obtain ⟨hz,M3⟩:=p.follow hs trivial (by simp)
 have hcn:Cn (.chain (aI h v) z):=⟨fH v hh.1,hh.2,hc,hv,he,hz,gZ⟩
 have zm:∀ m∈memT false z,bY m=true\/Ln s [c] m:=fun m hm=>(abt hs IH p (w:=[]) hm).imp id fun q=>q.ln.mono List.nil_suffix
 have zd:∀ m∈memT false (aK c z),bY m=true\/Ln s [c] m:=by
  intro m hm
  rcases M3 with e | ⟨b,z1,p1,rfl,hbc,hbe,hbv,hz1,hbs⟩
  ·exact absurd e gZ
  ·exact (U8 hs IH (w:=[]) hsc _ (Nat.le_refl _) (v:=[]) p1 (hbs.imp id fun q=>⟨q.1,q.2,rfl⟩) List.nil_suffix hbc hbe hm).imp id fun q=>q.ln
 rw [<-jc]
 have hXX:∀ m∈memT false (ax (aI h (v++[c])) z),bY m=true\/m=ax (aI h (v++[c])) z\/Ln s [c] m:=by
  intro m hm
  by_cases uw:aI h (v++[c])=aG
  ·rw [uw,aR] at hm
   exact .inl (pO rfl hm)
  by_cases Ry:aI h (v++[c])=eps
  ·rw [Ry,bq] at hm
   exact (zm m hm).imp id .inr
  cases M0:bF (aI h (v++[c])) with
  | true=>exact .inr (.inl (lF (kQ (fH _ hh.1) M0 hz) hm))
  | false=>
   have e0:=bB M0 uw Ry hz gZ
   exact .inr (.inl (lF (x:=ax (aI h (v++[c])) z) (by rw [e0];rfl) hm))
 have hX:∀ k,(memT k (ax (aI h (v++[c])) z)).length<=F1 s:=by
  intro k
  have hp:=GV s
  by_cases uw:aI h (v++[c])=aG
  ·rw [uw,aR,gQ rfl];exact hp
  by_cases Ry:aI h (v++[c])=eps
  ·rw [Ry,bq]
   exact VV (X:=aG) hs hh.2 hsc' (fun k=>by rw [gQ rfl];exact hp) (fun m hm=>(zm m hm).imp id .inr) k
  cases M0:bF (aI h (v++[c])) with
  | true=>rw [oN (kQ (fH _ hh.1) M0 hz)];exact hp
  | false=>rw [bB M0 uw Ry hz gZ,oN rfl];exact hp
 refine ⟨VV hs (fO c hcn).1 hsc' hX (fun m hm=>?_) k,hX k⟩
 rw [fM,<-jc] at hm
 split at hm
 ·rcases pK (fun q hq=>by
   simp only [List.mem_cons,List.not_mem_nil,or_false] at hq
   rcases hq with rfl | rfl
   ·exact eF _ _ (fH _ hh.1) hh.2
   ·exact (fO c hh.2).1) hm with q | ⟨q,hq,XR⟩
  ·exact .inl q
  ·simp only [List.mem_cons,List.not_mem_nil,or_false] at hq
   rcases hq with rfl | rfl
   ·exact hXX m XR
   ·exact (zd m XR).imp id .inr
 ·exact hXX m hm
theorem Pz {t y:Tm} (ht:Cn t) {w:List Int} {c:Int} (hw:iq (w++[c])) (hl:w.length<=60) (h:Ht (aI t w) y) :
  (∀ k,(memT k y).length<=F1 t/\(memT k (aK c y)).length<=F1 t)/\∀ a b,y=.chain a b->(memT false (ax (aK c a) b)).length<=F1 t:=by
 have hp:=GV t
 rcases EW _ (Nat.le_refl _) ht w hw.left y h with q | ⟨s,z0,p0,hln⟩
 ·refine ⟨fun k=>?_,fun a b e=>by subst e;cases q⟩
  rw [gQ q,gQ (wP q)];omega
 have hs:=(p0.cn ht trivial).1
 have hF:=GU p0.nz
 have h1:=VU hs hw.left (by omega) hln
 obtain ⟨h0,z,v,p,hvw,e,hc,he⟩:=hln
 have hh:=(p.cn hs trivial).1
 have XQ:iq (v++[c]):=by
  obtain ⟨q,rfl⟩:=hvw
  intro d hd
  refine hw d ?_
  rw [List.append_assoc]
  exact List.mem_append_right _ hd
 have hvl:v.length<=60:=Nat.le_trans hvw.length_le hl
 by_cases gZ:z=eps
 ·subst gZ
  rw [ah] at e
  subst e
  refine ⟨fun k=>⟨Nat.le_trans (h1 k) hF,?_⟩,fun a b e=>by rw [e] at hc;cases hc⟩
  rw [<-jc]
  exact Nat.le_trans (Km hh XQ (by rw [List.length_append];simp;omega) k) (Nat.le_trans (GU p.nz) hF)
 by_cases uw:aI h0 v=aG
 ·rw [uw,aR] at e
  subst e
  exact ⟨fun k=>⟨by rw [gQ rfl];omega,by rw [gQ (wP rfl)];omega⟩,fun a b e=>by cases e⟩
 have hz:=(p.follow hs trivial (by simp)).1
 have e0:=bB hc uw he hz gZ
 rw [e0] at e
 have h2:=fun k=>abX hs XQ p gZ hc he uw k
 refine ⟨fun k=>⟨Nat.le_trans (h1 k) hF,?_⟩,fun a b e'=>?_⟩
 ·rw [e];exact Nat.le_trans (h2 k).1 hF
 ·rw [e'] at e
  injection e with e1 e2
  subst e1 e2
  exact Nat.le_trans (h2 false).2 hF
theorem Ht.head' {x a b:Tm} (h:Ht x (.chain a b)):Ht x a:=by
 generalize hy:Tm.chain a b=y at h
 induction h with
 | top h=>subst hy;exact .head h (.top (.self _))
 | head h _ ih=>exact .head h (ih hy)
 | star h _ ih=>exact .star h (ih hy)
theorem Ht.star' {x a:Tm} (h:Ht x (.star a)):Ht x a:=by
 generalize hy:Tm.star a=y at h
 induction h with
 | top h=>subst hy;exact .star h (.top (.self _))
 | head h _ ih=>exact .head h (ih hy)
 | star h _ ih=>exact .star h (ih hy)
theorem Ht.more {x y z:Tm} (h:Ht x y) (k:qO y z):Ht x z:=by
 induction h with
 | top h=>exact .top (h.trans k)
 | head h _ ih=>exact .head h (ih k)
 | star h _ ih=>exact .star h (ih k)
structure Kn (G:List Gx) (Vd:Tm->Int->Prop):Prop where
 head:∀ {a b:Tm} {c:Int},Vd (.chain a b) c->Vd a c
 next:∀ {a b:Tm} {c:Int},Vd (.chain a b) c->di a=true->Vd b c
 star:∀ {a:Tm} {c:Int},Vd (.star a) c->Vd a c
 neg:∀ {a:Tm} {c:Int},Vd (.not a) c->Vd a c
 mem:∀ {k:Bool} {a b m:Tm} {c:Int},Vd (.aZ k a b) c->m∈memT k (.aZ k a b)->Vd m c
 sym:∀ {y:Tm} {c:Int},Vd y c->aF c=true
 cost:∀ {y:Tm} {c:Int},Vd y c->bY y=true\/∃ k,((y,c),k)∈G/\nM c y<=k
 few:∀ {y:Tm} {c:Int} (k:Bool),Vd y c->(memT k y).length<=200000/\(memT k (aK c y)).length<=200000
 adB:∀ {a b:Tm} {c:Int},Vd (.chain a b) c->(memT false (ax (aK c a) b)).length<=200000
def VdL (t:Tm) (L:List Int) (y:Tm) (c:Int):Prop:=∃ a b w,L=a++c::b/\w <:+ a/\Ht (aI t w) y
theorem GX {t:Tm} (ht:Cn t) (hn:bE t<=1380) {L:List Int} (hL:iq L) (hl:L.length<=60):Kn (uy t (nN L)) (VdL t L):=by
 have hsy:∀ {a b w:List Int} {c:Int},L=a++c::b->w <:+ a->iq (w++[c])/\w.length<=60:=fun {a b w c} e hw=>by
  refine ⟨fun d hd=>hL d ?_,?_⟩
  ·rw [e]
   rcases List.mem_append.1 hd with q | q
   ·exact List.mem_append_left _ (hw.subset q)
   ·have:d=c:=by simpa using q
    subst this;simp
  ·have:=hw.length_le
   rw [e,List.length_append,List.length_cons] at hl
   omega
 have hF:F1 t<=200000:=by
  unfold F1
  have:(2*bE t+1)*62<=2761*62:=Nat.mul_le_mul_right _ (by omega)
  omega
 refine ⟨?_,?_,?_,?_,?_,?_,?_,?_,?_⟩
 ·rintro a b c ⟨p,q,w,e,hw,h⟩;exact ⟨p,q,w,e,hw,h.head'⟩
 ·rintro a b c ⟨p,q,w,e,hw,h⟩ hn;exact ⟨p,q,w,e,hw,h.more (.next hn (.self _))⟩
 ·rintro a c ⟨p,q,w,e,hw,h⟩;exact ⟨p,q,w,e,hw,h.star'⟩
 ·rintro a c ⟨p,q,w,e,hw,h⟩;exact ⟨p,q,w,e,hw,h.more (.neg (.self _))⟩
 ·rintro k a b m c ⟨p,q,w,e,hw,h⟩ hm;exact ⟨p,q,w,e,hw,h.more (.mem hm (.self _))⟩
 ·rintro y c ⟨p,q,w,e,hw,h⟩
  exact hL c (by rw [e];simp)
 ·rintro y c ⟨p,q,w,e,hw,h⟩
  exact adi ht (hsy e hw).1 (hsy e hw).2 (fun v hv=>M7 e hw hv) h
 ·rintro y c k ⟨p,q,w,e,hw,h⟩
  have:=(Pz ht (hsy e hw).1 (hsy e hw).2 h).1 k
  omega
 ·rintro a b c ⟨p,q,w,e,hw,h⟩
  have:=(Pz ht (hsy e hw).1 (hsy e hw).2 h).2 a b rfl
  omega
end Go.Proofs.YtfolanohokflkaaGreatDoor
