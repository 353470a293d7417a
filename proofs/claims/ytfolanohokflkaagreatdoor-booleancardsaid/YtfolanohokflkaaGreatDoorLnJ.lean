import Derived.Test.YtfolanohokflkaaGreatDoorLnE
namespace Go.Proofs.YtfolanohokflkaaGreatDoor
open Tm (eps)
def Ln (t:Tm) (w:List Int) (y:Tm):Prop:=∃ h z v,dL t eps h z/\v <:+ w/\y=au (aO h v) z/\bI (aO h v)=false/\aO h v≠eps
def Nv (t:Tm) (w:List Int) (y:Tm):Prop:=∃ h z v,dL t eps h z/\v <:+ w/\y=au (aO h v) z/\bI (aO h v)=false/\aO h v≠eps/\(ed h<ed t\/(h=t/\oH t=true/\v=[]))
theorem ji (t:Tm) (w:List Int) (c:Int):aO t (w++[c])=aG c (aO t w):=by simp [aO]
theorem Nv.up {t h z y:Tm} {v w:List Int} (p:dL t eps h z) (ht:Cn t) (hs:ed h<ed t) (hl:Ln h v y) (hv:v <:+ w):Nv t w (au y z):=by
 obtain ⟨h2,z2,v2,p2,hv2,rfl,hc,he⟩:=hl
 have hh:=p.cn ht trivial
 have h2c:=p2.cn hh.1 trivial
 refine ⟨h2,au z2 z,v2,p.comp ht p2,hv2.trans hv,pW _ _ _ (fM v2 h2c.1) h2c.2,hc,he,.inl ?_⟩
 have:=p2.sz
 omega
theorem Nv.ln {t y:Tm} {w:List Int} (h:Nv t w y):Ln t w y:=by
 obtain ⟨h,z,v,p,hv,e,hc,he,_⟩:=h
 exact ⟨h,z,v,p,hv,e,hc,he⟩
theorem kI:∀ {u z:Tm},Cn u->bI u=true->z≠aH->bI (au u z)=true:=by
 intro u z hu hc hz
 cases u with
 | chain a b=>
  obtain ⟨_,hb,hac,KX,hae,hbv,hbe⟩:=hu
  by_cases ig:z=eps
  ·rw [ig,ai];rfl
  ·rw [au,if_neg hz,if_neg ig,bD hac KX hae (fun e=>(oq hb e).elim hbv hz) (fun e=>hbe (AY hb e).1)]
   rfl
 | _=>cases hc
theorem ll {k:Bool} {x m:Tm} (h:bI x=true) (hm:m∈memT k x):m=x:=by
 cases x with
 | chain a b=>simpa [memT] using hm
 | _=>cases h
theorem pE {k:Bool} {x m:Tm} (h:cu x=true) (hm:m∈memT k x):cu m=true:=by
 rw [bq (lT h)] at hm
 simp at hm;subst hm
 exact h
section
variable {t:Tm} (ht:Cn t) (IH:∀ h,ed h<ed t->Cn h->∀ v,fB v->∀ y,qy (aO h v) y->cu y=true\/Ln h v y)
include ht IH
theorem Z0 {h0 z:Tm} (p0:dL t eps h0 z) {w:List Int} {m:Tm} (hm:m∈memT false z):cu m=true\/Nv t w m:=by
 rcases (p0.follow ht trivial (by simp)).2 with rfl | ⟨b,z1,p,rfl,hc,he,hv,hz1,hs⟩
 ·exact .inl (pE rfl hm)
 ·by_cases ig:z1=eps
  ·subst ig
   rw [ai] at hm
   rcases hs with hs | ⟨rfl,hst⟩
   ·rcases IH b hs (p.cn ht trivial).1 [] (fun _ h=>by simp at h) m (qy.member hm) with h | h
    ·exact .inl h
    ·have:=Nv.up p ht hs h (List.nil_suffix (l:=w))
     rw [ai] at this
     exact .inr this
   ·cases b with
    | star a=>
     have:m=.star a:=by simpa [memT] using hm
     subst this
     exact .inr ⟨.star a,eps,[],p,List.nil_suffix,(ai _).symm,rfl,by simp [aO],.inr ⟨rfl,rfl,rfl⟩⟩
    | _=>cases hst
  ·rw [bD hc hv he hz1 ig] at hm
   have e:=ll rfl hm
   subst e
   exact .inr ⟨b,z1,[],p,List.nil_suffix,(bD hc hv he hz1 ig).symm,hc,he,hs.imp id (fun q=>⟨q.1,q.2,rfl⟩)⟩
theorem Z4 {h z:Tm} (p:dL t eps h z) (hs:ed h<ed t) {v w:List Int} (hv:v <:+ w) (hw:fB w) {m:Tm} (hm:m∈memT false (au (aO h v) z)):cu m=true\/Nv t w m:=by
 have hh:=p.cn ht trivial
 have hX:=fM v hh.1
 have hz:=(p.follow ht trivial (by simp)).1
 have hsv:fB v:=fun c hc=>hw c (hv.subset hc)
 have hQ:=IH h hs hh.1 v hsv
 by_cases tF:aO h v=aH
 ·rw [tF,aQ] at hm
  exact .inl (pE rfl hm)
 by_cases Qb:aO h v=eps
 ·rw [Qb,bz] at hm
  exact Z0 ht IH p hm
 cases Lt:bI (aO h v) with
 | true=>
  have e:=ll (kI hX Lt hz) hm
  subst e
  rcases hQ _ (.self _) with q | q
  ·cases hx:aO h v<;>rw [hx] at Lt q<;>simp [bI] at Lt;simp [cu] at q
  ·exact .inr (Nv.up p ht hs q hv)
 | false=>
  by_cases ig:z=eps
  ·subst ig
   rw [ai] at hm
   rcases hQ m (qy.member hm) with q | q
   ·exact .inl q
   ·have:=Nv.up p ht hs q hv
    rw [ai] at this
    exact .inr this
  ·rw [bD Lt tF Qb hz ig] at hm
   have e:=ll rfl hm
   subst e
   exact .inr ⟨h,z,v,p,hv,(bD Lt tF Qb hz ig).symm,Lt,Qb,.inl hs⟩
theorem Tn {c:Int} {w:List Int} (hw:fB (w++[c])):∀ (n:Nat) {h z:Tm} {v:List Int},ed z<=n->dL t eps h z->(ed h<ed t\/(h=t/\oH t=true/\v=[]))->v <:+ w->bI (aO h v)=false->aO h v≠eps ->
  ∀ {m:Tm},m∈memT false (aG c (au (aO h v) z))->cu m=true\/Nv t (w++[c]) m:=by
 have base:∀ {h:Tm} {v:List Int},dL t eps h eps->(ed h<ed t\/(h=t/\oH t=true/\v=[]))->v <:+ w->∀ {m:Tm},m∈memT false (aG c (aO h v))->cu m=true\/Nv t (w++[c]) m:=by
  intro h v p hs hv m hm
  rcases hs with hs | ⟨rfl,hst,rfl⟩
  ·rw [<-ji,<-ai (aO h (v++[c]))] at hm
   obtain ⟨q,rfl⟩:=hv
   exact Z4 ht IH p hs ⟨q,by simp⟩ hw hm
  ·cases h with
   | star a=>
    have hm':m∈memT false (au (aO a [c]) (au (.star a) eps)):=by rw [ai];exact hm
    exact Z4 ht IH (.star (.here _ _)) (by simp only [ed];omega) ⟨w,rfl⟩ hw hm'
   | _=>cases hst
 intro n
 induction n with
 | zero=>intro h z v hz;cases z<;>simp [ed] at hz
 | succ n ihn=>
  intro h z v hn p hs hv hc he m hm
  have hh:=p.cn ht trivial
  have hX:=fM v hh.1
  by_cases tF:aO h v=aH
  ·rw [tF,aQ] at hm
   exact .inl (pE rfl hm)
  by_cases ig:z=eps
  ·subst ig
   rw [ai] at hm
   exact base p hs hv hm
  have hsl:ed h<ed t:=by
   rcases hs with hs | ⟨rfl,_⟩
   ·exact hs
   ·exact absurd (p.same (Nat.le_refl _)).2 ig
  obtain ⟨hz,Lu⟩:=p.follow ht trivial (by simp)
  rw [bD hc tF he hz ig,eF,<-ji] at hm
  have VR:v++[c] <:+ w++[c]:=by obtain ⟨q,rfl⟩:=hv;exact ⟨q,by simp⟩
  have hU:∀ m∈memT false (au (aO h (v++[c])) z),cu m=true\/Nv t (w++[c]) m:=fun m hm=>Z4 ht IH p hsl VR hw hm
  split at hm
  ·rcases pq (fun q hq=>by
    simp only [List.mem_cons,List.not_mem_nil,or_false] at hq
    rcases hq with rfl | rfl
    ·exact eQ _ _ (fM _ hh.1) hh.2
    ·exact (fP c hh.2).1) hm with q | ⟨q,hq,VS⟩
   ·exact .inl q
   ·simp only [List.mem_cons,List.not_mem_nil,or_false] at hq
    rcases hq with rfl | rfl
    ·exact hU m VS
    ·rcases Lu with rfl | ⟨b,z1,p1,rfl,hbc,hbe,hbv,hz1,hbs⟩
     ·exact absurd rfl ig
     ·by_cases Tp:z1=eps
      ·subst Tp
       rw [ai] at VS
       exact base (v:=[]) p1 (hbs.imp id (fun q=>⟨q.1,q.2,rfl⟩)) List.nil_suffix VS
      ·refine ihn (h:=b) (z:=z1) (v:=[]) ?_ p1 (hbs.imp id (fun q=>⟨q.1,q.2,rfl⟩)) List.nil_suffix hbc hbe VS
       rw [bD hbc hbv hbe hz1 Tp] at hn
       simp only [ed] at hn
       omega
  ·exact hU m hm
theorem abB {w:List Int} (hw:fB w):∀ (n:Nat) {h z:Tm} {v:List Int},ed z<=n->dL t eps h z->(ed h<ed t\/(h=t/\oH t=true/\v=[]))->v <:+ w->bI (aO h v)=false->aO h v≠eps ->
  ∀ {y:Tm},qy (au (aO h v) z) y->cu y=true\/Ln t w y:=by
 have base:∀ {h:Tm} {v:List Int},dL t eps h eps->(ed h<ed t\/(h=t/\oH t=true/\v=[]))->v <:+ w->∀ {y:Tm},qy (aO h v) y->cu y=true\/Ln t w y:=by
  intro h v p hs hv y hy
  rcases hs with hs | ⟨rfl,hst,rfl⟩
  ·rcases IH h hs (p.cn ht trivial).1 v (fun c hc=>hw c (hv.subset hc)) y hy with q | q
   ·exact .inl q
   ·have:=(Nv.up p ht hs q hv).ln
    rw [ai] at this
    exact .inr this
  ·cases h with
   | star a=>
    cases hy with
    | self=>exact .inr ⟨.star a,eps,[],p,List.nil_suffix,(ai _).symm,rfl,by simp [aO]⟩
   | _=>cases hst
 intro n
 induction n with
 | zero=>intro h z v hz;cases z<;>simp [ed] at hz
 | succ n ihn=>
  intro h z v hn p hs hv hc he y hy
  by_cases tF:aO h v=aH
  ·rw [tF,aQ] at hy
   exact .inl (nH rfl hy)
  by_cases ig:z=eps
  ·subst ig
   rw [ai] at hy
   exact base p hs hv hy
  obtain ⟨hz,Lu⟩:=p.follow ht trivial (by simp)
  rw [bD hc tF he hz ig] at hy
  cases hy with
  | self=>exact .inr ⟨h,z,v,p,hv,(bD hc tF he hz ig).symm,hc,he⟩
  | next _ hy=>
   rcases Lu with rfl | ⟨b,z1,p1,rfl,hbc,hbe,hbv,hz1,hbs⟩
   ·exact absurd rfl ig
   ·by_cases Tp:z1=eps
    ·subst Tp
     rw [ai] at hy
     exact base (v:=[]) p1 (hbs.imp id (fun q=>⟨q.1,q.2,rfl⟩)) List.nil_suffix hy
    ·refine ihn (h:=b) (z:=z1) (v:=[]) ?_ p1 (hbs.imp id (fun q=>⟨q.1,q.2,rfl⟩)) List.nil_suffix hbc hbe hy
     rw [bD hbc hbv hbe hz1 Tp] at hn
     simp only [ed] at hn
     omega
theorem acF (Tq:bI t=true\/oH t=true):∀ (n:Nat) (w:List Int),w.length=n->fB w->∀ m∈memT false (aO t w),cu m=true\/Nv t w m:=by
 intro n
 induction n with
 | zero=>
  intro w hn _ m hm
  obtain rfl:w=[]:=List.length_eq_zero_iff.1 hn
  cases t with
  | chain a b=>
   have e:m=.chain a b:=by simpa [memT,aO] using hm
   subst e
   obtain ⟨_,_,hac,KX,hae,hbv,hbe⟩:=ht
   exact .inr ⟨a,au b eps,[],.left (.here _ _),List.nil_suffix,by rw [ai];exact (bD hac KX hae hbv hbe).symm,hac,hae,.inl (by simp only [ed];omega)⟩
  | star a=>
   have e:m=.star a:=by simpa [memT,aO] using hm
   subst e
   exact .inr ⟨.star a,eps,[],.here _ _,List.nil_suffix,(ai _).symm,rfl,by simp [aO],.inr ⟨rfl,rfl,rfl⟩⟩
  | _=>rcases Tq with h | h<;>cases h
 | succ n ih=>
  intro w hn hw m hm
  obtain ⟨u,c,rfl⟩:∃ u c,w=u++[c]:=⟨w.dropLast,w.getLast (by intro e;subst e;cases hn),(List.dropLast_concat_getLast _).symm⟩
  have hu:u.length=n:=by simpa using hn
  rw [ji] at hm
  rcases Xd (fM u ht) hm with q | ⟨m0,hm0,hm⟩
  ·exact .inl q
  ·rcases ih u hu hw.left m0 hm0 with q | ⟨h,z,v,p,hv,rfl,hc,he,hs⟩
   ·exact .inl (pE (vR q) hm)
   ·exact Tn ht IH hw _ (Nat.le_refl _) p hs hv hc he hm
theorem YW (Tq:bI t=true\/oH t=true) {w:List Int} (hw:fB w) {y:Tm} (h:qy (aO t w) y):cu y=true\/Ln t w y:=by
 have hm:=acF ht IH Tq _ w rfl hw
 have hx:=fM w ht
 rcases iU false (aO t w) with ⟨a,b,e⟩ | hn
 ·rw [e] at h hm
  cases h with
  | self=>exact .inr ⟨t,eps,w,.here _ _,List.suffix_refl _,by rw [e,ai],by rw [e];rfl,by rw [e];simp⟩
  | mem hmm hy=>
   rcases hm _ hmm with q | ⟨h,z,v,p,hv,rfl,hc,he,hs⟩
   ·exact .inl (nH q hy)
   ·exact abB ht IH hw _ (Nat.le_refl _) p hs hv hc he hy
 ·rw [bq hn] at hm
  rcases hm _ (List.mem_cons_self ..) with q | ⟨h',z,v,p,hv,e,hc,he,hs⟩
  ·exact .inl (nH q h)
  ·rw [e] at h
   exact abB ht IH hw _ (Nat.le_refl _) p hs hv hc he h
end
end Go.Proofs.YtfolanohokflkaaGreatDoor
namespace Go.Proofs.YtfolanohokflkaaGreatDoor
open Tm (eps)
theorem IC:∀ (w:List Int) {x:Tm},Cn x->aO (jF x) w=jF (aO x w)
 | [],_,_=>rfl
 | c::w,x,h=>by
  show aO (aG c (jF x)) w=jF (aO (aG c x) w)
  rw [Xg h,IC w (fP c h).1]
theorem AZ {k:Bool}:∀ (w:List Int) {l:List Tm},(∀ t∈l,Cn t)->fB w->aO (aj k l) w=aj k (l.map fun t=>aO t w)
 | [],l,_,_=>by simp [aO]
 | c::w,l,h,hw=>by
  show aO (aG c (aj k l)) w=aj k (l.map fun t=>aO (aG c t) w)
  rw [P_ (hw c (List.mem_cons_self ..)) h,AZ w (nI h) (fun d hd=>hw d (List.mem_cons_of_mem _ hd)),List.map_map]
  rfl
theorem CY {k:Bool} {t:Tm} (h:Cn t):aj k (memT k t)=t:=by
 have hm:∀ m∈memT k t,Cn m:=fun m hm=>(h.members m hm).1
 have e:(memT k t).flatMap (memT k)=memT k t:=by
  have:∀ l:List Tm,(∀ m∈l,dE k m=true)->l.flatMap (memT k)=l:=by
   intro l
   induction l with
   | nil=>intro _;rfl
   | cons a r ih=>intro h;rw [List.flatMap_cons,bq (h a (List.mem_cons_self ..)),ih fun m hm=>h m (List.mem_cons_of_mem _ hm)];rfl
  exact this _ fun m hm=>(h.members m hm).2
 have e2:aj k (memT k t)=aj k [t]:=by
  unfold aj
  rw [e,List.flatMap_cons,List.flatMap_nil,List.append_nil]
 rw [e2,group_one' h]
theorem xw:∀ (w:List Int) {t:Tm},cu t=true->cu (aO t w)=true
 | [],_,h=>h
 | c::w,_,h=>xw w (vR (c:=c) h)
theorem Ln.inner {t a y:Tm} {w:List Int} (p:∀ h z,dL a eps h z->dL t eps h z) (h:Ln a w y):Ln t w y:=by
 obtain ⟨h,z,v,q,hv,e,hc,he⟩:=h
 exact ⟨h,z,v,p h z q,hv,e,hc,he⟩
theorem Ln.self {t:Tm} {w:List Int} (hc:bI (aO t w)=false) (he:aO t w≠eps):Ln t w (aO t w):=⟨t,eps,w,.here _ _,List.suffix_refl _,(ai _).symm,hc,he⟩
theorem lq:∀ (n:Nat) {t:Tm},ed t<=n->Cn t->∀ w,fB w->∀ y,qy (aO t w) y->cu y=true\/Ln t w y:=by
 intro n
 induction n with
 | zero=>intro t ht;cases t<;>simp [ed] at ht
 | succ n ih=>
  intro t hn ht w hw y hy
  have IH:∀ h,ed h<ed t->Cn h->∀ v,fB v->∀ y,qy (aO h v) y->cu y=true\/Ln h v y:=fun h hs hh v hv y hy=>ih (by omega) hh v hv y hy
  cases t with
  | set l=>exact .inl (nH (xw w rfl) hy)
  | eps=>exact .inl (nH (xw w rfl) hy)
  | chain a b=>exact YW ht IH (.inl rfl) hw hy
  | star a=>exact YW ht IH (.inr rfl) hw hy
  | not a=>
   have ha:Cn a:=ht.1
   have e:aO (.not a) w=jF (aO a w):=by
    rw [<-IC w ha]
    congr 1
    have:=ht.2.1
    cases a<;>simp [Nc] at this<;>rfl
   have hIa:=IH a (by simp only [ed];omega) ha w hw
   have up:∀ y,cu y=true\/Ln a w y->cu y=true\/Ln (.not a) w y:=fun y h=>h.imp id (Ln.inner fun _ _ q=>.neg q)
   rw [e] at hy
   rcases Xc hy with rfl | hy
   ·cases hc:bI (jF (aO a w)) with
    | false=>
     by_cases he:jF (aO a w)=eps
     ·rw [he];exact .inl rfl
     ·rw [<-e] at hc he ⊢
      exact .inr (Ln.self hc he)
    | true=>
     refine up _ (hIa _ ?_)
     cases hX:aO a w with
     | not q=>exact .neg (.self _)
     | _=>rw [hX] at hc;cases hc
   ·exact up _ (hIa y hy)
  | aT k a b=>
   have hm:∀ m∈memT k (.aT k a b),Cn m:=fun m hm=>(ht.members m hm).1
   have e:aO (.aT k a b) w=aj k ((memT k (.aT k a b)).map fun t=>aO t w):=by
    conv=>lhs;rw [<-CY (k:=k) ht]
    exact AZ w hm hw
   have hcn:∀ t∈(memT k (.aT k a b)).map (fun t=>aO t w),Cn t:=fun t ht'=>by
    obtain ⟨m,hm',rfl⟩:=List.mem_map.1 ht'
    exact fM w (hm m hm')
   have up:∀ m∈memT k (.aT k a b),∀ y,qy (aO m w) y->cu y=true\/Ln (.aT k a b) w y:=fun m hm' y hy=>
    (IH m (uB hm') (hm m hm') w hw y hy).imp id (Ln.inner fun _ _ q=>.mem hm' q)
   rw [e] at hy
   rcases P8 hcn hy with rfl | q | ⟨d,hd,m,hmd,hy⟩
   ·cases hc:bI (aj k ((memT k (.aT k a b)).map fun t=>aO t w)) with
    | false=>
     by_cases he:aj k ((memT k (.aT k a b)).map fun t=>aO t w)=eps
     ·rw [he];exact .inl rfl
     ·rw [<-e] at hc he ⊢
      exact .inr (Ln.self hc he)
    | true=>
     rcases rz (k:=k) hcn with q | ⟨d,hd,hx⟩ | ⟨a',b',e',_⟩
     ·exact .inl q
     ·obtain ⟨m,hm',rfl⟩:=List.mem_map.1 hd
      exact up m hm' _ (qy.member hx)
     ·rw [e'] at hc;cases hc
   ·exact .inl q
   ·obtain ⟨m0,hm0,rfl⟩:=List.mem_map.1 hd
    exact up m0 hm0 y ((qy.member hmd).trans hy)
inductive Gm:Tm->Tm->Prop where
 | top {x y:Tm}:qy x y->Gm x y
 | head {x a b y:Tm}:qy x (.chain a b)->Gm a y->Gm x y
 | star {x a y:Tm}:qy x (.star a)->Gm a y->Gm x y
end Go.Proofs.YtfolanohokflkaaGreatDoor
namespace Go.Proofs.YtfolanohokflkaaGreatDoor
open Tm (eps)
def dm:Tm->List Tm
 | .set _=>[]
 | .eps=>[]
 | .chain a b=>dm a++dm b
 | .star a=>a::dm a
 | .not a=>dm a
 | .aT _ a b=>dm a++dm b
theorem vT {x:Tm}:∀ (u z:Tm),x∈dm (au u z)->x∈dm u\/x∈dm z:=by
 intro u
 induction u with
 | chain a b iha ihb=>
  intro z h
  rw [au] at h
  split at h
  ·cases h
  split at h
  ·exact .inl h
  ·rcases iha _ h with h | h
   ·exact .inl (List.mem_append_left _ h)
   ·rcases ihb _ h with h | h
    ·exact .inl (List.mem_append_right _ h)
    ·exact .inr h
 | eps=>intro z h;rw [bz] at h;exact .inr h
 | set l=>
  intro z h
  rw [au] at h
  split at h
  ·cases h
  split at h
  ·exact .inl h
  ·exact .inr (by simpa [dm] using h)
 | _=>
  intro z h
  rw [au] at h
  split at h
  ·cases h
  split at h
  ·exact .inl h
  ·exact List.mem_append.1 h
theorem mO {k:Bool} {x:Tm}:∀ (t:Tm),(∃ m∈memT k t,x∈dm m)↔x∈dm t
 | t=>by
  rcases iU k t with ⟨a,b,rfl⟩ | hn
  ·rw [h_]
   have:=mO (k:=k) (x:=x) b
   simp only [List.mem_cons,exists_eq_or_imp,this,dm,List.mem_append]
  ·rw [bq hn]
   simp only [List.mem_cons,List.not_mem_nil,or_false,exists_eq_left]
   exact Iff.rfl
 termination_by t=>t
theorem yo {k:Bool} {x:Tm} {l:List Tm} (hl:∀ t∈l,Cn t) (h:x∈dm (aj k l)):∃ d∈l,x∈dm d:=by
 obtain ⟨m,hm,hx⟩:=(mO (k:=k) _).2 h
 rcases pq hl hm with q | ⟨d,hd,hmd⟩
 ·cases m with
  | set _=>cases hx
  | eps=>cases hx
  | not a=>
   cases a with
   | set _=>cases hx
   | _=>simp [cu] at q
  | _=>simp [cu] at q
 ·exact ⟨d,hd,(mO d).1 ⟨m,hmd,hx⟩⟩
theorem Qc {c:Int} {x:Tm}:∀ (n:Nat) {t:Tm},ed t<=n->Cn t->x∈dm (aG c t)->x∈dm t:=by
 intro n
 induction n with
 | zero=>intro t ht;cases t<;>simp [ed] at ht
 | succ n ih=>
  intro t hn ht h
  cases t with
  | set l=>rw [g_] at h;split at h<;>cases h
  | eps=>cases h
  | chain a b=>
   simp only [ed] at hn
   have hu:x∈dm (au (aG c a) b)->x∈dm (.chain a b):=fun h=>by
    rcases vT _ _ h with h | h
    ·exact List.mem_append_left _ (ih (by omega) ht.1 h)
    ·exact List.mem_append_right _ h
   rw [eF] at h
   split at h
   ·obtain ⟨d,hd,hx⟩:=yo (fun q hq=>by
     simp only [List.mem_cons,List.not_mem_nil,or_false] at hq
     rcases hq with rfl | rfl
     ·exact eQ _ _ (fP c ht.1).1 ht.2.1
     ·exact (fP c ht.2.1).1) h
    simp only [List.mem_cons,List.not_mem_nil,or_false] at hd
    rcases hd with rfl | rfl
    ·exact hu hx
    ·exact List.mem_append_right _ (ih (by omega) ht.2.1 hx)
   ·exact hu h
  | star a=>
   simp only [ed] at hn
   rw [o6] at h
   rcases vT _ _ h with h | h
   ·exact List.mem_cons_of_mem _ (ih (by omega) ht.1 h)
   ·exact h
  | not a=>
   simp only [ed] at hn
   rw [qO] at h
   refine ih (t:=a) (by omega) ht.1 ?_
   cases hd:aG c a<;>rw [hd] at h<;>exact h
  | aT k a b=>
   rw [lM] at h
   have hm:∀ m∈memT k (.aT k a b),Cn m:=fun m hm=>(ht.members m hm).1
   obtain ⟨d,hd,hx⟩:=yo (nI hm) h
   obtain ⟨m,hm',rfl⟩:=List.mem_map.1 hd
   have:=uB hm'
   exact (mO (k:=k) _).1 ⟨m,hm',ih (by omega) (hm m hm') hx⟩
theorem uC {x:Tm}:∀ (w:List Int) {t:Tm},Cn t->x∈dm (aO t w)->x∈dm t
 | [],_,_,h=>h
 | c::w,_,ht,h=>Qc _ (Nat.le_refl _) ht (uC w (fP c ht).1 h)
theorem Qd {x y:Tm} (h:qy x y) {q:Tm} (hq:q∈dm y):q∈dm x:=by
 induction h with
 | self=>exact hq
 | neg _ ih=>exact ih hq
 | mem hm _ ih=>exact (mO _).1 ⟨_,hm,ih hq⟩
 | next _ _ ih=>exact List.mem_append_right _ (ih hq)
theorem IE {x:Tm}:∀ (n:Nat) {t:Tm},ed t<=n->∀ z,x∈dm t->∃ z',dL t z (.star x) z':=by
 intro n
 induction n with
 | zero=>intro t ht;cases t<;>simp [ed] at ht
 | succ n ih=>
  intro t hn z h
  cases t with
  | set _=>cases h
  | eps=>cases h
  | chain a b=>
   simp only [ed] at hn
   rcases List.mem_append.1 h with h | h
   ·exact (ih (by omega) _ h).imp fun _ p=>.left p
   ·exact (ih (by omega) _ h).imp fun _ p=>.right p (p.nc rfl)
  | star a=>
   simp only [ed] at hn
   rcases List.mem_cons.1 h with rfl | h
   ·exact ⟨z,.here _ _⟩
   ·exact (ih (by omega) _ h).imp fun _ p=>.star p
  | not a=>
   simp only [ed] at hn
   exact (ih (t:=a) (by omega) z h).imp fun _ p=>.neg p
  | aT k a b=>
   obtain ⟨m,hm,hx⟩:=(mO (k:=k) (.aT k a b)).2 h
   have:=uB hm
   exact (ih (by omega) z hx).imp fun _ p=>.mem hm p
theorem Ln.mono {t y:Tm} {v w:List Int} (h:Ln t v y) (hv:v <:+ w):Ln t w y:=by
 obtain ⟨h,z,u,p,hu,e,hc,he⟩:=h
 exact ⟨h,z,u,p,hu.trans hv,e,hc,he⟩
theorem Ea:∀ (n:Nat) {t:Tm},ed t<=n->Cn t->∀ w,fB w->∀ y,Gm (aO t w) y->cu y=true\/∃ s z,dL t eps s z/\Ln s w y:=by
 intro n
 induction n with
 | zero=>intro t ht;cases t<;>simp [ed] at ht
 | succ n ih=>
  intro t hn ht w hw y hy
  cases hy with
  | top h=>exact (lq _ (Nat.le_refl _) ht w hw y h).imp id fun q=>⟨t,eps,.here _ _,q⟩
  | head h hv=>
   rcases lq _ (Nat.le_refl _) ht w hw _ h with q | ⟨h,z,v,p,hvw,e,hc,he⟩
   ·simp [cu] at q
   ·have hh:=p.cn ht trivial
    have hz:=(p.follow ht trivial (by simp)).1
    have ig:z≠eps:=by rintro rfl;rw [ai] at e;rw [<-e] at hc;cases hc
    have tF:aO h v≠aH:=by intro q;rw [q,aQ] at e;cases e
    rw [bD hc tF he hz ig] at e
    injection e with e1 e2
    rw [e1] at hv
    have hs:ed h<ed t:=Nat.lt_of_not_le fun q=>ig (p.same q).2
    rcases ih (by omega) hh.1 v (fun c hc=>hw c (hvw.subset hc)) y hv with q | ⟨s,z2,p2,q⟩
    ·exact .inl q
    ·exact .inr ⟨s,_,p.comp ht p2,q.mono hvw⟩
  | star h hv=>
   rename_i a
   have hx:a∈dm t:=uC w ht (Qd h (List.mem_cons_self ..))
   obtain ⟨z',p⟩:=IE _ (Nat.le_refl _) eps hx
   have pa:dL t eps a (au (.star a) z'):=p.trans (.star (.here _ _))
   have hs:ed a<ed t:=by have:=p.sz;simp only [ed] at this;omega
   rcases ih (t:=a) (by omega) (pa.cn ht trivial).1 [] (fun _ h=>by simp at h) y hv with q | ⟨s,z2,p2,q⟩
   ·exact .inl q
   ·exact .inr ⟨s,_,pa.comp ht p2,q.mono List.nil_suffix⟩
end Go.Proofs.YtfolanohokflkaaGreatDoor
namespace Go.Proofs.YtfolanohokflkaaGreatDoor
open Tm (eps)
def bH:Tm->Nat
 | .set _=>0
 | .eps=>0
 | .chain a b=>bH a+bH b+1
 | .star a=>bH a+1
 | .not a=>bH a+1
 | .aT _ a b=>bH a+bH b+1
def hF:Bool->Option Bool->Tm->Nat
 | _,_,.set _=>0
 | _,_,.eps=>0
 | c,_,.chain a b=>max (hF false Option.none a) (hF true Option.none b)+(if c=true then 0 else 1)
 | _,_,.star a=>hF false Option.none a+1
 | _,_,.not a=>hF false Option.none a+1
 | _,m,.aT k a b=>max (hF false Option.none a) (hF false (some k) b)+(if m=some k then 0 else 1)
def iE:Bool->Option Bool->Tm->Tm->List (Tm×Tm)
 | _,_,.set l,z=>[(.set l,z)]
 | _,_,.eps,z=>[(eps,z)]
 | c,_,.chain a b,z=>(if c=true then [] else [(.chain a b,z)])++(iE false Option.none a (au b z)++iE true Option.none b z)
 | _,_,.star a,z=>(.star a,z)::iE false Option.none a (au (.star a) z)
 | _,_,.not a,z=>(.not a,z)::iE false Option.none a z
 | _,m,.aT k a b,z=>(if m=some k then [] else [(.aT k a b,z)])++(iE false Option.none a z++iE false (some k) b z)
theorem kJ:∀ (c:Bool) (m:Option Bool) (t z:Tm),(iE c m t z).length<=2*bH t+1
 | _,_,.set _,_=>by simp [iE,bH]
 | _,_,.eps,_=>by simp [iE,bH]
 | c,_,.chain a b,z=>by
  have h1:=kJ false Option.none a (au b z)
  have h2:=kJ true Option.none b z
  simp only [iE,bH,List.length_append]
  split<;>simp<;>omega
 | _,_,.star a,z=>by
  have h1:=kJ false Option.none a (au (.star a) z)
  simp only [iE,bH,List.length_cons];omega
 | _,_,.not a,z=>by
  have h1:=kJ false Option.none a z
  simp only [iE,bH,List.length_cons];omega
 | _,m,.aT k a b,z=>by
  have h1:=kJ false Option.none a z
  have h2:=kJ false (some k) b z
  simp only [iE,bH,List.length_append]
  split<;>simp<;>omega
def bB:List Nat->Nat
 | []=>0
 | x::r=>x+bB r
theorem kK (a b:List Nat):bB (a++b)=bB a+bB b:=by
 induction a with
 | nil=>simp [bB]
 | cons x a ih=>simp only [List.cons_append,bB,ih];omega
theorem two_mul {r p q x y:Nat} (h1:p<=r) (h2:q<=r):p*x+q*y<=r*(x+y):=by
 rw [Nat.mul_add]
 exact Nat.add_le_add (Nat.mul_le_mul_right _ h1) (Nat.mul_le_mul_right _ h2)
theorem nJ:∀ (c:Bool) (m:Option Bool) (t z:Tm),bB ((iE c m t z).map fun p=>bH p.1)<=hF c m t*bH t
 | _,_,.set _,_=>by simp [iE,bH,bB]
 | _,_,.eps,_=>by simp [iE,bH,bB]
 | c,_,.chain a b,z=>by
  have h1:=nJ false Option.none a (au b z)
  have h2:=nJ true Option.none b z
  have h3:=two_mul (x:=bH a) (y:=bH b) (Nat.le_max_left (hF false Option.none a) (hF true Option.none b)) (Nat.le_max_right _ _)
  simp only [iE,hF,List.map_append,kK]
  generalize max (hF false Option.none a) (hF true Option.none b)=r at *
  have h4:r*(bH a+bH b)<=r*bH (.chain a b):=Nat.mul_le_mul_left _ (by simp only [bH];omega)
  split
  ·simp only [List.map_nil,bB,Nat.add_zero];omega
  ·simp only [List.map_cons,List.map_nil,bB,Nat.add_mul,Nat.one_mul];omega
 | _,_,.star a,z=>by
  have h1:=nJ false Option.none a (au (.star a) z)
  simp only [iE,hF,List.map_cons,bB,Nat.add_mul,Nat.one_mul]
  have h4:hF false Option.none a*bH a<=hF false Option.none a*bH (.star a):=Nat.mul_le_mul_left _ (by simp only [bH];omega)
  omega
 | _,_,.not a,z=>by
  have h1:=nJ false Option.none a z
  simp only [iE,hF,List.map_cons,bB,Nat.add_mul,Nat.one_mul]
  have h4:hF false Option.none a*bH a<=hF false Option.none a*bH (.not a):=Nat.mul_le_mul_left _ (by simp only [bH];omega)
  omega
 | _,m,.aT k a b,z=>by
  have h1:=nJ false Option.none a z
  have h2:=nJ false (some k) b z
  have h3:=two_mul (x:=bH a) (y:=bH b) (Nat.le_max_left (hF false Option.none a) (hF false (some k) b)) (Nat.le_max_right _ _)
  simp only [iE,hF,List.map_append,kK]
  generalize max (hF false Option.none a) (hF false (some k) b)=r at *
  have h4:r*(bH a+bH b)<=r*bH (.aT k a b):=Nat.mul_le_mul_left _ (by simp only [bH];omega)
  split
  ·simp only [List.map_nil,bB,Nat.add_zero];omega
  ·simp only [List.map_cons,List.map_nil,bB,Nat.add_mul,Nat.one_mul];omega
theorem Qe {k:Bool} {t:Tm} (h:dE k t=true) (z:Tm):iE false (some k) t z=iE false Option.none t z:=by
 cases t with
 | aT k' a b=>
  have:k'≠k:=by simpa [dE] using h
  simp [iE,Ne.symm this]
 | _=>rfl
theorem IG {k:Bool} {m z:Tm} {x:Tm×Tm} (hx:x∈iE false Option.none m z):∀ (t:Tm),m∈memT k t->x∈iE false (some k) t z
 | t,h=>by
  rcases iU k t with ⟨a,b,rfl⟩ | hn
  ·rw [h_] at h
   simp only [iE,if_true,List.nil_append]
   rcases List.mem_cons.1 h with rfl | h
   ·exact List.mem_append_left _ hx
   ·exact List.mem_append_right _ (IG hx b h)
  ·rw [bq hn] at h
   have:m=t:=by simpa using h
   subst this
   rw [Qe hn];exact hx
theorem Lx {b z:Tm} {x:Tm×Tm} (hx:x∈iE false Option.none b z) (h:bI b=false\/ed x.1<ed b):x∈iE true Option.none b z:=by
 cases b with
 | chain a b=>
  simp only [iE,Bool.false_eq_true,if_false,List.cons_append,List.nil_append,List.mem_cons] at hx
  simp only [iE,if_true,List.nil_append]
  rcases hx with rfl | hx
  ·rcases h with h | h
   ·cases h
   ·exact absurd h (Nat.lt_irrefl _)
  ·exact hx
 | _=>exact hx
theorem dL.listed {t z h z':Tm} (p:dL t z h z'):(h,z')∈iE false Option.none t z:=by
 induction p with
 | here t z=>
  cases t<;>simp [iE]
 | left _ ih=>simp only [iE];exact List.mem_append_right _ (List.mem_append_left _ ih)
 | right _ hr ih=>simp only [iE];exact List.mem_append_right _ (List.mem_append_right _ (Lx ih hr))
 | star _ ih=>exact List.mem_cons_of_mem _ ih
 | neg _ ih=>exact List.mem_cons_of_mem _ ih
 | @mem k a b m z h z' hm _ ih=>
  have:=IG ih _ hm
  simp only [iE,if_true,List.nil_append] at this
  simp only [iE]
  exact List.mem_append_right _ this
theorem dL.nz {t z h z':Tm} (p:dL t z h z'):bH h<=bH t:=by
 have hm:∀ (k:Bool) (t:Tm) {m:Tm},m∈memT k t->bH m<=bH t:=by
  intro k t
  induction t with
  | aT k' a b _ ih=>
   intro m h
   rw [memT] at h
   split at h
   ·rcases List.mem_cons.1 h with rfl | h
    ·simp only [bH];omega
    ·have:=ih h;simp only [bH];omega
   ·simp at h;subst h;exact Nat.le_refl _
  | _=>intro m h;simp [memT] at h;subst h;exact Nat.le_refl _
 induction p with
 | here=>exact Nat.le_refl _
 | left _ ih=>simp only [bH];omega
 | right _ _ ih=>simp only [bH];omega
 | star _ ih=>simp only [bH];omega
 | neg _ ih=>simp only [bH];omega
 | mem h _ ih=>have:=hm _ _ h;omega
def CZ:List Int->List (List Int)
 | []=>[[]]
 | a::l=>(a::l)::CZ l
theorem vU:∀ l:List Int,(CZ l).length=l.length+1
 | []=>rfl
 | _::l=>by rw [CZ,List.length_cons,vU l,List.length_cons]
theorem rC {v:List Int}:∀ {w:List Int},v <:+ w->v∈CZ w
 | [],h=>by rw [List.suffix_nil.1 h];exact List.mem_cons_self ..
 | a::l,h=>by
  rcases List.suffix_cons_iff.1 h with rfl | h
  ·exact List.mem_cons_self ..
  ·exact List.mem_cons_of_mem _ (rC h)
abbrev C8 (t:Tm):List (Tm×Tm):=iE false Option.none t eps
def pX (t:Tm) (vs:List (List Int)):List Tm:=(C8 t).flatMap fun p=>vs.map fun v=>au (aO p.1 v) p.2
theorem II {α β:Type} (f:α->List β) (n:Nat):∀ (l:List α),(∀ a∈l,(f a).length<=n)->(l.flatMap f).length<=l.length*n
 | [],_=>by simp
 | a::l,h=>by
  have h1:=h a (List.mem_cons_self ..)
  have h2:=II f n l fun b hb=>h b (List.mem_cons_of_mem _ hb)
  rw [List.flatMap_cons,List.length_append,List.length_cons,Nat.add_mul]
  omega
theorem pY (t:Tm) (vs:List (List Int)):(pX t vs).length<=(2*bH t+1)*vs.length:=
 Nat.le_trans (II _ vs.length _ fun a _=>by simp) (Nat.mul_le_mul_right _ (kJ _ _ _ _))
theorem Ln.listed {t y:Tm} {w:List Int} {vs:List (List Int)} (hv:∀ v,v <:+ w->v∈vs) (h:Ln t w y):y∈pX t vs:=by
 obtain ⟨h,z,v,p,hvw,rfl,_⟩:=h
 exact List.mem_flatMap.2 ⟨(h,z),p.listed,List.mem_map.2 ⟨v,hv v hvw,rfl⟩⟩
end Go.Proofs.YtfolanohokflkaaGreatDoor
namespace Go.Proofs.YtfolanohokflkaaGreatDoor
open Tm (eps)
theorem jk {α:Type} [DecidableEq α]:∀ {l m:List α},l.Nodup->(∀ x∈l,x∈m)->l.length<=m.length
 | [],_,_,_=>Nat.zero_le _
 | a::l,m,hn,hs=>by
  have hn':=List.nodup_cons.1 hn
  have ha:=hs a (List.mem_cons_self ..)
  have ih:=jk (l:=l) (m:=m.erase a) hn'.2 fun x hx=>by
   have hne:x≠a:=by rintro rfl;exact hn'.1 hx
   exact (List.mem_erase_of_ne hne).2 (hs x (List.mem_cons_of_mem _ hx))
  rw [List.length_erase_of_mem ha] at ih
  have:0<m.length:=List.length_pos_of_mem ha
  rw [List.length_cons]
  omega
theorem A7 {α:Type} (p:α->Bool):∀ l:List α,l.length=(l.filter p).length+(l.filter fun x=>!p x).length
 | []=>rfl
 | a::l=>by
  have:=A7 p l
  rw [List.filter_cons,List.filter_cons]
  cases p a<;>simp<;>omega
theorem A8:∀ {l:List Tm},l.Nodup->whole∉l->(l.filter cu).length<=(l.filterMap aP).length+(if eps∈l then 1 else 0)
 | [],_,_=>by simp
 | a::l,hn,hw=>by
  have hn':=List.nodup_cons.1 hn
  have ih:=A8 hn'.2 fun h=>hw (List.mem_cons_of_mem _ h)
  have hwa:a≠whole:=fun e=>hw (by rw [e];exact List.mem_cons_self ..)
  rw [List.filter_cons,List.filterMap_cons]
  cases a with
  | set s=>simp [aP,cu];omega
  | eps=>
   rw [if_neg hn'.1] at ih
   simp [aP,cu];omega
  | not x=>
   have:cu (.not x)=false:=by
    cases x with
    | set s=>cases s with
     | nil=>exact absurd rfl hwa
     | cons _ _=>rfl
    | _=>rfl
   simp [aP,this];exact ih
  | chain x y=>simp [aP,cu];exact ih
  | star x=>simp [aP,cu];exact ih
  | aT k x y=>simp [aP,cu];exact ih
theorem Eb {k:Bool} {x:Tm} (hx:Cn x):(memT k x).Nodup/\((memT k x).length=1\/(l9 (memT k x)/\whole∉memT k x/\aH∉memT k x)):=by
 rcases iU k x with ⟨a,b,rfl⟩ | hn
 ·obtain ⟨h1,h2,h3,h4,h5,h6,h7⟩:=hx
  refine ⟨wZ h6,.inr ⟨h7,fun h=>?_,fun h=>?_⟩⟩
  ·rw [h_] at h
   rcases List.mem_cons.1 h with e | h
   ·exact h4 e.symm
   ·exact (h5.members _ h).2.2.2 rfl
  ·rw [h_] at h
   rcases List.mem_cons.1 h with e | h
   ·exact h3 e.symm
   ·exact (h5.members _ h).2.2.1 rfl
 ·rw [bq hn];exact ⟨by simp,.inl rfl⟩
theorem sG {k:Bool} {x:Tm} {L:List Tm} (hx:Cn x) (h:∀ m∈memT k x,cu m=true\/m∈L):(memT k x).length<=L.length+2:=by
 obtain ⟨hn,h1 | ⟨ho,hw,_⟩⟩:=Eb (k:=k) hx
 ·omega
 ·have e:=A7 cu (memT k x)
  have h2:=A8 hn hw
  have h3:((memT k x).filter fun m=>!cu m).length<=L.length:=jk (hn.filter _) fun m hm=>by
   obtain ⟨hm,hq⟩:=List.mem_filter.1 hm
   rcases h m hm with q | q
   ·rw [q] at hq;cases hq
   ·exact q
  unfold l9 at ho
  split at h2<;>omega
theorem abC {h:Tm} (hh:Cn h) {v:List Int} {c:Int} (hw:fB (v++[c])) (k:Bool):(memT k (aG c (aO h v))).length<=(2*bH h+1)*(v.length+2)+2:=by
 rw [<-ji]
 refine Nat.le_trans (sG (fM _ hh) (L:=pX h (CZ (v++[c]))) fun m hm=>?_) ?_
 ·exact (lq _ (Nat.le_refl _) hh _ hw m (qy.member hm)).imp id fun q=>q.listed fun v hv=>rC hv
 ·have:=pY h (CZ (v++[c]))
  rw [vU,List.length_append] at this
  simp only [List.length_cons,List.length_nil,Nat.zero_add] at this
  rw [show v.length+1+1=v.length+2 from rfl] at this
  omega
theorem Nw {c:Int} {v:List Int} (h:v <:+ []++[c]):v∈[[c],[]]:=by
 have:=rC h
 simpa [CZ] using this
theorem abD {s:Tm} (hs:Cn s) {h z:Tm} {v:List Int} {c:Int} (hw:fB (v++[c])) (p:dL s eps h z) (ig:z≠eps) (hc:bI (aO h v)=false) (he:aO h v≠eps) (hv:aO h v≠aH) :
  (memT false (aG c (.chain (aO h v) z))).length<=4*bH s+5:=by
 have IH:∀ h,ed h<ed s->Cn h->∀ v,fB v->∀ y,qy (aO h v) y->cu y=true\/Ln h v y:=fun h _ hh v hv y hy=>lq _ (Nat.le_refl _) hh v hv y hy
 have hsc:fB ([]++[c]):=fun d hd=>hw d (List.mem_append_right _ (by simpa using hd))
 have hh:=p.cn hs trivial
 obtain ⟨hz,Lu⟩:=p.follow hs trivial (by simp)
 have hcn:Cn (.chain (aO h v) z):=⟨fM v hh.1,hh.2,hc,hv,he,hz,ig⟩
 have zm:∀ m∈memT false z,cu m=true\/m∈pX s [[c],[]]:=fun m hm=>(Z0 hs IH p (w:=[]) hm).imp id fun q=>q.ln.listed fun u hu=>by rw [List.suffix_nil.1 hu];simp
 have zd:∀ m∈memT false (aG c z),cu m=true\/m∈pX s [[c],[]]:=by
  intro m hm
  rcases Lu with e | ⟨b,z1,p1,rfl,hbc,hbe,hbv,hz1,hbs⟩
  ·exact absurd e ig
  ·exact (Tn hs IH (w:=[]) hsc _ (Nat.le_refl _) (v:=[]) p1 (hbs.imp id fun q=>⟨q.1,q.2,rfl⟩) List.nil_suffix hbc hbe hm).imp id fun q=>q.ln.listed fun u hu=>Nw hu
 have xm:∀ m∈memT false (au (aO h (v++[c])) z),cu m=true\/m∈au (aO h (v++[c])) z::pX s [[c],[]]:=by
  intro m hm
  by_cases tF:aO h (v++[c])=aH
  ·rw [tF,aQ] at hm
   exact .inl (pE rfl hm)
  by_cases Qb:aO h (v++[c])=eps
  ·rw [Qb,bz] at hm
   exact (zm m hm).imp id fun q=>List.mem_cons_of_mem _ q
  cases Lt:bI (aO h (v++[c])) with
  | true=>
   have e:=ll (kI (fM _ hh.1) Lt hz) hm
   exact .inr (by rw [e];exact List.mem_cons_self ..)
  | false=>
   have e0:=bD Lt tF Qb hz ig
   have e:=ll (x:=au (aO h (v++[c])) z) (by rw [e0];rfl) hm
   exact .inr (by rw [e];exact List.mem_cons_self ..)
 refine Nat.le_trans (sG (fP c hcn).1 (L:=au (aO h (v++[c])) z::pX s [[c],[]]) fun m hm=>?_) ?_
 ·rw [eF,<-ji] at hm
  split at hm
  ·rcases pq (fun q hq=>by
    simp only [List.mem_cons,List.not_mem_nil,or_false] at hq
    rcases hq with rfl | rfl
    ·exact eQ _ _ (fM _ hh.1) hh.2
    ·exact (fP c hh.2).1) hm with q | ⟨q,hq,VS⟩
   ·exact .inl q
   ·simp only [List.mem_cons,List.not_mem_nil,or_false] at hq
    rcases hq with rfl | rfl
    ·exact xm m VS
    ·exact (zd m VS).imp id fun q=>List.mem_cons_of_mem _ q
  ·exact xm m hm
 ·have:=pY s [[c],[]]
  simp only [List.length_cons,List.length_nil] at this ⊢
  omega
def dP:Tm->Nat
 | .chain a b=>dP a+dP b
 | _=>1
theorem rD:∀ t:Tm,1<=dP t
 | .chain a b=>by have:=rD a;simp only [dP];omega
 | .set _=>Nat.le_refl _
 | .eps=>Nat.le_refl _
 | .star _=>Nat.le_refl _
 | .not _=>Nat.le_refl _
 | .aT _ _ _=>Nat.le_refl _
theorem FB:∀ t:Tm,dP t<=bH t+1
 | .chain a b=>by have:=FB a;have:=FB b;simp only [dP,bH];omega
 | .set _=>by simp [dP,bH]
 | .eps=>by simp [dP,bH]
 | .star _=>by simp [dP,bH]
 | .not _=>by simp [dP,bH]
 | .aT _ _ _=>by simp [dP,bH]
theorem rE:∀ (u z:Tm),dP (au u z)<=dP u+dP z:=by
 intro u
 induction u with
 | chain a b iha ihb=>
  intro z
  have h1:=iha (au b z)
  have h2:=ihb z
  have h3:=rD a
  have h4:=rD b
  rw [au]
  split
  ·simp only [dP];omega
  ·split
   ·simp only [dP];omega
   ·simp only [dP];omega
 | _=>
  intro z
  have:=rD z
  simp only [au]
  repeat' split
  all_goals simp only [dP]
  all_goals omega
theorem dL.len {t z h z':Tm} (p:dL t z h z'):dP z'<=dP z+bH t:=by
 induction p with
 | here=>omega
 | @left a b z h z' _ ih=>have:=rE b z;have:=FB b;simp only [bH];omega
 | right _ _ ih=>simp only [bH];omega
 | @star a z h z' _ ih=>have:=rE (.star a) z;simp only [dP] at this;simp only [bH];omega
 | neg _ ih=>simp only [bH];omega
 | mem h _ ih=>have:=(dL.mem h (.here _ eps)).nz;omega
theorem spine {h:Tm} (hh:Cn h) {u:List Int} (hu:fB u):dP (aO h u)<=bH h+2:=by
 by_cases hc:bI (aO h u)=true
 ·rcases lq _ (Nat.le_refl _) hh u hu _ (.self _) with q | ⟨h',z',v',p,_,e,hnc,_⟩
  ·cases hx:aO h u<;>rw [hx] at hc q<;>simp [bI] at hc;simp [cu] at q
  ·have h1:=rE (aO h' v') z'
   have h2:=p.len
   have h3:dP (aO h' v')=1:=by cases hx:aO h' v'<;>rw [hx] at hnc<;>first | rfl | cases hnc
   rw [<-e] at h1
   simp only [dP] at h2
   omega
 ·have h3:dP (aO h u)=1:=by
   cases hx:aO h u<;>rw [hx] at hc<;>first | rfl | exact absurd rfl hc
  omega
end Go.Proofs.YtfolanohokflkaaGreatDoor
