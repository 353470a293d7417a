import Derived.Test.YtfolanohokflkaaGreatDoorLnE
namespace Go.Proofs.YtfolanohokflkaaGreatDoor
open Tm (eps)
def Ln (t:Tm) (w:List Int) (y:Tm):Prop:=∃ h z v,dL t eps h z/\v <:+ w/\y=ax (aI h v) z/\bF (aI h v)=false/\aI h v≠eps
def O1 (t:Tm) (w:List Int) (y:Tm):Prop:=∃ h z v,dL t eps h z/\v <:+ w/\y=ax (aI h v) z/\bF (aI h v)=false/\aI h v≠eps/\(dZ h<dZ t\/(h=t/\oJ t=true/\v=[]))
theorem jc (t:Tm) (w:List Int) (c:Int):aI t (w++[c])=aK c (aI t w):=by simp [aI]
theorem O1.up {t h z y:Tm} {v w:List Int} (p:dL t eps h z) (ht:Cn t) (hs:dZ h<dZ t) (hl:Ln h v y) (hv:v <:+ w):O1 t w (ax y z):=by
 obtain ⟨h2,z2,v2,p2,hv2,rfl,hc,he⟩:=hl
 have hh:=p.cn ht trivial
 have h2c:=p2.cn hh.1 trivial
 refine ⟨h2,ax z2 z,v2,p.comp ht p2,hv2.trans hv,qo _ _ _ (fH v2 h2c.1) h2c.2,hc,he,.inl ?_⟩
 have:=p2.sz
 omega
theorem O1.ln {t y:Tm} {w:List Int} (h:O1 t w y):Ln t w y:=by
 obtain ⟨h,z,v,p,hv,e,hc,he,_⟩:=h
 exact ⟨h,z,v,p,hv,e,hc,he⟩
theorem kQ:∀ {u z:Tm},Cn u->bF u=true->z≠aG->bF (ax u z)=true:=by
 intro u z hu hc hz
 cases u with
 | chain a b=>
  obtain ⟨_,hb,hac,MB,hae,hbv,hbe⟩:=hu
  by_cases gZ:z=eps
  ·rw [gZ,ah];rfl
  ·rw [ax,if_neg hz,if_neg gZ,bB hac MB hae (fun e=>(ow hb e).elim hbv hz) (fun e=>hbe (BX hb e).1)]
   rfl
 | _=>cases hc
theorem lF {k:Bool} {x m:Tm} (h:bF x=true) (hm:m∈memT k x):m=x:=by
 cases x with
 | chain a b=>simpa [memT] using hm
 | _=>cases h
theorem pO {k:Bool} {x m:Tm} (h:bY x=true) (hm:m∈memT k x):bY m=true:=by
 rw [bf (l7 h)] at hm
 simp at hm;subst hm
 exact h
section
variable {t:Tm} (ht:Cn t) (IH:∀ h,dZ h<dZ t->Cn h->∀ v,iq v->∀ y,qO (aI h v) y->bY y=true\/Ln h v y)
include ht IH
theorem abt {h0 z:Tm} (p0:dL t eps h0 z) {w:List Int} {m:Tm} (hm:m∈memT false z):bY m=true\/O1 t w m:=by
 rcases (p0.follow ht trivial (by simp)).2 with rfl | ⟨b,z1,p,rfl,hc,he,hv,hz1,hs⟩
 ·exact .inl (pO rfl hm)
 ·by_cases gZ:z1=eps
  ·subst gZ
   rw [ah] at hm
   rcases hs with hs | ⟨rfl,hst⟩
   ·rcases IH b hs (p.cn ht trivial).1 [] (fun _ h=>by simp at h) m (qO.member hm) with h | h
    ·exact .inl h
    ·have:=O1.up p ht hs h (List.nil_suffix (l:=w))
     rw [ah] at this
     exact .inr this
   ·cases b with
    | star a=>
     have:m=.star a:=by simpa [memT] using hm
     subst this
     exact .inr ⟨.star a,eps,[],p,List.nil_suffix,(ah _).symm,rfl,by simp [aI],.inr ⟨rfl,rfl,rfl⟩⟩
    | _=>cases hst
  ·rw [bB hc hv he hz1 gZ] at hm
   have e:=lF rfl hm
   subst e
   exact .inr ⟨b,z1,[],p,List.nil_suffix,(bB hc hv he hz1 gZ).symm,hc,he,hs.imp id (fun q=>⟨q.1,q.2,rfl⟩)⟩
theorem abu {h z:Tm} (p:dL t eps h z) (hs:dZ h<dZ t) {v w:List Int} (hv:v <:+ w) (hw:iq w) {m:Tm} (hm:m∈memT false (ax (aI h v) z)):bY m=true\/O1 t w m:=by
 have hh:=p.cn ht trivial
 have hX:=fH v hh.1
 have hz:=(p.follow ht trivial (by simp)).1
 have hsv:iq v:=fun c hc=>hw c (hv.subset hc)
 have hQ:=IH h hs hh.1 v hsv
 by_cases uw:aI h v=aG
 ·rw [uw,aR] at hm
  exact .inl (pO rfl hm)
 by_cases Ry:aI h v=eps
 ·rw [Ry,bq] at hm
  exact abt ht IH p hm
 cases M0:bF (aI h v) with
 | true=>
  have e:=lF (kQ hX M0 hz) hm
  subst e
  rcases hQ _ (.self _) with q | q
  ·cases hx:aI h v<;>rw [hx] at M0 q<;>simp [bF] at M0;simp [bY] at q
  ·exact .inr (O1.up p ht hs q hv)
 | false=>
  by_cases gZ:z=eps
  ·subst gZ
   rw [ah] at hm
   rcases hQ m (qO.member hm) with q | q
   ·exact .inl q
   ·have:=O1.up p ht hs q hv
    rw [ah] at this
    exact .inr this
  ·rw [bB M0 uw Ry hz gZ] at hm
   have e:=lF rfl hm
   subst e
   exact .inr ⟨h,z,v,p,hv,(bB M0 uw Ry hz gZ).symm,M0,Ry,.inl hs⟩
theorem U8 {c:Int} {w:List Int} (hw:iq (w++[c])):∀ (n:Nat) {h z:Tm} {v:List Int},dZ z<=n->dL t eps h z->(dZ h<dZ t\/(h=t/\oJ t=true/\v=[]))->v <:+ w->bF (aI h v)=false->aI h v≠eps ->
  ∀ {m:Tm},m∈memT false (aK c (ax (aI h v) z))->bY m=true\/O1 t (w++[c]) m:=by
 have base:∀ {h:Tm} {v:List Int},dL t eps h eps->(dZ h<dZ t\/(h=t/\oJ t=true/\v=[]))->v <:+ w->∀ {m:Tm},m∈memT false (aK c (aI h v))->bY m=true\/O1 t (w++[c]) m:=by
  intro h v p hs hv m hm
  rcases hs with hs | ⟨rfl,hst,rfl⟩
  ·rw [<-jc,<-ah (aI h (v++[c]))] at hm
   obtain ⟨q,rfl⟩:=hv
   exact abu ht IH p hs ⟨q,by simp⟩ hw hm
  ·cases h with
   | star a=>
    have hm':m∈memT false (ax (aI a [c]) (ax (.star a) eps)):=by rw [ah];exact hm
    exact abu ht IH (.star (.here _ _)) (by simp only [dZ];omega) ⟨w,rfl⟩ hw hm'
   | _=>cases hst
 intro n
 induction n with
 | zero=>intro h z v hz;cases z<;>simp [dZ] at hz
 | succ n ihn=>
  intro h z v hn p hs hv hc he m hm
  have hh:=p.cn ht trivial
  have hX:=fH v hh.1
  by_cases uw:aI h v=aG
  ·rw [uw,aR] at hm
   exact .inl (pO rfl hm)
  by_cases gZ:z=eps
  ·subst gZ
   rw [ah] at hm
   exact base p hs hv hm
  have hsl:dZ h<dZ t:=by
   rcases hs with hs | ⟨rfl,_⟩
   ·exact hs
   ·exact absurd (p.same (Nat.le_refl _)).2 gZ
  obtain ⟨hz,M3⟩:=p.follow ht trivial (by simp)
  rw [bB hc uw he hz gZ,fM,<-jc] at hm
  have XQ:v++[c] <:+ w++[c]:=by obtain ⟨q,rfl⟩:=hv;exact ⟨q,by simp⟩
  have hU:∀ m∈memT false (ax (aI h (v++[c])) z),bY m=true\/O1 t (w++[c]) m:=fun m hm=>abu ht IH p hsl XQ hw hm
  split at hm
  ·rcases pK (fun q hq=>by
    simp only [List.mem_cons,List.not_mem_nil,or_false] at hq
    rcases hq with rfl | rfl
    ·exact eF _ _ (fH _ hh.1) hh.2
    ·exact (fO c hh.2).1) hm with q | ⟨q,hq,XR⟩
   ·exact .inl q
   ·simp only [List.mem_cons,List.not_mem_nil,or_false] at hq
    rcases hq with rfl | rfl
    ·exact hU m XR
    ·rcases M3 with rfl | ⟨b,z1,p1,rfl,hbc,hbe,hbv,hz1,hbs⟩
     ·exact absurd rfl gZ
     ·by_cases U9:z1=eps
      ·subst U9
       rw [ah] at XR
       exact base (v:=[]) p1 (hbs.imp id (fun q=>⟨q.1,q.2,rfl⟩)) List.nil_suffix XR
      ·refine ihn (h:=b) (z:=z1) (v:=[]) ?_ p1 (hbs.imp id (fun q=>⟨q.1,q.2,rfl⟩)) List.nil_suffix hbc hbe XR
       rw [bB hbc hbv hbe hz1 U9] at hn
       simp only [dZ] at hn
       omega
  ·exact hU m hm
theorem ada {w:List Int} (hw:iq w):∀ (n:Nat) {h z:Tm} {v:List Int},dZ z<=n->dL t eps h z->(dZ h<dZ t\/(h=t/\oJ t=true/\v=[]))->v <:+ w->bF (aI h v)=false->aI h v≠eps ->
  ∀ {y:Tm},qO (ax (aI h v) z) y->bY y=true\/Ln t w y:=by
 have base:∀ {h:Tm} {v:List Int},dL t eps h eps->(dZ h<dZ t\/(h=t/\oJ t=true/\v=[]))->v <:+ w->∀ {y:Tm},qO (aI h v) y->bY y=true\/Ln t w y:=by
  intro h v p hs hv y hy
  rcases hs with hs | ⟨rfl,hst,rfl⟩
  ·rcases IH h hs (p.cn ht trivial).1 v (fun c hc=>hw c (hv.subset hc)) y hy with q | q
   ·exact .inl q
   ·have:=(O1.up p ht hs q hv).ln
    rw [ah] at this
    exact .inr this
  ·cases h with
   | star a=>
    cases hy with
    | self=>exact .inr ⟨.star a,eps,[],p,List.nil_suffix,(ah _).symm,rfl,by simp [aI]⟩
   | _=>cases hst
 intro n
 induction n with
 | zero=>intro h z v hz;cases z<;>simp [dZ] at hz
 | succ n ihn=>
  intro h z v hn p hs hv hc he y hy
  by_cases uw:aI h v=aG
  ·rw [uw,aR] at hy
   exact .inl (nJ rfl hy)
  by_cases gZ:z=eps
  ·subst gZ
   rw [ah] at hy
   exact base p hs hv hy
  obtain ⟨hz,M3⟩:=p.follow ht trivial (by simp)
  rw [bB hc uw he hz gZ] at hy
  cases hy with
  | self=>exact .inr ⟨h,z,v,p,hv,(bB hc uw he hz gZ).symm,hc,he⟩
  | next _ hy=>
   rcases M3 with rfl | ⟨b,z1,p1,rfl,hbc,hbe,hbv,hz1,hbs⟩
   ·exact absurd rfl gZ
   ·by_cases U9:z1=eps
    ·subst U9
     rw [ah] at hy
     exact base (v:=[]) p1 (hbs.imp id (fun q=>⟨q.1,q.2,rfl⟩)) List.nil_suffix hy
    ·refine ihn (h:=b) (z:=z1) (v:=[]) ?_ p1 (hbs.imp id (fun q=>⟨q.1,q.2,rfl⟩)) List.nil_suffix hbc hbe hy
     rw [bB hbc hbv hbe hz1 U9] at hn
     simp only [dZ] at hn
     omega
theorem aeq (U_:bF t=true\/oJ t=true):∀ (n:Nat) (w:List Int),w.length=n->iq w->∀ m∈memT false (aI t w),bY m=true\/O1 t w m:=by
 intro n
 induction n with
 | zero=>
  intro w hn _ m hm
  obtain rfl:w=[]:=List.length_eq_zero_iff.1 hn
  cases t with
  | chain a b=>
   have e:m=.chain a b:=by simpa [memT,aI] using hm
   subst e
   obtain ⟨_,_,hac,MB,hae,hbv,hbe⟩:=ht
   exact .inr ⟨a,ax b eps,[],.left (.here _ _),List.nil_suffix,by rw [ah];exact (bB hac MB hae hbv hbe).symm,hac,hae,.inl (by simp only [dZ];omega)⟩
  | star a=>
   have e:m=.star a:=by simpa [memT,aI] using hm
   subst e
   exact .inr ⟨.star a,eps,[],.here _ _,List.nil_suffix,(ah _).symm,rfl,by simp [aI],.inr ⟨rfl,rfl,rfl⟩⟩
  | _=>rcases U_ with h | h<;>cases h
 | succ n ih=>
  intro w hn hw m hm
  obtain ⟨u,c,rfl⟩:∃ u c,w=u++[c]:=⟨w.dropLast,w.getLast (by intro e;subst e;cases hn),(List.dropLast_concat_getLast _).symm⟩
  have hu:u.length=n:=by simpa using hn
  rw [jc] at hm
  rcases YR (fH u ht) hm with q | ⟨m0,hm0,hm⟩
  ·exact .inl q
  ·rcases ih u hu hw.left m0 hm0 with q | ⟨h,z,v,p,hv,rfl,hc,he,hs⟩
   ·exact .inl (pO (wP q) hm)
   ·exact U8 ht IH hw _ (Nat.le_refl _) p hs hv hc he hm
theorem aaF (U_:bF t=true\/oJ t=true) {w:List Int} (hw:iq w) {y:Tm} (h:qO (aI t w) y):bY y=true\/Ln t w y:=by
 have hm:=aeq ht IH U_ _ w rfl hw
 have hx:=fH w ht
 rcases iP false (aI t w) with ⟨a,b,e⟩ | hn
 ·rw [e] at h hm
  cases h with
  | self=>exact .inr ⟨t,eps,w,.here _ _,List.suffix_refl _,by rw [e,ah],by rw [e];rfl,by rw [e];simp⟩
  | mem hmm hy=>
   rcases hm _ hmm with q | ⟨h,z,v,p,hv,rfl,hc,he,hs⟩
   ·exact .inl (nJ q hy)
   ·exact ada ht IH hw _ (Nat.le_refl _) p hs hv hc he hy
 ·rw [bf hn] at hm
  rcases hm _ (List.mem_cons_self ..) with q | ⟨h',z,v,p,hv,e,hc,he,hs⟩
  ·exact .inl (nJ q h)
  ·rw [e] at h
   exact ada ht IH hw _ (Nat.le_refl _) p hs hv hc he h
end
theorem JB:∀ (w:List Int) {x:Tm},Cn x->aI (ku x) w=ku (aI x w)
 | [],_,_=>rfl
 | c::w,x,h=>by
  show aI (aK c (ku x)) w=ku (aI (aK c x) w)
  rw [YU h,JB w (fO c h).1]
theorem BZ {k:Bool}:∀ (w:List Int) {l:List Tm},(∀ t∈l,Cn t)->iq w->aI (aj k l) w=aj k (l.map fun t=>aI t w)
 | [],l,_,_=>by simp [aI]
 | c::w,l,h,hw=>by
  show aI (aK c (aj k l)) w=aj k (l.map fun t=>aI (aK c t) w)
  rw [Rw (hw c (List.mem_cons_self ..)) h,BZ w (nK h) (fun d hd=>hw d (List.mem_cons_of_mem _ hd)),List.map_map]
  rfl
theorem DW {k:Bool} {t:Tm} (h:Cn t):aj k (memT k t)=t:=by
 have hm:∀ m∈memT k t,Cn m:=fun m hm=>(h.members m hm).1
 have e:(memT k t).flatMap (memT k)=memT k t:=by
  have:∀ l:List Tm,(∀ m∈l,dD k m=true)->l.flatMap (memT k)=l:=by
   intro l
   induction l with
   | nil=>intro _;rfl
   | cons a r ih=>intro h;rw [List.flatMap_cons,bf (h a (List.mem_cons_self ..)),ih fun m hm=>h m (List.mem_cons_of_mem _ hm)];rfl
  exact this _ fun m hm=>(h.members m hm).2
 have e2:aj k (memT k t)=aj k [t]:=by
  unfold aj
  rw [e,List.flatMap_cons,List.flatMap_nil,List.append_nil]
 rw [e2,group_one' h]
theorem yc:∀ (w:List Int) {t:Tm},bY t=true->bY (aI t w)=true
 | [],_,h=>h
 | c::w,_,h=>yc w (wP (c:=c) h)
theorem Ln.inner {t a y:Tm} {w:List Int} (p:∀ h z,dL a eps h z->dL t eps h z) (h:Ln a w y):Ln t w y:=by
 obtain ⟨h,z,v,q,hv,e,hc,he⟩:=h
 exact ⟨h,z,v,p h z q,hv,e,hc,he⟩
theorem Ln.self {t:Tm} {w:List Int} (hc:bF (aI t w)=false) (he:aI t w≠eps):Ln t w (aI t w):=⟨t,eps,w,.here _ _,List.suffix_refl _,(ah _).symm,hc,he⟩
theorem lG:∀ (n:Nat) {t:Tm},dZ t<=n->Cn t->∀ w,iq w->∀ y,qO (aI t w) y->bY y=true\/Ln t w y:=by
 intro n
 induction n with
 | zero=>intro t ht;cases t<;>simp [dZ] at ht
 | succ n ih=>
  intro t hn ht w hw y hy
  have IH:∀ h,dZ h<dZ t->Cn h->∀ v,iq v->∀ y,qO (aI h v) y->bY y=true\/Ln h v y:=fun h hs hh v hv y hy=>ih (by omega) hh v hv y hy
  cases t with
  | set l=>exact .inl (nJ (yc w rfl) hy)
  | eps=>exact .inl (nJ (yc w rfl) hy)
  | chain a b=>exact aaF ht IH (.inl rfl) hw hy
  | star a=>exact aaF ht IH (.inr rfl) hw hy
  | not a=>
   have ha:Cn a:=ht.1
   have e:aI (.not a) w=ku (aI a w):=by
    rw [<-JB w ha]
    congr 1
    have:=ht.2.1
    cases a<;>simp [OI] at this<;>rfl
   have hIa:=IH a (by simp only [dZ];omega) ha w hw
   have up:∀ y,bY y=true\/Ln a w y->bY y=true\/Ln (.not a) w y:=fun y h=>h.imp id (Ln.inner fun _ _ q=>.neg q)
   rw [e] at hy
   rcases YQ hy with rfl | hy
   ·cases hc:bF (ku (aI a w)) with
    | false=>
     by_cases he:ku (aI a w)=eps
     ·rw [he];exact .inl rfl
     ·rw [<-e] at hc he ⊢
      exact .inr (Ln.self hc he)
    | true=>
     refine up _ (hIa _ ?_)
     cases hX:aI a w with
     | not q=>exact .neg (.self _)
     | _=>rw [hX] at hc;cases hc
   ·exact up _ (hIa y hy)
  | aZ k a b=>
   have hm:∀ m∈memT k (.aZ k a b),Cn m:=fun m hm=>(ht.members m hm).1
   have e:aI (.aZ k a b) w=aj k ((memT k (.aZ k a b)).map fun t=>aI t w):=by
    conv=>lhs;rw [<-DW (k:=k) ht]
    exact BZ w hm hw
   have hcn:∀ t∈(memT k (.aZ k a b)).map (fun t=>aI t w),Cn t:=fun t ht'=>by
    obtain ⟨m,hm',rfl⟩:=List.mem_map.1 ht'
    exact fH w (hm m hm')
   have up:∀ m∈memT k (.aZ k a b),∀ y,qO (aI m w) y->bY y=true\/Ln (.aZ k a b) w y:=fun m hm' y hy=>
    (IH m (uY hm') (hm m hm') w hw y hy).imp id (Ln.inner fun _ _ q=>.mem hm' q)
   rw [e] at hy
   rcases Ru hcn hy with rfl | q | ⟨d,hd,m,hmd,hy⟩
   ·cases hc:bF (aj k ((memT k (.aZ k a b)).map fun t=>aI t w)) with
    | false=>
     by_cases he:aj k ((memT k (.aZ k a b)).map fun t=>aI t w)=eps
     ·rw [he];exact .inl rfl
     ·rw [<-e] at hc he ⊢
      exact .inr (Ln.self hc he)
    | true=>
     rcases rW (k:=k) hcn with q | ⟨d,hd,hx⟩ | ⟨a',b',e',_⟩
     ·exact .inl q
     ·obtain ⟨m,hm',rfl⟩:=List.mem_map.1 hd
      exact up m hm' _ (qO.member hx)
     ·rw [e'] at hc;cases hc
   ·exact .inl q
   ·obtain ⟨m0,hm0,rfl⟩:=List.mem_map.1 hd
    exact up m0 hm0 y ((qO.member hmd).trans hy)
inductive Ht:Tm->Tm->Prop where
 | top {x y:Tm}:qO x y->Ht x y
 | head {x a b y:Tm}:qO x (.chain a b)->Ht a y->Ht x y
 | star {x a y:Tm}:qO x (.star a)->Ht a y->Ht x y
def dm:Tm->List Tm
 | .set _=>[]
 | .eps=>[]
 | .chain a b=>dm a++dm b
 | .star a=>a::dm a
 | .not a=>dm a
 | .aZ _ a b=>dm a++dm b
theorem wR {x:Tm}:∀ (u z:Tm),x∈dm (ax u z)->x∈dm u\/x∈dm z:=by
 intro u
 induction u with
 | chain a b iha ihb=>
  intro z h
  rw [ax] at h
  split at h
  ·cases h
  split at h
  ·exact .inl h
  ·rcases iha _ h with h | h
   ·exact .inl (List.mem_append_left _ h)
   ·rcases ihb _ h with h | h
    ·exact .inl (List.mem_append_right _ h)
    ·exact .inr h
 | eps=>intro z h;rw [bq] at h;exact .inr h
 | set l=>
  intro z h
  rw [ax] at h
  split at h
  ·cases h
  split at h
  ·exact .inl h
  ·exact .inr (by simpa [dm] using h)
 | _=>
  intro z h
  rw [ax] at h
  split at h
  ·cases h
  split at h
  ·exact .inl h
  ·exact List.mem_append.1 h
theorem mU {k:Bool} {x:Tm}:∀ (t:Tm),(∃ m∈memT k t,x∈dm m)↔x∈dm t
 | t=>by
  rcases iP k t with ⟨a,b,rfl⟩ | hn
  ·rw [gX]
   have:=mU (k:=k) (x:=x) b
   simp only [List.mem_cons,exists_eq_or_imp,this,dm,List.mem_append]
  ·rw [bf hn]
   simp only [List.mem_cons,List.not_mem_nil,or_false,exists_eq_left]
   exact Iff.rfl
 termination_by t=>t
theorem y_ {k:Bool} {x:Tm} {l:List Tm} (hl:∀ t∈l,Cn t) (h:x∈dm (aj k l)):∃ d∈l,x∈dm d:=by
 obtain ⟨m,hm,hx⟩:=(mU (k:=k) _).2 h
 rcases pK hl hm with q | ⟨d,hd,hmd⟩
 ·cases m with
  | set _=>cases hx
  | eps=>cases hx
  | not a=>
   cases a with
   | set _=>cases hx
   | _=>simp [bY] at q
  | _=>simp [bY] at q
 ·exact ⟨d,hd,(mU d).1 ⟨m,hmd,hx⟩⟩
theorem Rz {c:Int} {x:Tm}:∀ (n:Nat) {t:Tm},dZ t<=n->Cn t->x∈dm (aK c t)->x∈dm t:=by
 intro n
 induction n with
 | zero=>intro t ht;cases t<;>simp [dZ] at ht
 | succ n ih=>
  intro t hn ht h
  cases t with
  | set l=>rw [jy] at h;split at h<;>cases h
  | eps=>cases h
  | chain a b=>
   simp only [dZ] at hn
   have hu:x∈dm (ax (aK c a) b)->x∈dm (.chain a b):=fun h=>by
    rcases wR _ _ h with h | h
    ·exact List.mem_append_left _ (ih (by omega) ht.1 h)
    ·exact List.mem_append_right _ h
   rw [fM] at h
   split at h
   ·obtain ⟨d,hd,hx⟩:=y_ (fun q hq=>by
     simp only [List.mem_cons,List.not_mem_nil,or_false] at hq
     rcases hq with rfl | rfl
     ·exact eF _ _ (fO c ht.1).1 ht.2.1
     ·exact (fO c ht.2.1).1) h
    simp only [List.mem_cons,List.not_mem_nil,or_false] at hd
    rcases hd with rfl | rfl
    ·exact hu hx
    ·exact List.mem_append_right _ (ih (by omega) ht.2.1 hx)
   ·exact hu h
  | star a=>
   simp only [dZ] at hn
   rw [tu] at h
   rcases wR _ _ h with h | h
   ·exact List.mem_cons_of_mem _ (ih (by omega) ht.1 h)
   ·exact h
  | not a=>
   simp only [dZ] at hn
   rw [vW] at h
   refine ih (t:=a) (by omega) ht.1 ?_
   cases hd:aK c a<;>rw [hd] at h<;>exact h
  | aZ k a b=>
   rw [pz] at h
   have hm:∀ m∈memT k (.aZ k a b),Cn m:=fun m hm=>(ht.members m hm).1
   obtain ⟨d,hd,hx⟩:=y_ (nK hm) h
   obtain ⟨m,hm',rfl⟩:=List.mem_map.1 hd
   have:=uY hm'
   exact (mU (k:=k) _).1 ⟨m,hm',ih (by omega) (hm m hm') hx⟩
theorem uZ {x:Tm}:∀ (w:List Int) {t:Tm},Cn t->x∈dm (aI t w)->x∈dm t
 | [],_,_,h=>h
 | c::w,_,ht,h=>Rz _ (Nat.le_refl _) ht (uZ w (fO c ht).1 h)
theorem RA {x y:Tm} (h:qO x y) {q:Tm} (hq:q∈dm y):q∈dm x:=by
 induction h with
 | self=>exact hq
 | neg _ ih=>exact ih hq
 | mem hm _ ih=>exact (mU _).1 ⟨_,hm,ih hq⟩
 | next _ _ ih=>exact List.mem_append_right _ (ih hq)
theorem JC {x:Tm}:∀ (n:Nat) {t:Tm},dZ t<=n->∀ z,x∈dm t->∃ z',dL t z (.star x) z':=by
 intro n
 induction n with
 | zero=>intro t ht;cases t<;>simp [dZ] at ht
 | succ n ih=>
  intro t hn z h
  cases t with
  | set _=>cases h
  | eps=>cases h
  | chain a b=>
   simp only [dZ] at hn
   rcases List.mem_append.1 h with h | h
   ·exact (ih (by omega) _ h).imp fun _ p=>.left p
   ·exact (ih (by omega) _ h).imp fun _ p=>.right p (p.nc rfl)
  | star a=>
   simp only [dZ] at hn
   rcases List.mem_cons.1 h with rfl | h
   ·exact ⟨z,.here _ _⟩
   ·exact (ih (by omega) _ h).imp fun _ p=>.star p
  | not a=>
   simp only [dZ] at hn
   exact (ih (t:=a) (by omega) z h).imp fun _ p=>.neg p
  | aZ k a b=>
   obtain ⟨m,hm,hx⟩:=(mU (k:=k) (.aZ k a b)).2 h
   have:=uY hm
   exact (ih (by omega) z hx).imp fun _ p=>.mem hm p
theorem Ln.mono {t y:Tm} {v w:List Int} (h:Ln t v y) (hv:v <:+ w):Ln t w y:=by
 obtain ⟨h,z,u,p,hu,e,hc,he⟩:=h
 exact ⟨h,z,u,p,hu.trans hv,e,hc,he⟩
theorem EW:∀ (n:Nat) {t:Tm},dZ t<=n->Cn t->∀ w,iq w->∀ y,Ht (aI t w) y->bY y=true\/∃ s z,dL t eps s z/\Ln s w y:=by
 intro n
 induction n with
 | zero=>intro t ht;cases t<;>simp [dZ] at ht
 | succ n ih=>
  intro t hn ht w hw y hy
  cases hy with
  | top h=>exact (lG _ (Nat.le_refl _) ht w hw y h).imp id fun q=>⟨t,eps,.here _ _,q⟩
  | head h hv=>
   rcases lG _ (Nat.le_refl _) ht w hw _ h with q | ⟨h,z,v,p,hvw,e,hc,he⟩
   ·simp [bY] at q
   ·have hh:=p.cn ht trivial
    have hz:=(p.follow ht trivial (by simp)).1
    have gZ:z≠eps:=by rintro rfl;rw [ah] at e;rw [<-e] at hc;cases hc
    have uw:aI h v≠aG:=by intro q;rw [q,aR] at e;cases e
    rw [bB hc uw he hz gZ] at e
    injection e with e1 e2
    rw [e1] at hv
    have hs:dZ h<dZ t:=Nat.lt_of_not_le fun q=>gZ (p.same q).2
    rcases ih (by omega) hh.1 v (fun c hc=>hw c (hvw.subset hc)) y hv with q | ⟨s,z2,p2,q⟩
    ·exact .inl q
    ·exact .inr ⟨s,_,p.comp ht p2,q.mono hvw⟩
  | star h hv=>
   rename_i a
   have hx:a∈dm t:=uZ w ht (RA h (List.mem_cons_self ..))
   obtain ⟨z',p⟩:=JC _ (Nat.le_refl _) eps hx
   have pa:dL t eps a (ax (.star a) z'):=p.trans (.star (.here _ _))
   have hs:dZ a<dZ t:=by have:=p.sz;simp only [dZ] at this;omega
   rcases ih (t:=a) (by omega) (pa.cn ht trivial).1 [] (fun _ h=>by simp at h) y hv with q | ⟨s,z2,p2,q⟩
   ·exact .inl q
   ·exact .inr ⟨s,_,pa.comp ht p2,q.mono List.nil_suffix⟩
def bE:Tm->Nat
 | .set _=>0
 | .eps=>0
 | .chain a b=>bE a+bE b+1
 | .star a=>bE a+1
 | .not a=>bE a+1
 | .aZ _ a b=>bE a+bE b+1
def hF:Bool->Option Bool->Tm->Nat
 | _,_,.set _=>0
 | _,_,.eps=>0
 | c,_,.chain a b=>max (hF false Option.none a) (hF true Option.none b)+(if c=true then 0 else 1)
 | _,_,.star a=>hF false Option.none a+1
 | _,_,.not a=>hF false Option.none a+1
 | _,m,.aZ k a b=>max (hF false Option.none a) (hF false (some k) b)+(if m=some k then 0 else 1)
def iB:Bool->Option Bool->Tm->Tm->List (Tm×Tm)
 | _,_,.set l,z=>[(.set l,z)]
 | _,_,.eps,z=>[(eps,z)]
 | c,_,.chain a b,z=>(if c=true then [] else [(.chain a b,z)])++(iB false Option.none a (ax b z)++iB true Option.none b z)
 | _,_,.star a,z=>(.star a,z)::iB false Option.none a (ax (.star a) z)
 | _,_,.not a,z=>(.not a,z)::iB false Option.none a z
 | _,m,.aZ k a b,z=>(if m=some k then [] else [(.aZ k a b,z)])++(iB false Option.none a z++iB false (some k) b z)
theorem kR:∀ (c:Bool) (m:Option Bool) (t z:Tm),(iB c m t z).length<=2*bE t+1
 | _,_,.set _,_=>by simp [iB,bE]
 | _,_,.eps,_=>by simp [iB,bE]
 | c,_,.chain a b,z=>by
  have h1:=kR false Option.none a (ax b z)
  have h2:=kR true Option.none b z
  simp only [iB,bE,List.length_append]
  split<;>simp<;>omega
 | _,_,.star a,z=>by
  have h1:=kR false Option.none a (ax (.star a) z)
  simp only [iB,bE,List.length_cons];omega
 | _,_,.not a,z=>by
  have h1:=kR false Option.none a z
  simp only [iB,bE,List.length_cons];omega
 | _,m,.aZ k a b,z=>by
  have h1:=kR false Option.none a z
  have h2:=kR false (some k) b z
  simp only [iB,bE,List.length_append]
  split<;>simp<;>omega
def bu:List Nat->Nat
 | []=>0
 | x::r=>x+bu r
theorem kS (a b:List Nat):bu (a++b)=bu a+bu b:=by
 induction a with
 | nil=>simp [bu]
 | cons x a ih=>simp only [List.cons_append,bu,ih];omega
theorem two_mul {r p q x y:Nat} (h1:p<=r) (h2:q<=r):p*x+q*y<=r*(x+y):=by
 rw [Nat.mul_add]
 exact Nat.add_le_add (Nat.mul_le_mul_right _ h1) (Nat.mul_le_mul_right _ h2)
theorem nL:∀ (c:Bool) (m:Option Bool) (t z:Tm),bu ((iB c m t z).map fun p=>bE p.1)<=hF c m t*bE t
 | _,_,.set _,_=>by simp [iB,bE,bu]
 | _,_,.eps,_=>by simp [iB,bE,bu]
 | c,_,.chain a b,z=>by
  have h1:=nL false Option.none a (ax b z)
  have h2:=nL true Option.none b z
  have h3:=two_mul (x:=bE a) (y:=bE b) (Nat.le_max_left (hF false Option.none a) (hF true Option.none b)) (Nat.le_max_right _ _)
  simp only [iB,hF,List.map_append,kS]
  generalize max (hF false Option.none a) (hF true Option.none b)=r at *
  have h4:r*(bE a+bE b)<=r*bE (.chain a b):=Nat.mul_le_mul_left _ (by simp only [bE];omega)
  split
  ·simp only [List.map_nil,bu,Nat.add_zero];omega
  ·simp only [List.map_cons,List.map_nil,bu,Nat.add_mul,Nat.one_mul];omega
 | _,_,.star a,z=>by
  have h1:=nL false Option.none a (ax (.star a) z)
  simp only [iB,hF,List.map_cons,bu,Nat.add_mul,Nat.one_mul]
  have h4:hF false Option.none a*bE a<=hF false Option.none a*bE (.star a):=Nat.mul_le_mul_left _ (by simp only [bE];omega)
  omega
 | _,_,.not a,z=>by
  have h1:=nL false Option.none a z
  simp only [iB,hF,List.map_cons,bu,Nat.add_mul,Nat.one_mul]
  have h4:hF false Option.none a*bE a<=hF false Option.none a*bE (.not a):=Nat.mul_le_mul_left _ (by simp only [bE];omega)
  omega
 | _,m,.aZ k a b,z=>by
  have h1:=nL false Option.none a z
  have h2:=nL false (some k) b z
  have h3:=two_mul (x:=bE a) (y:=bE b) (Nat.le_max_left (hF false Option.none a) (hF false (some k) b)) (Nat.le_max_right _ _)
  simp only [iB,hF,List.map_append,kS]
  generalize max (hF false Option.none a) (hF false (some k) b)=r at *
  have h4:r*(bE a+bE b)<=r*bE (.aZ k a b):=Nat.mul_le_mul_left _ (by simp only [bE];omega)
  split
  ·simp only [List.map_nil,bu,Nat.add_zero];omega
  ·simp only [List.map_cons,List.map_nil,bu,Nat.add_mul,Nat.one_mul];omega
theorem RB {k:Bool} {t:Tm} (h:dD k t=true) (z:Tm):iB false (some k) t z=iB false Option.none t z:=by
 cases t with
 | aZ k' a b=>
  have:k'≠k:=by simpa [dD] using h
  simp [iB,Ne.symm this]
 | _=>rfl
theorem JD {k:Bool} {m z:Tm} {x:Tm×Tm} (hx:x∈iB false Option.none m z):∀ (t:Tm),m∈memT k t->x∈iB false (some k) t z
 | t,h=>by
  rcases iP k t with ⟨a,b,rfl⟩ | hn
  ·rw [gX] at h
   simp only [iB,if_true,List.nil_append]
   rcases List.mem_cons.1 h with rfl | h
   ·exact List.mem_append_left _ hx
   ·exact List.mem_append_right _ (JD hx b h)
  ·rw [bf hn] at h
   have:m=t:=by simpa using h
   subst this
   rw [RB hn];exact hx
theorem M5 {b z:Tm} {x:Tm×Tm} (hx:x∈iB false Option.none b z) (h:bF b=false\/dZ x.1<dZ b):x∈iB true Option.none b z:=by
 cases b with
 | chain a b=>
  simp only [iB,Bool.false_eq_true,if_false,List.cons_append,List.nil_append,List.mem_cons] at hx
  simp only [iB,if_true,List.nil_append]
  rcases hx with rfl | hx
  ·rcases h with h | h
   ·cases h
   ·exact absurd h (Nat.lt_irrefl _)
  ·exact hx
 | _=>exact hx
theorem dL.listed {t z h z':Tm} (p:dL t z h z'):(h,z')∈iB false Option.none t z:=by
 induction p with
 | here t z=>
  cases t<;>simp [iB]
 | left _ ih=>simp only [iB];exact List.mem_append_right _ (List.mem_append_left _ ih)
 | right _ hr ih=>simp only [iB];exact List.mem_append_right _ (List.mem_append_right _ (M5 ih hr))
 | star _ ih=>exact List.mem_cons_of_mem _ ih
 | neg _ ih=>exact List.mem_cons_of_mem _ ih
 | @mem k a b m z h z' hm _ ih=>
  have:=JD ih _ hm
  simp only [iB,if_true,List.nil_append] at this
  simp only [iB]
  exact List.mem_append_right _ this
theorem dL.nz {t z h z':Tm} (p:dL t z h z'):bE h<=bE t:=by
 have hm:∀ (k:Bool) (t:Tm) {m:Tm},m∈memT k t->bE m<=bE t:=by
  intro k t
  induction t with
  | aZ k' a b _ ih=>
   intro m h
   rw [memT] at h
   split at h
   ·rcases List.mem_cons.1 h with rfl | h
    ·simp only [bE];omega
    ·have:=ih h;simp only [bE];omega
   ·simp at h;subst h;exact Nat.le_refl _
  | _=>intro m h;simp [memT] at h;subst h;exact Nat.le_refl _
 induction p with
 | here=>exact Nat.le_refl _
 | left _ ih=>simp only [bE];omega
 | right _ _ ih=>simp only [bE];omega
 | star _ ih=>simp only [bE];omega
 | neg _ ih=>simp only [bE];omega
 | mem h _ ih=>have:=hm _ _ h;omega
def DX:List Int->List (List Int)
 | []=>[[]]
 | a::l=>(a::l)::DX l
theorem wS:∀ l:List Int,(DX l).length=l.length+1
 | []=>rfl
 | _::l=>by rw [DX,List.length_cons,wS l,List.length_cons]
theorem rY {v:List Int}:∀ {w:List Int},v <:+ w->v∈DX w
 | [],h=>by rw [List.suffix_nil.1 h];exact List.mem_cons_self ..
 | a::l,h=>by
  rcases List.suffix_cons_iff.1 h with rfl | h
  ·exact List.mem_cons_self ..
  ·exact List.mem_cons_of_mem _ (rY h)
abbrev DY (t:Tm):List (Tm×Tm):=iB false Option.none t eps
def qp (t:Tm) (vs:List (List Int)):List Tm:=(DY t).flatMap fun p=>vs.map fun v=>ax (aI p.1 v) p.2
theorem JE {α β:Type} (f:α->List β) (n:Nat):∀ (l:List α),(∀ a∈l,(f a).length<=n)->(l.flatMap f).length<=l.length*n
 | [],_=>by simp
 | a::l,h=>by
  have h1:=h a (List.mem_cons_self ..)
  have h2:=JE f n l fun b hb=>h b (List.mem_cons_of_mem _ hb)
  rw [List.flatMap_cons,List.length_append,List.length_cons,Nat.add_mul]
  omega
theorem qw (t:Tm) (vs:List (List Int)):(qp t vs).length<=(2*bE t+1)*vs.length:=
 Nat.le_trans (JE _ vs.length _ fun a _=>by simp) (Nat.mul_le_mul_right _ (kR _ _ _ _))
theorem Ln.listed {t y:Tm} {w:List Int} {vs:List (List Int)} (hv:∀ v,v <:+ w->v∈vs) (h:Ln t w y):y∈qp t vs:=by
 obtain ⟨h,z,v,p,hvw,rfl,_⟩:=h
 exact List.mem_flatMap.2 ⟨(h,z),p.listed,List.mem_map.2 ⟨v,hv v hvw,rfl⟩⟩
theorem il {α:Type} [DecidableEq α]:∀ {l m:List α},l.Nodup->(∀ x∈l,x∈m)->l.length<=m.length
 | [],_,_,_=>Nat.zero_le _
 | a::l,m,hn,hs=>by
  have hn':=List.nodup_cons.1 hn
  have ha:=hs a (List.mem_cons_self ..)
  have ih:=il (l:=l) (m:=m.erase a) hn'.2 fun x hx=>by
   have hne:x≠a:=by rintro rfl;exact hn'.1 hx
   exact (List.mem_erase_of_ne hne).2 (hs x (List.mem_cons_of_mem _ hx))
  rw [List.length_erase_of_mem ha] at ih
  have:0<m.length:=List.length_pos_of_mem ha
  rw [List.length_cons]
  omega
theorem B_ {α:Type} (p:α->Bool):∀ l:List α,l.length=(l.filter p).length+(l.filter fun x=>!p x).length
 | []=>rfl
 | a::l=>by
  have:=B_ p l
  rw [List.filter_cons,List.filter_cons]
  cases p a<;>simp<;>omega
theorem Ca:∀ {l:List Tm},l.Nodup->whole∉l->(l.filter bY).length<=(l.filterMap aQ).length+(if eps∈l then 1 else 0)
 | [],_,_=>by simp
 | a::l,hn,hw=>by
  have hn':=List.nodup_cons.1 hn
  have ih:=Ca hn'.2 fun h=>hw (List.mem_cons_of_mem _ h)
  have hwa:a≠whole:=fun e=>hw (by rw [e];exact List.mem_cons_self ..)
  rw [List.filter_cons,List.filterMap_cons]
  cases a with
  | set s=>simp [aQ,bY];omega
  | eps=>
   rw [if_neg hn'.1] at ih
   simp [aQ,bY];omega
  | not x=>
   have:bY (.not x)=false:=by
    cases x with
    | set s=>cases s with
     | nil=>exact absurd rfl hwa
     | cons _ _=>rfl
    | _=>rfl
   simp [aQ,this];exact ih
  | chain x y=>simp [aQ,bY];exact ih
  | star x=>simp [aQ,bY];exact ih
  | aZ k x y=>simp [aQ,bY];exact ih
theorem EX {k:Bool} {x:Tm} (hx:Cn x):(memT k x).Nodup/\((memT k x).length=1\/(mi (memT k x)/\whole∉memT k x/\aG∉memT k x)):=by
 rcases iP k x with ⟨a,b,rfl⟩ | hn
 ·obtain ⟨h1,h2,h3,h4,h5,h6,h7⟩:=hx
  refine ⟨xW h6,.inr ⟨h7,fun h=>?_,fun h=>?_⟩⟩
  ·rw [gX] at h
   rcases List.mem_cons.1 h with e | h
   ·exact h4 e.symm
   ·exact (h5.members _ h).2.2.2 rfl
  ·rw [gX] at h
   rcases List.mem_cons.1 h with e | h
   ·exact h3 e.symm
   ·exact (h5.members _ h).2.2.1 rfl
 ·rw [bf hn];exact ⟨by simp,.inl rfl⟩
theorem tO {k:Bool} {x:Tm} {L:List Tm} (hx:Cn x) (h:∀ m∈memT k x,bY m=true\/m∈L):(memT k x).length<=L.length+2:=by
 obtain ⟨hn,h1 | ⟨ho,hw,_⟩⟩:=EX (k:=k) hx
 ·omega
 ·have e:=B_ bY (memT k x)
  have h2:=Ca hn hw
  have h3:((memT k x).filter fun m=>!bY m).length<=L.length:=il (hn.filter _) fun m hm=>by
   obtain ⟨hm,hq⟩:=List.mem_filter.1 hm
   rcases h m hm with q | q
   ·rw [q] at hq;cases hq
   ·exact q
  unfold mi at ho
  split at h2<;>omega
theorem adb {h:Tm} (hh:Cn h) {v:List Int} {c:Int} (hw:iq (v++[c])) (k:Bool):(memT k (aK c (aI h v))).length<=(2*bE h+1)*(v.length+2)+2:=by
 rw [<-jc]
 refine Nat.le_trans (tO (fH _ hh) (L:=qp h (DX (v++[c]))) fun m hm=>?_) ?_
 ·exact (lG _ (Nat.le_refl _) hh _ hw m (qO.member hm)).imp id fun q=>q.listed fun v hv=>rY hv
 ·have:=qw h (DX (v++[c]))
  rw [wS,List.length_append] at this
  simp only [List.length_cons,List.length_nil,Nat.zero_add] at this
  rw [show v.length+1+1=v.length+2 from rfl] at this
  omega
theorem O3 {c:Int} {v:List Int} (h:v <:+ []++[c]):v∈[[c],[]]:=by
 have:=rY h
 simpa [DX] using this
theorem ade {s:Tm} (hs:Cn s) {h z:Tm} {v:List Int} {c:Int} (hw:iq (v++[c])) (p:dL s eps h z) (gZ:z≠eps) (hc:bF (aI h v)=false) (he:aI h v≠eps) (hv:aI h v≠aG) :
  (memT false (aK c (.chain (aI h v) z))).length<=4*bE s+5:=by
 have IH:∀ h,dZ h<dZ s->Cn h->∀ v,iq v->∀ y,qO (aI h v) y->bY y=true\/Ln h v y:=fun h _ hh v hv y hy=>lG _ (Nat.le_refl _) hh v hv y hy
 have hsc:iq ([]++[c]):=fun d hd=>hw d (List.mem_append_right _ (by simpa using hd))
 have hh:=p.cn hs trivial
 obtain ⟨hz,M3⟩:=p.follow hs trivial (by simp)
 have hcn:Cn (.chain (aI h v) z):=⟨fH v hh.1,hh.2,hc,hv,he,hz,gZ⟩
 have zm:∀ m∈memT false z,bY m=true\/m∈qp s [[c],[]]:=fun m hm=>(abt hs IH p (w:=[]) hm).imp id fun q=>q.ln.listed fun u hu=>by rw [List.suffix_nil.1 hu];simp
 have zd:∀ m∈memT false (aK c z),bY m=true\/m∈qp s [[c],[]]:=by
  intro m hm
  rcases M3 with e | ⟨b,z1,p1,rfl,hbc,hbe,hbv,hz1,hbs⟩
  ·exact absurd e gZ
  ·exact (U8 hs IH (w:=[]) hsc _ (Nat.le_refl _) (v:=[]) p1 (hbs.imp id fun q=>⟨q.1,q.2,rfl⟩) List.nil_suffix hbc hbe hm).imp id fun q=>q.ln.listed fun u hu=>O3 hu
 have xm:∀ m∈memT false (ax (aI h (v++[c])) z),bY m=true\/m∈ax (aI h (v++[c])) z::qp s [[c],[]]:=by
  intro m hm
  by_cases uw:aI h (v++[c])=aG
  ·rw [uw,aR] at hm
   exact .inl (pO rfl hm)
  by_cases Ry:aI h (v++[c])=eps
  ·rw [Ry,bq] at hm
   exact (zm m hm).imp id fun q=>List.mem_cons_of_mem _ q
  cases M0:bF (aI h (v++[c])) with
  | true=>
   have e:=lF (kQ (fH _ hh.1) M0 hz) hm
   exact .inr (by rw [e];exact List.mem_cons_self ..)
  | false=>
   have e0:=bB M0 uw Ry hz gZ
   have e:=lF (x:=ax (aI h (v++[c])) z) (by rw [e0];rfl) hm
   exact .inr (by rw [e];exact List.mem_cons_self ..)
 refine Nat.le_trans (tO (fO c hcn).1 (L:=ax (aI h (v++[c])) z::qp s [[c],[]]) fun m hm=>?_) ?_
 ·rw [fM,<-jc] at hm
  split at hm
  ·rcases pK (fun q hq=>by
    simp only [List.mem_cons,List.not_mem_nil,or_false] at hq
    rcases hq with rfl | rfl
    ·exact eF _ _ (fH _ hh.1) hh.2
    ·exact (fO c hh.2).1) hm with q | ⟨q,hq,XR⟩
   ·exact .inl q
   ·simp only [List.mem_cons,List.not_mem_nil,or_false] at hq
    rcases hq with rfl | rfl
    ·exact xm m XR
    ·exact (zd m XR).imp id fun q=>List.mem_cons_of_mem _ q
  ·exact xm m hm
 ·have:=qw s [[c],[]]
  simp only [List.length_cons,List.length_nil] at this ⊢
  omega
def dO:Tm->Nat
 | .chain a b=>dO a+dO b
 | _=>1
theorem rZ:∀ t:Tm,1<=dO t
 | .chain a b=>by have:=rZ a;simp only [dO];omega
 | .set _=>Nat.le_refl _
 | .eps=>Nat.le_refl _
 | .star _=>Nat.le_refl _
 | .not _=>Nat.le_refl _
 | .aZ _ _ _=>Nat.le_refl _
theorem Gs:∀ t:Tm,dO t<=bE t+1
 | .chain a b=>by have:=Gs a;have:=Gs b;simp only [dO,bE];omega
 | .set _=>by simp [dO,bE]
 | .eps=>by simp [dO,bE]
 | .star _=>by simp [dO,bE]
 | .not _=>by simp [dO,bE]
 | .aZ _ _ _=>by simp [dO,bE]
theorem r9:∀ (u z:Tm),dO (ax u z)<=dO u+dO z:=by
 intro u
 induction u with
 | chain a b iha ihb=>
  intro z
  have h1:=iha (ax b z)
  have h2:=ihb z
  have h3:=rZ a
  have h4:=rZ b
  rw [ax]
  split
  ·simp only [dO];omega
  ·split
   ·simp only [dO];omega
   ·simp only [dO];omega
 | _=>
  intro z
  have:=rZ z
  simp only [ax]
  repeat' split
  all_goals simp only [dO]
  all_goals omega
theorem dL.len {t z h z':Tm} (p:dL t z h z'):dO z'<=dO z+bE t:=by
 induction p with
 | here=>omega
 | @left a b z h z' _ ih=>have:=r9 b z;have:=Gs b;simp only [bE];omega
 | right _ _ ih=>simp only [bE];omega
 | @star a z h z' _ ih=>have:=r9 (.star a) z;simp only [dO] at this;simp only [bE];omega
 | neg _ ih=>simp only [bE];omega
 | mem h _ ih=>have:=(dL.mem h (.here _ eps)).nz;omega
theorem spine {h:Tm} (hh:Cn h) {u:List Int} (hu:iq u):dO (aI h u)<=bE h+2:=by
 by_cases hc:bF (aI h u)=true
 ·rcases lG _ (Nat.le_refl _) hh u hu _ (.self _) with q | ⟨h',z',v',p,_,e,hnc,_⟩
  ·cases hx:aI h u<;>rw [hx] at hc q<;>simp [bF] at hc;simp [bY] at q
  ·have h1:=r9 (aI h' v') z'
   have h2:=p.len
   have h3:dO (aI h' v')=1:=by cases hx:aI h' v'<;>rw [hx] at hnc<;>first | rfl | cases hnc
   rw [<-e] at h1
   simp only [dO] at h2
   omega
 ·have h3:dO (aI h u)=1:=by
   cases hx:aI h u<;>rw [hx] at hc<;>first | rfl | exact absurd rfl hc
  omega
end Go.Proofs.YtfolanohokflkaaGreatDoor
