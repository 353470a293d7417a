import Derived.Test.YtfolanohokflkaaGreatDoorLnE
namespace Go.Proofs.YtfolanohokflkaaGreatDoor
open Tm (eps)
def Ln (t:Tm) (w:List Int) (y:Tm):Prop:=∃ h z v,dN t eps h z/\v <:+ w/\y=ay (aJ h v) z/\bG (aJ h v)=false/\aJ h v≠eps
def OB (t:Tm) (w:List Int) (y:Tm):Prop:=∃ h z v,dN t eps h z/\v <:+ w/\y=ay (aJ h v) z/\bG (aJ h v)=false/\aJ h v≠eps/\(ek h<ek t\/(h=t/\oH t=true/\v=[]))
theorem je (t:Tm) (w:List Int) (c:Int):aJ t (w++[c])=aL c (aJ t w):=by simp [aJ]
theorem OB.up {t h z y:Tm} {v w:List Int} (p:dN t eps h z) (ht:Cn t) (hs:ek h<ek t) (hl:Ln h v y) (hv:v <:+ w):OB t w (ay y z):=by
 obtain ⟨h2,z2,v2,p2,hv2,rfl,hc,he⟩:=hl
 have hh:=p.cn ht trivial
 have h2c:=p2.cn hh.1 trivial
 refine ⟨h2,ay z2 z,v2,p.comp ht p2,hv2.trans hv,qg _ _ _ (fK v2 h2c.1) h2c.2,hc,he,.inl ?_⟩
 have:=p2.sz
 omega
theorem OB.ln {t y:Tm} {w:List Int} (h:OB t w y):Ln t w y:=by
 obtain ⟨h,z,v,p,hv,e,hc,he,_⟩:=h
 exact ⟨h,z,v,p,hv,e,hc,he⟩
theorem kN:∀ {u z:Tm},Cn u->bG u=true->z≠aH->bG (ay u z)=true:=by
 intro u z hu hc hz
 cases u with
 | chain a b=>
  obtain ⟨_,hb,hac,Md,hae,hbv,hbe⟩:=hu
  by_cases ib:z=eps
  ·rw [ib,ai];rfl
  ·rw [ay,if_neg hz,if_neg ib,bC hac Md hae (fun e=>(oq hb e).elim hbv hz) (fun e=>hbe (BL hb e).1)]
   rfl
 | _=>cases hc
theorem lF {k:Bool} {x m:Tm} (h:bG x=true) (hm:m∈memT k x):m=x:=by
 cases x with
 | chain a b=>simpa [memT] using hm
 | _=>cases h
theorem pI {k:Bool} {x m:Tm} (h:b_ x=true) (hm:m∈memT k x):b_ m=true:=by
 rw [bn (l6 h)] at hm
 simp at hm;subst hm
 exact h
section
variable {t:Tm} (ht:Cn t) (IH:∀ h,ek h<ek t->Cn h->∀ v,iq v->∀ y,qE (aJ h v) y->b_ y=true\/Ln h v y)
include ht IH
theorem aaS {h0 z:Tm} (p0:dN t eps h0 z) {w:List Int} {m:Tm} (hm:m∈memT false z):b_ m=true\/OB t w m:=by
 rcases (p0.follow ht trivial (by simp)).2 with rfl | ⟨b,z1,p,rfl,hc,he,hv,hz1,hs⟩
 ·exact .inl (pI rfl hm)
 ·by_cases ib:z1=eps
  ·subst ib
   rw [ai] at hm
   rcases hs with hs | ⟨rfl,hst⟩
   ·rcases IH b hs (p.cn ht trivial).1 [] (fun _ h=>by simp at h) m (qE.member hm) with h | h
    ·exact .inl h
    ·have:=OB.up p ht hs h (List.nil_suffix (l:=w))
     rw [ai] at this
     exact .inr this
   ·cases b with
    | star a=>
     have:m=.star a:=by simpa [memT] using hm
     subst this
     exact .inr ⟨.star a,eps,[],p,List.nil_suffix,(ai _).symm,rfl,by simp [aJ],.inr ⟨rfl,rfl,rfl⟩⟩
    | _=>cases hst
  ·rw [bC hc hv he hz1 ib] at hm
   have e:=lF rfl hm
   subst e
   exact .inr ⟨b,z1,[],p,List.nil_suffix,(bC hc hv he hz1 ib).symm,hc,he,hs.imp id (fun q=>⟨q.1,q.2,rfl⟩)⟩
theorem aaT {h z:Tm} (p:dN t eps h z) (hs:ek h<ek t) {v w:List Int} (hv:v <:+ w) (hw:iq w) {m:Tm} (hm:m∈memT false (ay (aJ h v) z)):b_ m=true\/OB t w m:=by
 have hh:=p.cn ht trivial
 have hX:=fK v hh.1
 have hz:=(p.follow ht trivial (by simp)).1
 have hsv:iq v:=fun c hc=>hw c (hv.subset hc)
 have hQ:=IH h hs hh.1 v hsv
 by_cases ug:aJ h v=aH
 ·rw [ug,aS] at hm
  exact .inl (pI rfl hm)
 by_cases Rc:aJ h v=eps
 ·rw [Rc,bz] at hm
  exact aaS ht IH p hm
 cases MH:bG (aJ h v) with
 | true=>
  have e:=lF (kN hX MH hz) hm
  subst e
  rcases hQ _ (.self _) with q | q
  ·cases hx:aJ h v<;>rw [hx] at MH q<;>simp [bG] at MH;simp [b_] at q
  ·exact .inr (OB.up p ht hs q hv)
 | false=>
  by_cases ib:z=eps
  ·subst ib
   rw [ai] at hm
   rcases hQ m (qE.member hm) with q | q
   ·exact .inl q
   ·have:=OB.up p ht hs q hv
    rw [ai] at this
    exact .inr this
  ·rw [bC MH ug Rc hz ib] at hm
   have e:=lF rfl hm
   subst e
   exact .inr ⟨h,z,v,p,hv,(bC MH ug Rc hz ib).symm,MH,Rc,.inl hs⟩
theorem UB {c:Int} {w:List Int} (hw:iq (w++[c])):∀ (n:Nat) {h z:Tm} {v:List Int},ek z<=n->dN t eps h z->(ek h<ek t\/(h=t/\oH t=true/\v=[]))->v <:+ w->bG (aJ h v)=false->aJ h v≠eps ->
  ∀ {m:Tm},m∈memT false (aL c (ay (aJ h v) z))->b_ m=true\/OB t (w++[c]) m:=by
 have base:∀ {h:Tm} {v:List Int},dN t eps h eps->(ek h<ek t\/(h=t/\oH t=true/\v=[]))->v <:+ w->∀ {m:Tm},m∈memT false (aL c (aJ h v))->b_ m=true\/OB t (w++[c]) m:=by
  intro h v p hs hv m hm
  rcases hs with hs | ⟨rfl,hst,rfl⟩
  ·rw [<-je,<-ai (aJ h (v++[c]))] at hm
   obtain ⟨q,rfl⟩:=hv
   exact aaT ht IH p hs ⟨q,by simp⟩ hw hm
  ·cases h with
   | star a=>
    have hm':m∈memT false (ay (aJ a [c]) (ay (.star a) eps)):=by rw [ai];exact hm
    exact aaT ht IH (.star (.here _ _)) (by simp only [ek];omega) ⟨w,rfl⟩ hw hm'
   | _=>cases hst
 intro n
 induction n with
 | zero=>intro h z v hz;cases z<;>simp [ek] at hz
 | succ n ihn=>
  intro h z v hn p hs hv hc he m hm
  have hh:=p.cn ht trivial
  have hX:=fK v hh.1
  by_cases ug:aJ h v=aH
  ·rw [ug,aS] at hm
   exact .inl (pI rfl hm)
  by_cases ib:z=eps
  ·subst ib
   rw [ai] at hm
   exact base p hs hv hm
  have hsl:ek h<ek t:=by
   rcases hs with hs | ⟨rfl,_⟩
   ·exact hs
   ·exact absurd (p.same (Nat.le_refl _)).2 ib
  obtain ⟨hz,MI⟩:=p.follow ht trivial (by simp)
  rw [bC hc ug he hz ib,fQ,<-je] at hm
  have Xg:v++[c] <:+ w++[c]:=by obtain ⟨q,rfl⟩:=hv;exact ⟨q,by simp⟩
  have hU:∀ m∈memT false (ay (aJ h (v++[c])) z),b_ m=true\/OB t (w++[c]) m:=fun m hm=>aaT ht IH p hsl Xg hw hm
  split at hm
  ·rcases pF (fun q hq=>by
    simp only [List.mem_cons,List.not_mem_nil,or_false] at hq
    rcases hq with rfl | rfl
    ·exact eP _ _ (fK _ hh.1) hh.2
    ·exact (fT c hh.2).1) hm with q | ⟨q,hq,Xh⟩
   ·exact .inl q
   ·simp only [List.mem_cons,List.not_mem_nil,or_false] at hq
    rcases hq with rfl | rfl
    ·exact hU m Xh
    ·rcases MI with rfl | ⟨b,z1,p1,rfl,hbc,hbe,hbv,hz1,hbs⟩
     ·exact absurd rfl ib
     ·by_cases UC:z1=eps
      ·subst UC
       rw [ai] at Xh
       exact base (v:=[]) p1 (hbs.imp id (fun q=>⟨q.1,q.2,rfl⟩)) List.nil_suffix Xh
      ·refine ihn (h:=b) (z:=z1) (v:=[]) ?_ p1 (hbs.imp id (fun q=>⟨q.1,q.2,rfl⟩)) List.nil_suffix hbc hbe Xh
       rw [bC hbc hbv hbe hz1 UC] at hn
       simp only [ek] at hn
       omega
  ·exact hU m hm
theorem acm {w:List Int} (hw:iq w):∀ (n:Nat) {h z:Tm} {v:List Int},ek z<=n->dN t eps h z->(ek h<ek t\/(h=t/\oH t=true/\v=[]))->v <:+ w->bG (aJ h v)=false->aJ h v≠eps ->
  ∀ {y:Tm},qE (ay (aJ h v) z) y->b_ y=true\/Ln t w y:=by
 have base:∀ {h:Tm} {v:List Int},dN t eps h eps->(ek h<ek t\/(h=t/\oH t=true/\v=[]))->v <:+ w->∀ {y:Tm},qE (aJ h v) y->b_ y=true\/Ln t w y:=by
  intro h v p hs hv y hy
  rcases hs with hs | ⟨rfl,hst,rfl⟩
  ·rcases IH h hs (p.cn ht trivial).1 v (fun c hc=>hw c (hv.subset hc)) y hy with q | q
   ·exact .inl q
   ·have:=(OB.up p ht hs q hv).ln
    rw [ai] at this
    exact .inr this
  ·cases h with
   | star a=>
    cases hy with
    | self=>exact .inr ⟨.star a,eps,[],p,List.nil_suffix,(ai _).symm,rfl,by simp [aJ]⟩
   | _=>cases hst
 intro n
 induction n with
 | zero=>intro h z v hz;cases z<;>simp [ek] at hz
 | succ n ihn=>
  intro h z v hn p hs hv hc he y hy
  by_cases ug:aJ h v=aH
  ·rw [ug,aS] at hy
   exact .inl (nK rfl hy)
  by_cases ib:z=eps
  ·subst ib
   rw [ai] at hy
   exact base p hs hv hy
  obtain ⟨hz,MI⟩:=p.follow ht trivial (by simp)
  rw [bC hc ug he hz ib] at hy
  cases hy with
  | self=>exact .inr ⟨h,z,v,p,hv,(bC hc ug he hz ib).symm,hc,he⟩
  | next _ hy=>
   rcases MI with rfl | ⟨b,z1,p1,rfl,hbc,hbe,hbv,hz1,hbs⟩
   ·exact absurd rfl ib
   ·by_cases UC:z1=eps
    ·subst UC
     rw [ai] at hy
     exact base (v:=[]) p1 (hbs.imp id (fun q=>⟨q.1,q.2,rfl⟩)) List.nil_suffix hy
    ·refine ihn (h:=b) (z:=z1) (v:=[]) ?_ p1 (hbs.imp id (fun q=>⟨q.1,q.2,rfl⟩)) List.nil_suffix hbc hbe hy
     rw [bC hbc hbv hbe hz1 UC] at hn
     simp only [ek] at hn
     omega
theorem adx (UD:bG t=true\/oH t=true):∀ (n:Nat) (w:List Int),w.length=n->iq w->∀ m∈memT false (aJ t w),b_ m=true\/OB t w m:=by
 intro n
 induction n with
 | zero=>
  intro w hn _ m hm
  obtain rfl:w=[]:=List.length_eq_zero_iff.1 hn
  cases t with
  | chain a b=>
   have e:m=.chain a b:=by simpa [memT,aJ] using hm
   subst e
   obtain ⟨_,_,hac,Md,hae,hbv,hbe⟩:=ht
   exact .inr ⟨a,ay b eps,[],.left (.here _ _),List.nil_suffix,by rw [ai];exact (bC hac Md hae hbv hbe).symm,hac,hae,.inl (by simp only [ek];omega)⟩
  | star a=>
   have e:m=.star a:=by simpa [memT,aJ] using hm
   subst e
   exact .inr ⟨.star a,eps,[],.here _ _,List.nil_suffix,(ai _).symm,rfl,by simp [aJ],.inr ⟨rfl,rfl,rfl⟩⟩
  | _=>rcases UD with h | h<;>cases h
 | succ n ih=>
  intro w hn hw m hm
  obtain ⟨u,c,rfl⟩:∃ u c,w=u++[c]:=⟨w.dropLast,w.getLast (by intro e;subst e;cases hn),(List.dropLast_concat_getLast _).symm⟩
  have hu:u.length=n:=by simpa using hn
  rw [je] at hm
  rcases Yk (fK u ht) hm with q | ⟨m0,hm0,hm⟩
  ·exact .inl q
  ·rcases ih u hu hw.left m0 hm0 with q | ⟨h,z,v,p,hv,rfl,hc,he,hs⟩
   ·exact .inl (pI (wE q) hm)
   ·exact UB ht IH hw _ (Nat.le_refl _) p hs hv hc he hm
theorem Z6 (UD:bG t=true\/oH t=true) {w:List Int} (hw:iq w) {y:Tm} (h:qE (aJ t w) y):b_ y=true\/Ln t w y:=by
 have hm:=adx ht IH UD _ w rfl hw
 have hx:=fK w ht
 rcases iR false (aJ t w) with ⟨a,b,e⟩ | hn
 ·rw [e] at h hm
  cases h with
  | self=>exact .inr ⟨t,eps,w,.here _ _,List.suffix_refl _,by rw [e,ai],by rw [e];rfl,by rw [e];simp⟩
  | mem hmm hy=>
   rcases hm _ hmm with q | ⟨h,z,v,p,hv,rfl,hc,he,hs⟩
   ·exact .inl (nK q hy)
   ·exact acm ht IH hw _ (Nat.le_refl _) p hs hv hc he hy
 ·rw [bn hn] at hm
  rcases hm _ (List.mem_cons_self ..) with q | ⟨h',z,v,p,hv,e,hc,he,hs⟩
  ·exact .inl (nK q h)
  ·rw [e] at h
   exact acm ht IH hw _ (Nat.le_refl _) p hs hv hc he h
end
end Go.Proofs.YtfolanohokflkaaGreatDoor
namespace Go.Proofs.YtfolanohokflkaaGreatDoor
open Tm (eps)
theorem JB:∀ (w:List Int) {x:Tm},Cn x->aJ (kg x) w=kg (aJ x w)
 | [],_,_=>rfl
 | c::w,x,h=>by
  show aJ (aL c (kg x)) w=kg (aJ (aL c x) w)
  rw [Yn h,JB w (fT c h).1]
theorem BM {k:Bool}:∀ (w:List Int) {l:List Tm},(∀ t∈l,Cn t)->iq w->aJ (aj k l) w=aj k (l.map fun t=>aJ t w)
 | [],l,_,_=>by simp [aJ]
 | c::w,l,h,hw=>by
  show aJ (aL c (aj k l)) w=aj k (l.map fun t=>aJ (aL c t) w)
  rw [Ra (hw c (List.mem_cons_self ..)) h,BM w (nL h) (fun d hd=>hw d (List.mem_cons_of_mem _ hd)),List.map_map]
  rfl
theorem DL {k:Bool} {t:Tm} (h:Cn t):aj k (memT k t)=t:=by
 have hm:∀ m∈memT k t,Cn m:=fun m hm=>(h.members m hm).1
 have e:(memT k t).flatMap (memT k)=memT k t:=by
  have:∀ l:List Tm,(∀ m∈l,dF k m=true)->l.flatMap (memT k)=l:=by
   intro l
   induction l with
   | nil=>intro _;rfl
   | cons a r ih=>intro h;rw [List.flatMap_cons,bn (h a (List.mem_cons_self ..)),ih fun m hm=>h m (List.mem_cons_of_mem _ hm)];rfl
  exact this _ fun m hm=>(h.members m hm).2
 have e2:aj k (memT k t)=aj k [t]:=by
  unfold aj
  rw [e,List.flatMap_cons,List.flatMap_nil,List.append_nil]
 rw [e2,group_one' h]
theorem xV:∀ (w:List Int) {t:Tm},b_ t=true->b_ (aJ t w)=true
 | [],_,h=>h
 | c::w,_,h=>xV w (wE (c:=c) h)
theorem Ln.inner {t a y:Tm} {w:List Int} (p:∀ h z,dN a eps h z->dN t eps h z) (h:Ln a w y):Ln t w y:=by
 obtain ⟨h,z,v,q,hv,e,hc,he⟩:=h
 exact ⟨h,z,v,p h z q,hv,e,hc,he⟩
theorem Ln.self {t:Tm} {w:List Int} (hc:bG (aJ t w)=false) (he:aJ t w≠eps):Ln t w (aJ t w):=⟨t,eps,w,.here _ _,List.suffix_refl _,(ai _).symm,hc,he⟩
theorem lG:∀ (n:Nat) {t:Tm},ek t<=n->Cn t->∀ w,iq w->∀ y,qE (aJ t w) y->b_ y=true\/Ln t w y:=by
 intro n
 induction n with
 | zero=>intro t ht;cases t<;>simp [ek] at ht
 | succ n ih=>
  intro t hn ht w hw y hy
  have IH:∀ h,ek h<ek t->Cn h->∀ v,iq v->∀ y,qE (aJ h v) y->b_ y=true\/Ln h v y:=fun h hs hh v hv y hy=>ih (by omega) hh v hv y hy
  cases t with
  | set l=>exact .inl (nK (xV w rfl) hy)
  | eps=>exact .inl (nK (xV w rfl) hy)
  | chain a b=>exact Z6 ht IH (.inl rfl) hw hy
  | star a=>exact Z6 ht IH (.inr rfl) hw hy
  | not a=>
   have ha:Cn a:=ht.1
   have e:aJ (.not a) w=kg (aJ a w):=by
    rw [<-JB w ha]
    congr 1
    have:=ht.2.1
    cases a<;>simp [Oh] at this<;>rfl
   have hIa:=IH a (by simp only [ek];omega) ha w hw
   have up:∀ y,b_ y=true\/Ln a w y->b_ y=true\/Ln (.not a) w y:=fun y h=>h.imp id (Ln.inner fun _ _ q=>.neg q)
   rw [e] at hy
   rcases Yj hy with rfl | hy
   ·cases hc:bG (kg (aJ a w)) with
    | false=>
     by_cases he:kg (aJ a w)=eps
     ·rw [he];exact .inl rfl
     ·rw [<-e] at hc he ⊢
      exact .inr (Ln.self hc he)
    | true=>
     refine up _ (hIa _ ?_)
     cases hX:aJ a w with
     | not q=>exact .neg (.self _)
     | _=>rw [hX] at hc;cases hc
   ·exact up _ (hIa y hy)
  | bf k a b=>
   have hm:∀ m∈memT k (.bf k a b),Cn m:=fun m hm=>(ht.members m hm).1
   have e:aJ (.bf k a b) w=aj k ((memT k (.bf k a b)).map fun t=>aJ t w):=by
    conv=>lhs;rw [<-DL (k:=k) ht]
    exact BM w hm hw
   have hcn:∀ t∈(memT k (.bf k a b)).map (fun t=>aJ t w),Cn t:=fun t ht'=>by
    obtain ⟨m,hm',rfl⟩:=List.mem_map.1 ht'
    exact fK w (hm m hm')
   have up:∀ m∈memT k (.bf k a b),∀ y,qE (aJ m w) y->b_ y=true\/Ln (.bf k a b) w y:=fun m hm' y hy=>
    (IH m (uQ hm') (hm m hm') w hw y hy).imp id (Ln.inner fun _ _ q=>.mem hm' q)
   rw [e] at hy
   rcases Q9 hcn hy with rfl | q | ⟨d,hd,m,hmd,hy⟩
   ·cases hc:bG (aj k ((memT k (.bf k a b)).map fun t=>aJ t w)) with
    | false=>
     by_cases he:aj k ((memT k (.bf k a b)).map fun t=>aJ t w)=eps
     ·rw [he];exact .inl rfl
     ·rw [<-e] at hc he ⊢
      exact .inr (Ln.self hc he)
    | true=>
     rcases rJ (k:=k) hcn with q | ⟨d,hd,hx⟩ | ⟨a',b',e',_⟩
     ·exact .inl q
     ·obtain ⟨m,hm',rfl⟩:=List.mem_map.1 hd
      exact up m hm' _ (qE.member hx)
     ·rw [e'] at hc;cases hc
   ·exact .inl q
   ·obtain ⟨m0,hm0,rfl⟩:=List.mem_map.1 hd
    exact up m0 hm0 y ((qE.member hmd).trans hy)
inductive Hw:Tm->Tm->Prop where
 | top {x y:Tm}:qE x y->Hw x y
 | head {x a b y:Tm}:qE x (.chain a b)->Hw a y->Hw x y
 | star {x a y:Tm}:qE x (.star a)->Hw a y->Hw x y
end Go.Proofs.YtfolanohokflkaaGreatDoor
namespace Go.Proofs.YtfolanohokflkaaGreatDoor
open Tm (eps)
def dm:Tm->List Tm
 | .set _=>[]
 | .eps=>[]
 | .chain a b=>dm a++dm b
 | .star a=>a::dm a
 | .not a=>dm a
 | .bf _ a b=>dm a++dm b
theorem wG {x:Tm}:∀ (u z:Tm),x∈dm (ay u z)->x∈dm u\/x∈dm z:=by
 intro u
 induction u with
 | chain a b iha ihb=>
  intro z h
  rw [ay] at h
  split at h
  ·cases h
  split at h
  ·exact .inl h
  ·rcases iha _ h with h | h
   ·exact .inl (List.mem_append_left _ h)
   ·rcases ihb _ h with h | h
    ·exact .inl (List.mem_append_right _ h)
    ·exact .inr h
 | eps=>intro z h;rw [bz] at h;exact .inr h
 | set l=>
  intro z h
  rw [ay] at h
  split at h
  ·cases h
  split at h
  ·exact .inl h
  ·exact .inr (by simpa [dm] using h)
 | _=>
  intro z h
  rw [ay] at h
  split at h
  ·cases h
  split at h
  ·exact .inl h
  ·exact List.mem_append.1 h
theorem mW {k:Bool} {x:Tm}:∀ (t:Tm),(∃ m∈memT k t,x∈dm m)↔x∈dm t
 | t=>by
  rcases iR k t with ⟨a,b,rfl⟩ | hn
  ·rw [g_]
   have:=mW (k:=k) (x:=x) b
   simp only [List.mem_cons,exists_eq_or_imp,this,dm,List.mem_append]
  ·rw [bn hn]
   simp only [List.mem_cons,List.not_mem_nil,or_false,exists_eq_left]
   exact Iff.rfl
 termination_by t=>t
theorem yQ {k:Bool} {x:Tm} {l:List Tm} (hl:∀ t∈l,Cn t) (h:x∈dm (aj k l)):∃ d∈l,x∈dm d:=by
 obtain ⟨m,hm,hx⟩:=(mW (k:=k) _).2 h
 rcases pF hl hm with q | ⟨d,hd,hmd⟩
 ·cases m with
  | set _=>cases hx
  | eps=>cases hx
  | not a=>
   cases a with
   | set _=>cases hx
   | _=>simp [b_] at q
  | _=>simp [b_] at q
 ·exact ⟨d,hd,(mW d).1 ⟨m,hmd,hx⟩⟩
theorem Re {c:Int} {x:Tm}:∀ (n:Nat) {t:Tm},ek t<=n->Cn t->x∈dm (aL c t)->x∈dm t:=by
 intro n
 induction n with
 | zero=>intro t ht;cases t<;>simp [ek] at ht
 | succ n ih=>
  intro t hn ht h
  cases t with
  | set l=>rw [jC] at h;split at h<;>cases h
  | eps=>cases h
  | chain a b=>
   simp only [ek] at hn
   have hu:x∈dm (ay (aL c a) b)->x∈dm (.chain a b):=fun h=>by
    rcases wG _ _ h with h | h
    ·exact List.mem_append_left _ (ih (by omega) ht.1 h)
    ·exact List.mem_append_right _ h
   rw [fQ] at h
   split at h
   ·obtain ⟨d,hd,hx⟩:=yQ (fun q hq=>by
     simp only [List.mem_cons,List.not_mem_nil,or_false] at hq
     rcases hq with rfl | rfl
     ·exact eP _ _ (fT c ht.1).1 ht.2.1
     ·exact (fT c ht.2.1).1) h
    simp only [List.mem_cons,List.not_mem_nil,or_false] at hd
    rcases hd with rfl | rfl
    ·exact hu hx
    ·exact List.mem_append_right _ (ih (by omega) ht.2.1 hx)
   ·exact hu h
  | star a=>
   simp only [ek] at hn
   rw [sN] at h
   rcases wG _ _ h with h | h
   ·exact List.mem_cons_of_mem _ (ih (by omega) ht.1 h)
   ·exact h
  | not a=>
   simp only [ek] at hn
   rw [vM] at h
   refine ih (t:=a) (by omega) ht.1 ?_
   cases hd:aL c a<;>rw [hd] at h<;>exact h
  | bf k a b=>
   rw [o8] at h
   have hm:∀ m∈memT k (.bf k a b),Cn m:=fun m hm=>(ht.members m hm).1
   obtain ⟨d,hd,hx⟩:=yQ (nL hm) h
   obtain ⟨m,hm',rfl⟩:=List.mem_map.1 hd
   have:=uQ hm'
   exact (mW (k:=k) _).1 ⟨m,hm',ih (by omega) (hm m hm') hx⟩
theorem uR {x:Tm}:∀ (w:List Int) {t:Tm},Cn t->x∈dm (aJ t w)->x∈dm t
 | [],_,_,h=>h
 | c::w,_,ht,h=>Re _ (Nat.le_refl _) ht (uR w (fT c ht).1 h)
theorem Rf {x y:Tm} (h:qE x y) {q:Tm} (hq:q∈dm y):q∈dm x:=by
 induction h with
 | self=>exact hq
 | neg _ ih=>exact ih hq
 | mem hm _ ih=>exact (mW _).1 ⟨_,hm,ih hq⟩
 | next _ _ ih=>exact List.mem_append_right _ (ih hq)
theorem JC {x:Tm}:∀ (n:Nat) {t:Tm},ek t<=n->∀ z,x∈dm t->∃ z',dN t z (.star x) z':=by
 intro n
 induction n with
 | zero=>intro t ht;cases t<;>simp [ek] at ht
 | succ n ih=>
  intro t hn z h
  cases t with
  | set _=>cases h
  | eps=>cases h
  | chain a b=>
   simp only [ek] at hn
   rcases List.mem_append.1 h with h | h
   ·exact (ih (by omega) _ h).imp fun _ p=>.left p
   ·exact (ih (by omega) _ h).imp fun _ p=>.right p (p.nc rfl)
  | star a=>
   simp only [ek] at hn
   rcases List.mem_cons.1 h with rfl | h
   ·exact ⟨z,.here _ _⟩
   ·exact (ih (by omega) _ h).imp fun _ p=>.star p
  | not a=>
   simp only [ek] at hn
   exact (ih (t:=a) (by omega) z h).imp fun _ p=>.neg p
  | bf k a b=>
   obtain ⟨m,hm,hx⟩:=(mW (k:=k) (.bf k a b)).2 h
   have:=uQ hm
   exact (ih (by omega) z hx).imp fun _ p=>.mem hm p
theorem Ln.mono {t y:Tm} {v w:List Int} (h:Ln t v y) (hv:v <:+ w):Ln t w y:=by
 obtain ⟨h,z,u,p,hu,e,hc,he⟩:=h
 exact ⟨h,z,u,p,hu.trans hv,e,hc,he⟩
theorem EW:∀ (n:Nat) {t:Tm},ek t<=n->Cn t->∀ w,iq w->∀ y,Hw (aJ t w) y->b_ y=true\/∃ s z,dN t eps s z/\Ln s w y:=by
 intro n
 induction n with
 | zero=>intro t ht;cases t<;>simp [ek] at ht
 | succ n ih=>
  intro t hn ht w hw y hy
  cases hy with
  | top h=>exact (lG _ (Nat.le_refl _) ht w hw y h).imp id fun q=>⟨t,eps,.here _ _,q⟩
  | head h hv=>
   rcases lG _ (Nat.le_refl _) ht w hw _ h with q | ⟨h,z,v,p,hvw,e,hc,he⟩
   ·simp [b_] at q
   ·have hh:=p.cn ht trivial
    have hz:=(p.follow ht trivial (by simp)).1
    have ib:z≠eps:=by rintro rfl;rw [ai] at e;rw [<-e] at hc;cases hc
    have ug:aJ h v≠aH:=by intro q;rw [q,aS] at e;cases e
    rw [bC hc ug he hz ib] at e
    injection e with e1 e2
    rw [e1] at hv
    have hs:ek h<ek t:=Nat.lt_of_not_le fun q=>ib (p.same q).2
    rcases ih (by omega) hh.1 v (fun c hc=>hw c (hvw.subset hc)) y hv with q | ⟨s,z2,p2,q⟩
    ·exact .inl q
    ·exact .inr ⟨s,_,p.comp ht p2,q.mono hvw⟩
  | star h hv=>
   rename_i a
   have hx:a∈dm t:=uR w ht (Rf h (List.mem_cons_self ..))
   obtain ⟨z',p⟩:=JC _ (Nat.le_refl _) eps hx
   have pa:dN t eps a (ay (.star a) z'):=p.trans (.star (.here _ _))
   have hs:ek a<ek t:=by have:=p.sz;simp only [ek] at this;omega
   rcases ih (t:=a) (by omega) (pa.cn ht trivial).1 [] (fun _ h=>by simp at h) y hv with q | ⟨s,z2,p2,q⟩
   ·exact .inl q
   ·exact .inr ⟨s,_,pa.comp ht p2,q.mono List.nil_suffix⟩
end Go.Proofs.YtfolanohokflkaaGreatDoor
namespace Go.Proofs.YtfolanohokflkaaGreatDoor
open Tm (eps)
def bF:Tm->Nat
 | .set _=>0
 | .eps=>0
 | .chain a b=>bF a+bF b+1
 | .star a=>bF a+1
 | .not a=>bF a+1
 | .bf _ a b=>bF a+bF b+1
def hF:Bool->Option Bool->Tm->Nat
 | _,_,.set _=>0
 | _,_,.eps=>0
 | c,_,.chain a b=>max (hF false Option.none a) (hF true Option.none b)+(if c=true then 0 else 1)
 | _,_,.star a=>hF false Option.none a+1
 | _,_,.not a=>hF false Option.none a+1
 | _,m,.bf k a b=>max (hF false Option.none a) (hF false (some k) b)+(if m=some k then 0 else 1)
def iB:Bool->Option Bool->Tm->Tm->List (Tm×Tm)
 | _,_,.set l,z=>[(.set l,z)]
 | _,_,.eps,z=>[(eps,z)]
 | c,_,.chain a b,z=>(if c=true then [] else [(.chain a b,z)])++(iB false Option.none a (ay b z)++iB true Option.none b z)
 | _,_,.star a,z=>(.star a,z)::iB false Option.none a (ay (.star a) z)
 | _,_,.not a,z=>(.not a,z)::iB false Option.none a z
 | _,m,.bf k a b,z=>(if m=some k then [] else [(.bf k a b,z)])++(iB false Option.none a z++iB false (some k) b z)
theorem kP:∀ (c:Bool) (m:Option Bool) (t z:Tm),(iB c m t z).length<=2*bF t+1
 | _,_,.set _,_=>by simp [iB,bF]
 | _,_,.eps,_=>by simp [iB,bF]
 | c,_,.chain a b,z=>by
  have h1:=kP false Option.none a (ay b z)
  have h2:=kP true Option.none b z
  simp only [iB,bF,List.length_append]
  split<;>simp<;>omega
 | _,_,.star a,z=>by
  have h1:=kP false Option.none a (ay (.star a) z)
  simp only [iB,bF,List.length_cons];omega
 | _,_,.not a,z=>by
  have h1:=kP false Option.none a z
  simp only [iB,bF,List.length_cons];omega
 | _,m,.bf k a b,z=>by
  have h1:=kP false Option.none a z
  have h2:=kP false (some k) b z
  simp only [iB,bF,List.length_append]
  split<;>simp<;>omega
def bA:List Nat->Nat
 | []=>0
 | x::r=>x+bA r
theorem kQ (a b:List Nat):bA (a++b)=bA a+bA b:=by
 induction a with
 | nil=>simp [bA]
 | cons x a ih=>simp only [List.cons_append,bA,ih];omega
theorem two_mul {r p q x y:Nat} (h1:p<=r) (h2:q<=r):p*x+q*y<=r*(x+y):=by
 rw [Nat.mul_add]
 exact Nat.add_le_add (Nat.mul_le_mul_right _ h1) (Nat.mul_le_mul_right _ h2)
theorem nM:∀ (c:Bool) (m:Option Bool) (t z:Tm),bA ((iB c m t z).map fun p=>bF p.1)<=hF c m t*bF t
 | _,_,.set _,_=>by simp [iB,bF,bA]
 | _,_,.eps,_=>by simp [iB,bF,bA]
 | c,_,.chain a b,z=>by
  have h1:=nM false Option.none a (ay b z)
  have h2:=nM true Option.none b z
  have h3:=two_mul (x:=bF a) (y:=bF b) (Nat.le_max_left (hF false Option.none a) (hF true Option.none b)) (Nat.le_max_right _ _)
  simp only [iB,hF,List.map_append,kQ]
  generalize max (hF false Option.none a) (hF true Option.none b)=r at *
  have h4:r*(bF a+bF b)<=r*bF (.chain a b):=Nat.mul_le_mul_left _ (by simp only [bF];omega)
  split
  ·simp only [List.map_nil,bA,Nat.add_zero];omega
  ·simp only [List.map_cons,List.map_nil,bA,Nat.add_mul,Nat.one_mul];omega
 | _,_,.star a,z=>by
  have h1:=nM false Option.none a (ay (.star a) z)
  simp only [iB,hF,List.map_cons,bA,Nat.add_mul,Nat.one_mul]
  have h4:hF false Option.none a*bF a<=hF false Option.none a*bF (.star a):=Nat.mul_le_mul_left _ (by simp only [bF];omega)
  omega
 | _,_,.not a,z=>by
  have h1:=nM false Option.none a z
  simp only [iB,hF,List.map_cons,bA,Nat.add_mul,Nat.one_mul]
  have h4:hF false Option.none a*bF a<=hF false Option.none a*bF (.not a):=Nat.mul_le_mul_left _ (by simp only [bF];omega)
  omega
 | _,m,.bf k a b,z=>by
  have h1:=nM false Option.none a z
  have h2:=nM false (some k) b z
  have h3:=two_mul (x:=bF a) (y:=bF b) (Nat.le_max_left (hF false Option.none a) (hF false (some k) b)) (Nat.le_max_right _ _)
  simp only [iB,hF,List.map_append,kQ]
  generalize max (hF false Option.none a) (hF false (some k) b)=r at *
  have h4:r*(bF a+bF b)<=r*bF (.bf k a b):=Nat.mul_le_mul_left _ (by simp only [bF];omega)
  split
  ·simp only [List.map_nil,bA,Nat.add_zero];omega
  ·simp only [List.map_cons,List.map_nil,bA,Nat.add_mul,Nat.one_mul];omega
theorem Rh {k:Bool} {t:Tm} (h:dF k t=true) (z:Tm):iB false (some k) t z=iB false Option.none t z:=by
 cases t with
 | bf k' a b=>
  have:k'≠k:=by simpa [dF] using h
  simp [iB,Ne.symm this]
 | _=>rfl
theorem JD {k:Bool} {m z:Tm} {x:Tm×Tm} (hx:x∈iB false Option.none m z):∀ (t:Tm),m∈memT k t->x∈iB false (some k) t z
 | t,h=>by
  rcases iR k t with ⟨a,b,rfl⟩ | hn
  ·rw [g_] at h
   simp only [iB,if_true,List.nil_append]
   rcases List.mem_cons.1 h with rfl | h
   ·exact List.mem_append_left _ hx
   ·exact List.mem_append_right _ (JD hx b h)
  ·rw [bn hn] at h
   have:m=t:=by simpa using h
   subst this
   rw [Rh hn];exact hx
theorem MJ {b z:Tm} {x:Tm×Tm} (hx:x∈iB false Option.none b z) (h:bG b=false\/ek x.1<ek b):x∈iB true Option.none b z:=by
 cases b with
 | chain a b=>
  simp only [iB,Bool.false_eq_true,if_false,List.cons_append,List.nil_append,List.mem_cons] at hx
  simp only [iB,if_true,List.nil_append]
  rcases hx with rfl | hx
  ·rcases h with h | h
   ·cases h
   ·exact absurd h (Nat.lt_irrefl _)
  ·exact hx
 | _=>exact hx
theorem dN.listed {t z h z':Tm} (p:dN t z h z'):(h,z')∈iB false Option.none t z:=by
 induction p with
 | here t z=>
  cases t<;>simp [iB]
 | left _ ih=>simp only [iB];exact List.mem_append_right _ (List.mem_append_left _ ih)
 | right _ hr ih=>simp only [iB];exact List.mem_append_right _ (List.mem_append_right _ (MJ ih hr))
 | star _ ih=>exact List.mem_cons_of_mem _ ih
 | neg _ ih=>exact List.mem_cons_of_mem _ ih
 | @mem k a b m z h z' hm _ ih=>
  have:=JD ih _ hm
  simp only [iB,if_true,List.nil_append] at this
  simp only [iB]
  exact List.mem_append_right _ this
theorem dN.nz {t z h z':Tm} (p:dN t z h z'):bF h<=bF t:=by
 have hm:∀ (k:Bool) (t:Tm) {m:Tm},m∈memT k t->bF m<=bF t:=by
  intro k t
  induction t with
  | bf k' a b _ ih=>
   intro m h
   rw [memT] at h
   split at h
   ·rcases List.mem_cons.1 h with rfl | h
    ·simp only [bF];omega
    ·have:=ih h;simp only [bF];omega
   ·simp at h;subst h;exact Nat.le_refl _
  | _=>intro m h;simp [memT] at h;subst h;exact Nat.le_refl _
 induction p with
 | here=>exact Nat.le_refl _
 | left _ ih=>simp only [bF];omega
 | right _ _ ih=>simp only [bF];omega
 | star _ ih=>simp only [bF];omega
 | neg _ ih=>simp only [bF];omega
 | mem h _ ih=>have:=hm _ _ h;omega
def DN:List Int->List (List Int)
 | []=>[[]]
 | a::l=>(a::l)::DN l
theorem wH:∀ l:List Int,(DN l).length=l.length+1
 | []=>rfl
 | _::l=>by rw [DN,List.length_cons,wH l,List.length_cons]
theorem rO {v:List Int}:∀ {w:List Int},v <:+ w->v∈DN w
 | [],h=>by rw [List.suffix_nil.1 h];exact List.mem_cons_self ..
 | a::l,h=>by
  rcases List.suffix_cons_iff.1 h with rfl | h
  ·exact List.mem_cons_self ..
  ·exact List.mem_cons_of_mem _ (rO h)
abbrev DR (t:Tm):List (Tm×Tm):=iB false Option.none t eps
def qh (t:Tm) (vs:List (List Int)):List Tm:=(DR t).flatMap fun p=>vs.map fun v=>ay (aJ p.1 v) p.2
theorem JE {α β:Type} (f:α->List β) (n:Nat):∀ (l:List α),(∀ a∈l,(f a).length<=n)->(l.flatMap f).length<=l.length*n
 | [],_=>by simp
 | a::l,h=>by
  have h1:=h a (List.mem_cons_self ..)
  have h2:=JE f n l fun b hb=>h b (List.mem_cons_of_mem _ hb)
  rw [List.flatMap_cons,List.length_append,List.length_cons,Nat.add_mul]
  omega
theorem qi (t:Tm) (vs:List (List Int)):(qh t vs).length<=(2*bF t+1)*vs.length:=
 Nat.le_trans (JE _ vs.length _ fun a _=>by simp) (Nat.mul_le_mul_right _ (kP _ _ _ _))
theorem Ln.listed {t y:Tm} {w:List Int} {vs:List (List Int)} (hv:∀ v,v <:+ w->v∈vs) (h:Ln t w y):y∈qh t vs:=by
 obtain ⟨h,z,v,p,hvw,rfl,_⟩:=h
 exact List.mem_flatMap.2 ⟨(h,z),p.listed,List.mem_map.2 ⟨v,hv v hvw,rfl⟩⟩
end Go.Proofs.YtfolanohokflkaaGreatDoor
namespace Go.Proofs.YtfolanohokflkaaGreatDoor
open Tm (eps)
theorem jf {α:Type} [DecidableEq α]:∀ {l m:List α},l.Nodup->(∀ x∈l,x∈m)->l.length<=m.length
 | [],_,_,_=>Nat.zero_le _
 | a::l,m,hn,hs=>by
  have hn':=List.nodup_cons.1 hn
  have ha:=hs a (List.mem_cons_self ..)
  have ih:=jf (l:=l) (m:=m.erase a) hn'.2 fun x hx=>by
   have hne:x≠a:=by rintro rfl;exact hn'.1 hx
   exact (List.mem_erase_of_ne hne).2 (hs x (List.mem_cons_of_mem _ hx))
  rw [List.length_erase_of_mem ha] at ih
  have:0<m.length:=List.length_pos_of_mem ha
  rw [List.length_cons]
  omega
theorem BN {α:Type} (p:α->Bool):∀ l:List α,l.length=(l.filter p).length+(l.filter fun x=>!p x).length
 | []=>rfl
 | a::l=>by
  have:=BN p l
  rw [List.filter_cons,List.filter_cons]
  cases p a<;>simp<;>omega
theorem BP:∀ {l:List Tm},l.Nodup->whole∉l->(l.filter b_).length<=(l.filterMap aR).length+(if eps∈l then 1 else 0)
 | [],_,_=>by simp
 | a::l,hn,hw=>by
  have hn':=List.nodup_cons.1 hn
  have ih:=BP hn'.2 fun h=>hw (List.mem_cons_of_mem _ h)
  have hwa:a≠whole:=fun e=>hw (by rw [e];exact List.mem_cons_self ..)
  rw [List.filter_cons,List.filterMap_cons]
  cases a with
  | set s=>simp [aR,b_];omega
  | eps=>
   rw [if_neg hn'.1] at ih
   simp [aR,b_];omega
  | not x=>
   have:b_ (.not x)=false:=by
    cases x with
    | set s=>cases s with
     | nil=>exact absurd rfl hwa
     | cons _ _=>rfl
    | _=>rfl
   simp [aR,this];exact ih
  | chain x y=>simp [aR,b_];exact ih
  | star x=>simp [aR,b_];exact ih
  | bf k x y=>simp [aR,b_];exact ih
theorem EX {k:Bool} {x:Tm} (hx:Cn x):(memT k x).Nodup/\((memT k x).length=1\/(mi (memT k x)/\whole∉memT k x/\aH∉memT k x)):=by
 rcases iR k x with ⟨a,b,rfl⟩ | hn
 ·obtain ⟨h1,h2,h3,h4,h5,h6,h7⟩:=hx
  refine ⟨xM h6,.inr ⟨h7,fun h=>?_,fun h=>?_⟩⟩
  ·rw [g_] at h
   rcases List.mem_cons.1 h with e | h
   ·exact h4 e.symm
   ·exact (h5.members _ h).2.2.2 rfl
  ·rw [g_] at h
   rcases List.mem_cons.1 h with e | h
   ·exact h3 e.symm
   ·exact (h5.members _ h).2.2.1 rfl
 ·rw [bn hn];exact ⟨by simp,.inl rfl⟩
theorem sW {k:Bool} {x:Tm} {L:List Tm} (hx:Cn x) (h:∀ m∈memT k x,b_ m=true\/m∈L):(memT k x).length<=L.length+2:=by
 obtain ⟨hn,h1 | ⟨ho,hw,_⟩⟩:=EX (k:=k) hx
 ·omega
 ·have e:=BN b_ (memT k x)
  have h2:=BP hn hw
  have h3:((memT k x).filter fun m=>!b_ m).length<=L.length:=jf (hn.filter _) fun m hm=>by
   obtain ⟨hm,hq⟩:=List.mem_filter.1 hm
   rcases h m hm with q | q
   ·rw [q] at hq;cases hq
   ·exact q
  unfold mi at ho
  split at h2<;>omega
theorem acn {h:Tm} (hh:Cn h) {v:List Int} {c:Int} (hw:iq (v++[c])) (k:Bool):(memT k (aL c (aJ h v))).length<=(2*bF h+1)*(v.length+2)+2:=by
 rw [<-je]
 refine Nat.le_trans (sW (fK _ hh) (L:=qh h (DN (v++[c]))) fun m hm=>?_) ?_
 ·exact (lG _ (Nat.le_refl _) hh _ hw m (qE.member hm)).imp id fun q=>q.listed fun v hv=>rO hv
 ·have:=qi h (DN (v++[c]))
  rw [wH,List.length_append] at this
  simp only [List.length_cons,List.length_nil,Nat.zero_add] at this
  rw [show v.length+1+1=v.length+2 from rfl] at this
  omega
theorem OC {c:Int} {v:List Int} (h:v <:+ []++[c]):v∈[[c],[]]:=by
 have:=rO h
 simpa [DN] using this
theorem aco {s:Tm} (hs:Cn s) {h z:Tm} {v:List Int} {c:Int} (hw:iq (v++[c])) (p:dN s eps h z) (ib:z≠eps) (hc:bG (aJ h v)=false) (he:aJ h v≠eps) (hv:aJ h v≠aH) :
  (memT false (aL c (.chain (aJ h v) z))).length<=4*bF s+5:=by
 have IH:∀ h,ek h<ek s->Cn h->∀ v,iq v->∀ y,qE (aJ h v) y->b_ y=true\/Ln h v y:=fun h _ hh v hv y hy=>lG _ (Nat.le_refl _) hh v hv y hy
 have hsc:iq ([]++[c]):=fun d hd=>hw d (List.mem_append_right _ (by simpa using hd))
 have hh:=p.cn hs trivial
 obtain ⟨hz,MI⟩:=p.follow hs trivial (by simp)
 have hcn:Cn (.chain (aJ h v) z):=⟨fK v hh.1,hh.2,hc,hv,he,hz,ib⟩
 have zm:∀ m∈memT false z,b_ m=true\/m∈qh s [[c],[]]:=fun m hm=>(aaS hs IH p (w:=[]) hm).imp id fun q=>q.ln.listed fun u hu=>by rw [List.suffix_nil.1 hu];simp
 have zd:∀ m∈memT false (aL c z),b_ m=true\/m∈qh s [[c],[]]:=by
  intro m hm
  rcases MI with e | ⟨b,z1,p1,rfl,hbc,hbe,hbv,hz1,hbs⟩
  ·exact absurd e ib
  ·exact (UB hs IH (w:=[]) hsc _ (Nat.le_refl _) (v:=[]) p1 (hbs.imp id fun q=>⟨q.1,q.2,rfl⟩) List.nil_suffix hbc hbe hm).imp id fun q=>q.ln.listed fun u hu=>OC hu
 have xm:∀ m∈memT false (ay (aJ h (v++[c])) z),b_ m=true\/m∈ay (aJ h (v++[c])) z::qh s [[c],[]]:=by
  intro m hm
  by_cases ug:aJ h (v++[c])=aH
  ·rw [ug,aS] at hm
   exact .inl (pI rfl hm)
  by_cases Rc:aJ h (v++[c])=eps
  ·rw [Rc,bz] at hm
   exact (zm m hm).imp id fun q=>List.mem_cons_of_mem _ q
  cases MH:bG (aJ h (v++[c])) with
  | true=>
   have e:=lF (kN (fK _ hh.1) MH hz) hm
   exact .inr (by rw [e];exact List.mem_cons_self ..)
  | false=>
   have e0:=bC MH ug Rc hz ib
   have e:=lF (x:=ay (aJ h (v++[c])) z) (by rw [e0];rfl) hm
   exact .inr (by rw [e];exact List.mem_cons_self ..)
 refine Nat.le_trans (sW (fT c hcn).1 (L:=ay (aJ h (v++[c])) z::qh s [[c],[]]) fun m hm=>?_) ?_
 ·rw [fQ,<-je] at hm
  split at hm
  ·rcases pF (fun q hq=>by
    simp only [List.mem_cons,List.not_mem_nil,or_false] at hq
    rcases hq with rfl | rfl
    ·exact eP _ _ (fK _ hh.1) hh.2
    ·exact (fT c hh.2).1) hm with q | ⟨q,hq,Xh⟩
   ·exact .inl q
   ·simp only [List.mem_cons,List.not_mem_nil,or_false] at hq
    rcases hq with rfl | rfl
    ·exact xm m Xh
    ·exact (zd m Xh).imp id fun q=>List.mem_cons_of_mem _ q
  ·exact xm m hm
 ·have:=qi s [[c],[]]
  simp only [List.length_cons,List.length_nil] at this ⊢
  omega
def dQ:Tm->Nat
 | .chain a b=>dQ a+dQ b
 | _=>1
theorem rP:∀ t:Tm,1<=dQ t
 | .chain a b=>by have:=rP a;simp only [dQ];omega
 | .set _=>Nat.le_refl _
 | .eps=>Nat.le_refl _
 | .star _=>Nat.le_refl _
 | .not _=>Nat.le_refl _
 | .bf _ _ _=>Nat.le_refl _
theorem Gu:∀ t:Tm,dQ t<=bF t+1
 | .chain a b=>by have:=Gu a;have:=Gu b;simp only [dQ,bF];omega
 | .set _=>by simp [dQ,bF]
 | .eps=>by simp [dQ,bF]
 | .star _=>by simp [dQ,bF]
 | .not _=>by simp [dQ,bF]
 | .bf _ _ _=>by simp [dQ,bF]
theorem rQ:∀ (u z:Tm),dQ (ay u z)<=dQ u+dQ z:=by
 intro u
 induction u with
 | chain a b iha ihb=>
  intro z
  have h1:=iha (ay b z)
  have h2:=ihb z
  have h3:=rP a
  have h4:=rP b
  rw [ay]
  split
  ·simp only [dQ];omega
  ·split
   ·simp only [dQ];omega
   ·simp only [dQ];omega
 | _=>
  intro z
  have:=rP z
  simp only [ay]
  repeat' split
  all_goals simp only [dQ]
  all_goals omega
theorem dN.len {t z h z':Tm} (p:dN t z h z'):dQ z'<=dQ z+bF t:=by
 induction p with
 | here=>omega
 | @left a b z h z' _ ih=>have:=rQ b z;have:=Gu b;simp only [bF];omega
 | right _ _ ih=>simp only [bF];omega
 | @star a z h z' _ ih=>have:=rQ (.star a) z;simp only [dQ] at this;simp only [bF];omega
 | neg _ ih=>simp only [bF];omega
 | mem h _ ih=>have:=(dN.mem h (.here _ eps)).nz;omega
theorem spine {h:Tm} (hh:Cn h) {u:List Int} (hu:iq u):dQ (aJ h u)<=bF h+2:=by
 by_cases hc:bG (aJ h u)=true
 ·rcases lG _ (Nat.le_refl _) hh u hu _ (.self _) with q | ⟨h',z',v',p,_,e,hnc,_⟩
  ·cases hx:aJ h u<;>rw [hx] at hc q<;>simp [bG] at hc;simp [b_] at q
  ·have h1:=rQ (aJ h' v') z'
   have h2:=p.len
   have h3:dQ (aJ h' v')=1:=by cases hx:aJ h' v'<;>rw [hx] at hnc<;>first | rfl | cases hnc
   rw [<-e] at h1
   simp only [dQ] at h2
   omega
 ·have h3:dQ (aJ h u)=1:=by
   cases hx:aJ h u<;>rw [hx] at hc<;>first | rfl | exact absurd rfl hc
  omega
end Go.Proofs.YtfolanohokflkaaGreatDoor
