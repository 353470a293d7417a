import Derived.Test.YtfolanohokflkaaGreatDoorPSpec
namespace Go.Proofs.YtfolanohokflkaaGreatDoor
open Tm (eps)
def b_:Tm->Bool
 | .set _=>true
 | .eps=>true
 | .not (.set [])=>true
 | _=>false
inductive qE:Tm->Tm->Prop where
 | self (x:Tm):qE x x
 | neg {a y:Tm}:qE a y->qE (.not a) y
 | mem {k:Bool} {a b m y:Tm}:m∈memT k (.bf k a b)->qE m y->qE (.bf k a b) y
 | next {a b y:Tm}:cB a=true->qE b y->qE (.chain a b) y
theorem qE.trans {x y z:Tm} (h:qE x y) (k:qE y z):qE x z:=by
 induction h with
 | self=>exact k
 | neg _ ih=>exact .neg (ih k)
 | mem hm _ ih=>exact .mem hm (ih k)
 | next hn _ ih=>exact .next hn (ih k)
theorem qE.member {k:Bool} {t m:Tm} (h:m∈memT k t):qE t m:=by
 rcases iR k t with ⟨a,b,rfl⟩ | hn
 ·exact .mem h (.self _)
 ·rw [bn hn] at h
  simp at h;subst h
  exact .self _
theorem nK {x y:Tm} (hx:b_ x=true) (h:qE x y):b_ y=true:=by
 cases h with
 | self=>exact hx
 | neg h=>
  rename_i a
  cases a with
  | set l=>
   cases h with
   | self=>rfl
  | _=>simp [b_] at hx
 | mem _ _=>simp [b_] at hx
 | next _ _=>simp [b_] at hx
theorem sU (k:Bool):b_ (bD k)=true:=by cases k<;>rfl
theorem xU (k:Bool):b_ (eB k)=true:=by cases k<;>rfl
theorem rJ {k:Bool} {l:List Tm} (hl:∀ t∈l,Cn t):b_ (aj k l)=true\/(∃ d∈l,aj k l∈memT k d) \/
  (∃ a b,aj k l=.bf k a b/\∀ m∈memT k (.bf k a b),b_ m=true\/∃ d∈l,m∈memT k d):=by
 have hW:∀ m∈aV k (l.flatMap (memT k)),b_ m=true\/∃ d∈l,m∈memT k d:=fun m hm=>by
  rcases aP.1 hm with ⟨h,_⟩ | ⟨s,_,rfl⟩
  ·obtain ⟨d,hd,hm⟩:=List.mem_flatMap.1 h
   exact .inr ⟨d,hd,hm⟩
  ·exact .inl rfl
 have hN:∀ m∈aV k (l.flatMap (memT k)),dF k m=true:=fun m hm=>by
  rcases aP.1 hm with ⟨h,_⟩ | ⟨s,_,rfl⟩
  ·obtain ⟨d,hd,hm⟩:=List.mem_flatMap.1 h
   exact ((hl d hd).members m hm).2
  ·rfl
 unfold aj p_
 split
 ·exact .inl (xU k)
 split
 ·exact .inl (sU k)
 ·rename_i hne
  obtain ⟨L,hL⟩:∃ L,(aV k (l.flatMap (memT k))).filter (fun t=>decide (t≠bD k))=L:=⟨_,rfl⟩
  rw [hL] at hne ⊢
  have hsub:∀ m∈L,m∈aV k (l.flatMap (memT k)):=fun m hm=>by rw [<-hL] at hm;exact (List.mem_filter.1 hm).1
  cases L with
  | nil=>exact absurd rfl hne
  | cons a r=>
   cases r with
   | nil=>
    rcases hW a (hsub a (List.mem_cons_self ..)) with h | h
    ·exact .inl h
    ·exact .inr (.inl h)
   | cons b r=>
    refine .inr (.inr ⟨a,gZ k (b::r),iT k a (by simp),fun m hm=>?_⟩)
    rw [<-iT k a (by simp),nG k (by simp) (fun m hm=>hN m (hsub m hm))] at hm
    exact hW m (hsub m hm)
theorem Q9 {k:Bool} {l:List Tm} (hl:∀ t∈l,Cn t) {y:Tm} (h:qE (aj k l) y):y=aj k l\/b_ y=true\/∃ d∈l,∃ m∈memT k d,qE m y:=by
 rcases rJ hl with ht | ⟨d,hd,hm⟩ | ⟨a,b,e,hm⟩
 ·exact .inr (.inl (nK ht h))
 ·exact .inr (.inr ⟨d,hd,_,hm,h⟩)
 ·rw [e] at h ⊢
  cases h with
  | self=>exact .inl rfl
  | mem hm' hy=>
   rcases hm _ hm' with ht | ⟨d,hd,hd'⟩
   ·exact .inr (.inl (nK ht hy))
   ·exact .inr (.inr ⟨d,hd,_,hd',hy⟩)
theorem pF {k:Bool} {l:List Tm} (hl:∀ t∈l,Cn t) {m:Tm} (h:m∈memT k (aj k l)):b_ m=true\/∃ d∈l,m∈memT k d:=by
 rcases rJ hl with ht | ⟨d,hd,hm⟩ | ⟨a,b,e,hm⟩
 ·have hn:dF k (aj k l)=true:=by
   cases hg:aj k l with
   | bf k' a b=>rw [hg] at ht;simp [b_] at ht
   | _=>rfl
  rw [bn hn] at h
  simp at h;subst h
  exact .inl ht
 ·have hn:=((hl d hd).members _ hm).2
  rw [bn hn] at h
  simp at h;subst h
  exact .inr ⟨d,hd,hm⟩
 ·rw [e] at h
  exact hm m h
theorem bC {u z:Tm} (hc:bG u=false) (hv:u≠aH) (he:u≠eps) (hzv:z≠aH) (ib:z≠eps):ay u z=.chain u z:=by
 rw [mV,if_neg (by simp [hv,hzv]),if_neg he,if_neg ib]
 cases u<;>simp [bG] at hc ⊢
theorem BL:∀ {u z:Tm},Cn u->ay u z=eps->u=eps/\z=eps:=by
 intro u
 induction u with
 | chain a b iha ihb=>
  intro z hu h
  by_cases hzv:z=aH
  ·rw [hzv,aI] at h;cases h
  by_cases ib:z=eps
  ·rw [ib,ai] at h;cases h
  rw [ay,if_neg hzv,if_neg ib] at h
  exact absurd (iha hu.1 h).1 hu.2.2.2.2.1
 | eps=>intro z _ h;rw [bz] at h;exact ⟨rfl,h⟩
 | set l=>
  intro z _ h
  by_cases hzv:z=aH
  ·rw [hzv,aI] at h;cases h
  by_cases ib:z=eps
  ·rw [ib,ai] at h;cases h
  by_cases hl:Tm.set l=aH
  ·rw [hl,aS] at h;cases h
  rw [bC rfl hl (by simp) hzv ib] at h;cases h
 | _=>
  intro z _ h
  by_cases hzv:z=aH
  ·rw [hzv,aI] at h;cases h
  by_cases ib:z=eps
  ·rw [ib,ai] at h;cases h
  rw [bC rfl (by simp) (by simp) hzv ib] at h;cases h
theorem Yj {x y:Tm} (h:qE (kg x) y):y=kg x\/qE x y:=by
 cases x with
 | not a=>exact .inr (.neg h)
 | _=>
  cases h with
  | self=>exact .inl rfl
  | neg h=>exact .inr h
theorem Yk {c:Int} {k:Bool} {x m:Tm} (hx:Cn x) (h:m∈memT k (aL c x)):b_ m=true\/∃ m0∈memT k x,m∈memT k (aL c m0):=by
 rcases iR k x with ⟨a,b,rfl⟩ | hn
 ·rw [o8] at h
  rcases pF (fun t ht=>by
   obtain ⟨d,hd,rfl⟩:=List.mem_map.1 ht
   exact (fT c (uL.members (k:=k) (t:=.bf k a b) hx d hd).1).1) h with h | ⟨d,hd,hm⟩
  ·exact .inl h
  ·obtain ⟨m0,hm0,rfl⟩:=List.mem_map.1 hd
   exact .inr ⟨m0,hm0,hm⟩
 ·exact .inr ⟨x,by rw [bn hn];exact List.mem_cons_self ..,h⟩
theorem wE {c:Int} {x:Tm} (h:b_ x=true):b_ (aL c x)=true:=by
 cases x with
 | set l=>rw [jC];split<;>rfl
 | eps=>rfl
 | not a=>
  cases a with
  | set l=>
   cases l with
   | nil=>rfl
   | cons _ _=>simp [b_] at h
  | _=>simp [b_] at h
 | _=>simp [b_] at h
theorem qg:∀ (x y z:Tm),Cn x->Cn y->ay (ay x y) z=ay x (ay y z):=by
 intro x
 induction x with
 | chain a b iha ihb=>
  intro y z hx hy
  by_cases hyv:y=aH
  ·rw [hyv,aI,aS,aI]
  by_cases hye:y=eps
  ·rw [hye,ai,bz]
  by_cases hzv:z=aH
  ·rw [hzv,aI,aI,aI]
  by_cases ib:z=eps
  ·rw [ib,ai,ai]
  rw [ay,if_neg hyv,if_neg hye,iha _ _ hx.1 (eP b y hx.2.1 hy),ihb _ _ hx.2.1 hy]
  by_cases hyz:ay y z=aH
  ·rw [hyz,aI,aI,aI]
  by_cases acj:ay y z=eps
  ·exact absurd (BL hy acj).1 hye
  conv=>rhs;rw [ay,if_neg hyz,if_neg acj]
 | eps=>intro y z _ _;rw [bz,bz]
 | set l=>
  intro y z _ hy
  by_cases hl:Tm.set l=aH
  ·rw [hl,aS,aS,aS]
  by_cases hyv:y=aH
  ·rw [hyv,aI,aS,aI]
  by_cases hye:y=eps
  ·rw [hye,ai,bz]
  by_cases hzv:z=aH
  ·rw [hzv,aI,aI,aI]
  by_cases ib:z=eps
  ·rw [ib,ai,ai]
  rw [bC rfl hl (by simp) hyv hye,ay,if_neg hzv,if_neg ib]
 | _=>
  intro y z _ hy
  by_cases hyv:y=aH
  ·rw [hyv,aI,aS,aI]
  by_cases hye:y=eps
  ·rw [hye,ai,bz]
  by_cases hzv:z=aH
  ·rw [hzv,aI,aI,aI]
  by_cases ib:z=eps
  ·rw [ib,ai,ai]
  rw [bC rfl (by simp) (by simp) hyv hye,ay,if_neg hzv,if_neg ib]
end Go.Proofs.YtfolanohokflkaaGreatDoor
namespace Go.Proofs.YtfolanohokflkaaGreatDoor
open Tm (eps)
theorem Ux {k:Bool} {l:List af} {s:af} (h:fJ k l=some s) (hl:∀ x∈l,Tidy x) {c:Int} (hc:aG c=true):dw s c=true↔if k=true then ∀ x∈l,dw x c=true else ∃ x∈l,dw x c=true:=by
 cases l with
 | nil=>cases h
 | cons a r=>
  simp only [fJ,Option.some.injEq] at h
  have:=AU k (w:=[c]) (fun x hx=>by simp at hx;rw [hx];exact hc) r a (hl a (List.mem_cons_self ..)) (fun x hx=>hl x (List.mem_cons_of_mem _ hx))
  rw [h] at this
  have e:∀ x:af,wd (.set x) [c]↔dw x c=true:=fun x=>⟨fun ⟨d,hd,hx⟩=>by cases hd;exact hx,fun hx=>⟨c,rfl,hx⟩⟩
  rw [e] at this
  rw [this]
  unfold o9
  cases k
  ·simp only [Bool.false_eq_true,if_false]
   constructor
   ·rintro ⟨t,ht,hw⟩
    obtain ⟨x,hx,rfl⟩:=List.mem_map.1 ht
    exact ⟨x,hx,(e x).1 hw⟩
   ·rintro ⟨x,hx,hw⟩
    exact ⟨_,List.mem_map.2 ⟨x,hx,rfl⟩,(e x).2 hw⟩
  ·simp only [if_true]
   constructor
   ·intro h x hx
    exact (e x).1 (h _ (List.mem_map.2 ⟨x,hx,rfl⟩))
   ·intro h t ht
    obtain ⟨x,hx,rfl⟩:=List.mem_map.1 ht
    exact (e x).2 (h x hx)
def comb (k:Bool) (F:List Tm) (c:Int):Prop:=if k=true then ∀ s,Tm.set s∈F->dw s c=true else ∃ s,Tm.set s∈F/\dw s c=true
structure SK (k:Bool) (F F':List Tm):Prop where
 out:∀ x,aR x=Option.none->x≠bD k->(x∈F↔x∈F')
 sets:∀ c,aG c=true->(comb k F c↔comb k F' c)
 some:k=true->((∃ s,Tm.set s∈F)↔∃ s,Tm.set s∈F')
theorem SK.symm {k:Bool} {F F':List Tm} (h:SK k F F'):SK k F' F:=⟨fun x h1 h2=>(h.out x h1 h2).symm,fun c hc=>(h.sets c hc).symm,fun e=>(h.some e).symm⟩
theorem lC {k:Bool} {F:List Tm} (h:∃ s,Tm.set s∈F):∃ s,fJ k (F.filterMap aR)=Option.some s:=by
 obtain ⟨s,hs⟩:=h
 have:=cO.2 hs
 cases hq:F.filterMap aR with
 | nil=>rw [hq] at this;simp at this
 | cons a r=>exact ⟨_,rfl⟩
theorem gI {k:Bool} {F:List Tm} (hF:∀ t∈F,jX t) {s:af} (h:fJ k (F.filterMap aR)=Option.some s) {c:Int} (hc:aG c=true):dw s c=true↔comb k F c:=by
 rw [Ux h (fun x hx=>hF _ (cO.1 hx)) hc]
 unfold comb
 cases k
 ·simp only [Bool.false_eq_true,if_false]
  exact ⟨fun ⟨x,hx,h⟩=>⟨x,cO.1 hx,h⟩,fun ⟨x,hx,h⟩=>⟨x,cO.2 hx,h⟩⟩
 ·simp only [if_true]
  exact ⟨fun h x hx=>h x (cO.2 hx),fun h x hx=>h x (cO.1 hx)⟩
theorem wF {k:Bool} {F:List Tm} {s:af} (h:fJ k (F.filterMap aR)=Option.some s):∃ x,Tm.set x∈F:=by
 cases hq:F.filterMap aR with
 | nil=>rw [hq] at h;cases h
 | cons a r=>exact ⟨a,cO.1 (by rw [hq];exact List.mem_cons_self ..)⟩
theorem pG {k:Bool} {F:List Tm} (hF:∀ t∈F,jX t) {s:af} (h:fJ k (F.filterMap aR)=Option.some s):Tidy s:=qb h fun _ hx=>hF _ (cO.1 hx)
theorem zS {k:Bool} {F F':List Tm} (hF:∀ t∈F,jX t) (hF':∀ t∈F',jX t) (h:SK k F F') {x:Tm} (hu:x≠bD k) (hx:x∈aV k F):x∈aV k F':=by
 rcases aP.1 hx with ⟨h1,h2⟩ | ⟨s,hs,rfl⟩
 ·exact aP.2 (.inl ⟨(h.out x h2 hu).1 h1,h2⟩)
 ·have hsome:∃ s',fJ k (F'.filterMap aR)=Option.some s':=by
   cases k
   ·cases hq:fJ false (F'.filterMap aR) with
    | some s'=>exact ⟨s',rfl⟩
    | none=>
     exfalso
     refine hu ?_
     have he:s=[]:=iN (pG hF hs) (show Tidy [] from trivial) (fun c hc=>by
      rw [eT]
      cases hi:dw s c with
      | false=>rfl
      | true=>
       have:=(h.sets c hc).1 ((gI hF hs hc).1 hi)
       obtain ⟨s1,hs1,_⟩:=this
       obtain ⟨s2,hs2⟩:=lC (k:=false) ⟨s1,hs1⟩
       rw [hq] at hs2;cases hs2)
     rw [he];rfl
   ·exact lC ((h.some rfl).1 (wF hs))
  obtain ⟨s',hs'⟩:=hsome
  have he:s=s':=iN (pG hF hs) (pG hF' hs') (fun c hc=>by
   have:=((gI hF hs hc).trans (h.sets c hc)).trans (gI hF' hs' hc).symm
   cases h1:dw s c<;>cases h2:dw s' c<;>simp [h1,h2] at this ⊢)
  exact aP.2 (.inr ⟨s',hs',by rw [he]⟩)
theorem ET (k:Bool):eB k≠bD k:=by cases k<;>simp [eB,bD]
theorem Yl {k:Bool} {F F':List Tm} (hF:∀ t∈F,jX t) (hF':∀ t∈F',jX t) (h:SK k F F'):p_ k (aV k F)=p_ k (aV k F'):=by
 have e:(aV k F).filter (fun t=>decide (t≠bD k))=(aV k F').filter (fun t=>decide (t≠bD k)):=by
  refine IZ (zJ (nE hF).2 _) (zJ (nE hF').2 _) fun x=>?_
  simp only [List.mem_filter,decide_eq_true_eq]
  exact ⟨fun ⟨h1,h2⟩=>⟨zS hF hF' h h2 h1,h2⟩,fun ⟨h1,h2⟩=>⟨zS hF' hF h.symm h2 h1,h2⟩⟩
 have z:eB k∈aV k F↔eB k∈aV k F':=⟨zS hF hF' h (ET k),zS hF' hF h.symm (ET k)⟩
 unfold p_
 by_cases hz:eB k∈aV k F
 ·rw [if_pos hz,if_pos (z.1 hz)]
 ·rw [if_neg hz,if_neg (fun q=>hz (z.2 q)),e]
theorem jJ {k:Bool} {l:List Tm} (h:∀ t∈l,Cn t):∀ t∈l.flatMap (memT k),jX t:=fun t ht=>by
 obtain ⟨d,hd,hm⟩:=List.mem_flatMap.1 ht
 exact ((h d hd).members t hm).1.ok
theorem sV {k:Bool} {l l':List Tm} (hl:∀ t∈l,Cn t) (hl':∀ t∈l',Cn t) (h:SK k (l.flatMap (memT k)) (l'.flatMap (memT k))):aj k l=aj k l':=Yl (jJ hl) (jJ hl') h
end Go.Proofs.YtfolanohokflkaaGreatDoor
namespace Go.Proofs.YtfolanohokflkaaGreatDoor
open Tm (eps)
theorem zT {k:Bool} {F:List Tm} (hF:∀ t∈F,jX t) (h:eB k∈F):eB k∈aV k F:=by
 cases k
 ·exact aP.2 (.inl ⟨h,rfl⟩)
 ·obtain ⟨s,hs⟩:=lC (k:=true) (F:=F) ⟨[],h⟩
  refine aP.2 (.inr ⟨s,hs,?_⟩)
  have:s=[]:=iN (pG hF hs) (show Tidy [] from trivial) (fun c hc=>by
   rw [eT]
   cases hi:dw s c with
   | false=>rfl
   | true=>
    have:=(gI hF hs hc).1 hi
    have:=this [] h
    rw [eT] at this;cases this)
  rw [this];rfl
theorem Q_ {k:Bool} {F F':List Tm} (hF':∀ t∈F',jX t) (hF:∀ t∈F,jX t) (hs:∀ t∈F,t∈F') (h:eB k∈aV k F):eB k∈aV k F':=by
 cases k
 ·rcases aP.1 h with ⟨h1,h2⟩ | ⟨s,_,e⟩
  ·exact aP.2 (.inl ⟨hs _ h1,h2⟩)
  ·cases e
 ·rcases aP.1 h with ⟨_,h2⟩ | ⟨s,h1,e⟩
  ·cases h2
  ·obtain rfl:s=[]:=by cases e;rfl
   obtain ⟨x,hx⟩:=wF h1
   obtain ⟨s',hs'⟩:=lC (k:=true) (F:=F') ⟨x,hs _ hx⟩
   refine aP.2 (.inr ⟨s',hs',?_⟩)
   have:s'=[]:=iN (pG hF' hs') (show Tidy [] from trivial) (fun c hc=>by
    rw [eT]
    cases hi:dw s' c with
    | false=>rfl
    | true=>
     have h3:comb true F' c:=(gI hF' hs' hc).1 hi
     have h4:comb true F c:=fun q hq=>h3 q (hs _ hq)
     have:=(gI hF h1 hc).2 h4
     rw [eT] at this;cases this)
   rw [this];rfl
theorem iV {k:Bool} {l:List Tm} (h:eB k∈aV k (l.flatMap (memT k))):aj k l=eB k:=by unfold aj p_;rw [if_pos h]
theorem l6 {k:Bool} {t:Tm} (h:b_ t=true):dF k t=true:=by
 cases t with
 | bf k' a b=>simp [b_] at h
 | _=>rfl
theorem EU {k:Bool} {l:List Tm} (hl:∀ t∈l,Cn t) (hz:eB k∉aV k (l.flatMap (memT k))):SK k (memT k (aj k l)) (l.flatMap (memT k)):=by
 have hok:=jJ (k:=k) hl
 have hN:∀ m∈aV k (l.flatMap (memT k)),dF k m=true:=fun m hm=>by
  rcases aP.1 hm with ⟨h,_⟩ | ⟨s,_,rfl⟩
  ·obtain ⟨d,hd,hm⟩:=List.mem_flatMap.1 h
   exact ((hl d hd).members m hm).2
  ·rfl
 obtain ⟨A,hA⟩:∃ A,(aV k (l.flatMap (memT k))).filter (fun t=>decide (t≠bD k))=A:=⟨_,rfl⟩
 have hAm:∀ x,x∈A↔x∈aV k (l.flatMap (memT k))/\x≠bD k:=fun x=>by rw [<-hA,List.mem_filter];simp
 have hg:∀ x,x≠bD k->(x∈memT k (aj k l)↔x∈A):=by
  intro x hx
  unfold aj p_
  rw [if_neg hz,hA]
  cases A with
  | nil=>
   show x∈memT k (bD k)↔_
   rw [bn (l6 (sU k))]
   simp [hx]
  | cons a r=>
   show x∈memT k (gZ k (a::r))↔_
   rw [nG k (by simp) (fun m hm=>hN m ((hAm m).1 hm).1)]
 have hset:∀ s,Tm.set s∈memT k (aj k l)->Tm.set s≠bD k->fJ k ((l.flatMap (memT k)).filterMap aR)=Option.some s:=fun s hs hu=>by
  rcases aP.1 ((hAm _).1 ((hg _ hu).1 hs)).1 with ⟨_,h⟩ | ⟨s',h1,h2⟩
  ·cases h
  ·cases h2;exact h1
 have hset':∀ s,fJ k ((l.flatMap (memT k)).filterMap aR)=Option.some s->Tm.set s≠bD k->Tm.set s∈memT k (aj k l):=fun s hs hu=>
  (hg _ hu).2 ((hAm _).2 ⟨aP.2 (.inr ⟨s,hs,rfl⟩),hu⟩)
 refine ⟨fun x h1 h2=>?_,fun c hc=>?_,fun hk=>?_⟩
 ·rw [hg x h2,hAm]
  constructor
  ·rintro ⟨h,_⟩
   rcases aP.1 h with ⟨h,_⟩ | ⟨s,_,rfl⟩
   ·exact h
   ·cases h1
  ·intro h
   exact ⟨aP.2 (.inl ⟨h,h1⟩),h2⟩
 ·cases k
  ·constructor
   ·rintro ⟨s,hs,hi⟩
    have hu:Tm.set s≠bD false:=by rintro e;cases e;rw [eT] at hi;cases hi
    exact (gI hok (hset s hs hu) hc).1 hi
   ·intro h
    obtain ⟨s,hs⟩:=lC (k:=false) (let ⟨s0,hs0,_⟩:=h;⟨s0,hs0⟩)
    have hi:=(gI hok hs hc).2 h
    have hu:Tm.set s≠bD false:=by rintro e;cases e;rw [eT] at hi;cases hi
    exact ⟨s,hset' s hs hu,hi⟩
  ·have hu:∀ s,Tm.set s≠bD true:=fun s e=>by cases e
   constructor
   ·intro h q hq
    obtain ⟨s,hs⟩:=lC (k:=true) ⟨q,hq⟩
    exact (gI hok hs hc).1 (h s (hset' s hs (hu s))) q hq
   ·intro h s hs
    exact (gI hok (hset s hs (hu s)) hc).2 h
 ·subst hk
  have hu:∀ s,Tm.set s≠bD true:=fun s e=>by cases e
  constructor
  ·rintro ⟨s,hs⟩
   exact wF (hset s hs (hu s))
  ·intro h
   obtain ⟨s,hs⟩:=lC (k:=true) h
   exact ⟨s,hset' s hs (hu s)⟩
theorem Jw {k:Bool} {F G:List Tm} {c:Int}:comb k (F++G) c↔if k=true then comb k F c/\comb k G c else comb k F c\/comb k G c:=by
 unfold comb
 cases k
 ·simp only [Bool.false_eq_true,if_false,List.mem_append]
  exact ⟨fun ⟨s,h,hi⟩=>h.imp (fun h=>⟨s,h,hi⟩) (fun h=>⟨s,h,hi⟩),fun h=>h.elim (fun ⟨s,h,hi⟩=>⟨s,.inl h,hi⟩) (fun ⟨s,h,hi⟩=>⟨s,.inr h,hi⟩)⟩
 ·simp only [if_true,List.mem_append]
  exact ⟨fun h=>⟨fun s hs=>h s (.inl hs),fun s hs=>h s (.inr hs)⟩,fun h s hs=>hs.elim (h.1 s) (h.2 s)⟩
theorem SK.app {k:Bool} {F F':List Tm} (h:SK k F F') (G:List Tm):SK k (F++G) (F'++G):=by
 refine ⟨fun x h1 h2=>by rw [List.mem_append,List.mem_append,h.out x h1 h2],fun c hc=>by rw [Jw,Jw,h.sets c hc],fun hk=>?_⟩
 have:=h.some hk
 constructor
 ·rintro ⟨s,hs⟩
  rcases List.mem_append.1 hs with hs | hs
  ·obtain ⟨q,hq⟩:=this.1 ⟨s,hs⟩
   exact ⟨q,List.mem_append_left _ hq⟩
  ·exact ⟨s,List.mem_append_right _ hs⟩
 ·rintro ⟨s,hs⟩
  rcases List.mem_append.1 hs with hs | hs
  ·obtain ⟨q,hq⟩:=this.2 ⟨s,hs⟩
   exact ⟨q,List.mem_append_left _ hq⟩
  ·exact ⟨s,List.mem_append_right _ hs⟩
theorem lD {k:Bool} {X Y:List Tm} (hX:∀ t∈X,Cn t) (hY:∀ t∈Y,Cn t):aj k (aj k X::Y)=aj k (X++Y):=by
 have hXY:∀ t∈X++Y,Cn t:=fun t ht=>(List.mem_append.1 ht).elim (hX t) (hY t)
 have hg:∀ t∈aj k X::Y,Cn t:=fun t ht=>(List.mem_cons.1 ht).elim (fun e=>by rw [e];exact kE hX) (hY t)
 by_cases hz:eB k∈aV k (X.flatMap (memT k))
 ·rw [iV (l:=X++Y) (Q_ (jJ hXY) (jJ hX) (fun t ht=>by rw [List.flatMap_append];exact List.mem_append_left _ ht) hz),iV hz]
  rw [iV hz] at hg
  refine iV (zT (jJ hg) ?_)
  rw [List.flatMap_cons,bn (l6 (xU k))]
  exact List.mem_append_left _ (List.mem_cons_self ..)
 ·refine sV hg hXY ?_
  rw [List.flatMap_cons,List.flatMap_append]
  exact (EU hX hz).app _
end Go.Proofs.YtfolanohokflkaaGreatDoor
namespace Go.Proofs.YtfolanohokflkaaGreatDoor
open Tm (eps)
theorem fB {k:Bool} {X Y:List Tm} (hX:∀ t∈X,Cn t) (h:∀ t,t∈X↔t∈Y):aj k X=aj k Y:=by
 have hf:∀ t,t∈X.flatMap (memT k)↔t∈Y.flatMap (memT k):=fun t=>by simp only [List.mem_flatMap,h]
 refine sV hX (fun t ht=>hX t ((h t).2 ht)) ⟨fun x _ _=>hf x,fun c _=>?_,fun _=>?_⟩
 ·unfold comb
  simp only [hf]
 ·simp only [hf]
theorem Jy {k:Bool} {P Q Q':List Tm} (hP:∀ t∈P,Cn t) (hQ:∀ t∈Q,Cn t) (hQ':∀ t∈Q',Cn t) (h:aj k Q=aj k Q'):aj k (P++Q)=aj k (P++Q'):=by
 rw [fB (X:=P++Q) (Y:=Q++P) (fun t ht=>(List.mem_append.1 ht).elim (hP t) (hQ t)) (fun t=>by simp [List.mem_append,or_comm]),<-lD hQ hP,h,lD hQ' hP]
 exact fB (fun t ht=>(List.mem_append.1 ht).elim (hQ' t) (hP t)) (fun t=>by simp [List.mem_append,or_comm])
theorem nL {c:Int} {l:List Tm} (h:∀ t∈l,Cn t):∀ t∈l.map (aL c),Cn t:=fun t ht=>by
 obtain ⟨d,hd,rfl⟩:=List.mem_map.1 ht
 exact (fT c (h d hd)).1
theorem Gt {k:Bool} {l:List Tm} (h:∀ t∈l,Cn t):∀ t∈l.flatMap (memT k),Cn t:=fun t ht=>by
 obtain ⟨d,hd,hm⟩:=List.mem_flatMap.1 ht
 exact ((h d hd).members t hm).1
theorem rM {c:Int} {k:Bool} {d:Tm} (hd:Cn d):aL c d=aj k ((memT k d).map (aL c)):=by
 rcases iR k d with ⟨a,b,rfl⟩ | hn
 ·exact o8 c k a b
 ·rw [bn hn,List.map_cons,List.map_nil,group_one' (fT c hd).1]
theorem Jz {c:Int} {k:Bool}:∀ {l:List Tm},(∀ t∈l,Cn t)->aj k (l.map (aL c))=aj k ((l.flatMap (memT k)).map (aL c))
 | [],_=>rfl
 | d::r,h=>by
  have hr:∀ t∈r,Cn t:=fun t ht=>h t (List.mem_cons_of_mem _ ht)
  have hd:=h d (List.mem_cons_self ..)
  have hm:∀ t∈memT k d,Cn t:=fun t ht=>(hd.members t ht).1
  rw [List.map_cons,rM (k:=k) hd,lD (nL hm) (nL hr),List.flatMap_cons,List.map_append]
  exact Jy (nL hm) (nL hr) (nL (Gt hr)) (Jz hr)
theorem Uy (c:Int) (k:Bool):aL c (eB k)=eB k:=by cases k<;>rfl
theorem Uz (c:Int) (k:Bool):aL c (bD k)=bD k:=by cases k<;>rfl
theorem JA {c:Int} {k:Bool} {s:af} {x:Tm} (h:x∈memT k (aL c (.set s))):x=if dw s c=true then eps else aH:=by
 rw [jC] at h
 split at h
 ·rename_i hi
  rw [bn rfl] at h
  simpa [hi] using h
 ·rename_i hi
  rw [bn rfl] at h
  simpa [hi] using h
theorem Ym {c:Int} (hc:aG c=true) {k:Bool} {A B:List Tm} (hA:∀ t∈A,Cn t) (hB:∀ t∈B,Cn t) (h:SK k A B):aj k (A.map (aL c))=aj k (B.map (aL c)):=by
 by_cases hz:k=true/\¬ comb k A c
 ·obtain ⟨rfl,hn⟩:=hz
  have key:∀ F:List Tm,(∀ t∈F,Cn t)->¬ comb true F c->aj true (F.map (aL c))=eB true:=fun F hF hn=>by
   refine iV (zT (jJ (nL hF)) ?_)
   have:∃ s,Tm.set s∈F/\dw s c=false:=by
    refine Classical.byContradiction fun hne=>hn fun s hs=>?_
    cases hi:dw s c with
    | true=>rfl
    | false=>exact absurd ⟨s,hs,hi⟩ hne
   obtain ⟨s,hs,hi⟩:=this
   refine List.mem_flatMap.2 ⟨_,List.mem_map.2 ⟨_,hs,rfl⟩,?_⟩
   rw [jC,if_neg (by rw [hi];simp)]
   exact List.mem_cons_self ..
  rw [key A hA hn,key B hB (fun q=>hn ((h.sets c hc).2 q))]
 ·have hall:k=true->comb k A c:=fun e=>Classical.byContradiction fun q=>hz ⟨e,q⟩
  have one:∀ {A B:List Tm},(∀ t∈A,Cn t)->(∀ t∈B,Cn t)->SK k A B->(k=true->comb k A c) ->
    (∀ x,aR x=Option.none->x≠bD k->x∈(A.map (aL c)).flatMap (memT k)->x∈(B.map (aL c)).flatMap (memT k)) /\
    (∀ s,s≠[]->Tm.set s∈(A.map (aL c)).flatMap (memT k)->Tm.set s∈(B.map (aL c)).flatMap (memT k)) /\
    (k=true->∀ s,Tm.set s∈(A.map (aL c)).flatMap (memT k)->Tm.set s∈(B.map (aL c)).flatMap (memT k)):=by
   intro A B hA hB h hall
   have from':∀ x,x∈(A.map (aL c)).flatMap (memT k)->(∃ a∈A,aR a=Option.none/\a≠bD k/\x∈memT k (aL c a))\/x=bD k\/(∃ s,Tm.set s∈A/\x=if dw s c=true then eps else aH):=fun x hx=>by
    obtain ⟨d,hd,hm⟩:=List.mem_flatMap.1 hx
    obtain ⟨a,ha,rfl⟩:=List.mem_map.1 hd
    cases hs:aR a with
    | some s=>
     have e:=lY hs
     subst e
     exact .inr (.inr ⟨s,ha,JA hm⟩)
    | none=>
     by_cases hu:a=bD k
     ·subst hu
      rw [Uz,bn (l6 (sU k))] at hm
      exact .inr (.inl (by simpa using hm))
     ·exact .inl ⟨a,ha,hs,hu,hm⟩
   have to':∀ x a,a∈A->aR a=Option.none->a≠bD k->x∈memT k (aL c a)->x∈(B.map (aL c)).flatMap (memT k):=fun x a ha h1 h2 hm=>
    List.mem_flatMap.2 ⟨_,List.mem_map.2 ⟨a,(h.out a h1 h2).1 ha,rfl⟩,hm⟩
   refine ⟨fun x h1 h2 hx=>?_,fun s hs hx=>?_,fun hk s hx=>?_⟩
   ·rcases from' x hx with ⟨a,ha,e1,e2,hm⟩ | rfl | ⟨s,hs,rfl⟩
    ·exact to' x a ha e1 e2 hm
    ·exact absurd rfl h2
    ·split at h1
     ·rename_i hi
      rw [if_pos hi]
      have:∃ q,Tm.set q∈B/\dw q c=true:=by
       cases k
       ·exact (h.sets c hc).1 ⟨s,hs,hi⟩
       ·obtain ⟨q,hq⟩:=(h.some rfl).1 ⟨s,hs⟩
        exact ⟨q,hq,(h.sets c hc).1 (hall rfl) q hq⟩
      obtain ⟨q,hq,hqi⟩:=this
      refine List.mem_flatMap.2 ⟨_,List.mem_map.2 ⟨_,hq,rfl⟩,?_⟩
      rw [jC,if_pos hqi]
      exact List.mem_cons_self ..
     ·cases h1
   ·rcases from' _ hx with ⟨a,ha,e1,e2,hm⟩ | e | ⟨q,_,e⟩
    ·exact to' _ a ha e1 e2 hm
    ·cases k
     ·cases e;exact absurd rfl hs
     ·cases e
    ·split at e
     ·cases e
     ·cases e;exact absurd rfl hs
   ·subst hk
    rcases from' _ hx with ⟨a,ha,e1,e2,hm⟩ | e | ⟨q,hq,e⟩
    ·exact to' _ a ha e1 e2 hm
    ·cases e
    ·rw [if_pos (hall rfl q hq)] at e
     cases e
  have ack:k=true->comb k B c:=fun e=>(h.sets c hc).1 (hall e)
  have o1:=one hA hB h hall
  have o2:=one hB hA h.symm ack
  refine sV (nL hA) (nL hB) ⟨fun x h1 h2=>⟨o1.1 x h1 h2,o2.1 x h1 h2⟩,fun d _=>?_,fun hk=>?_⟩
  ·unfold comb
   cases hk:k
   ·simp only [Bool.false_eq_true,if_false]
    subst hk
    constructor
    ·rintro ⟨s,hs,hi⟩
     exact ⟨s,o1.2.1 s (by rintro rfl;rw [eT] at hi;cases hi) hs,hi⟩
    ·rintro ⟨s,hs,hi⟩
     exact ⟨s,o2.2.1 s (by rintro rfl;rw [eT] at hi;cases hi) hs,hi⟩
   ·simp only [if_true]
    subst hk
    exact ⟨fun q s hs=>q s (o2.2.2 rfl s hs),fun q s hs=>q s (o1.2.2 rfl s hs)⟩
  ·exact ⟨fun ⟨s,hs⟩=>⟨s,o1.2.2 hk s hs⟩,fun ⟨s,hs⟩=>⟨s,o2.2.2 hk s hs⟩⟩
theorem Ra {c:Int} (hc:aG c=true) {k:Bool} {l:List Tm} (hl:∀ t∈l,Cn t):aL c (aj k l)=aj k (l.map (aL c)):=by
 rw [Jz hl]
 by_cases hz:eB k∈aV k (l.flatMap (memT k))
 ·rw [iV hz,Uy]
  symm
  refine iV (zT (jJ (nL (Gt hl))) ?_)
  cases k
  ·rcases aP.1 hz with ⟨h1,_⟩ | ⟨s,_,e⟩
   ·exact List.mem_flatMap.2 ⟨_,List.mem_map.2 ⟨_,h1,rfl⟩,List.mem_cons_self ..⟩
   ·cases e
  ·rcases aP.1 hz with ⟨_,h⟩ | ⟨s,h1,e⟩
   ·cases h
   ·obtain rfl:s=[]:=by cases e;rfl
    have hn:¬ comb true (l.flatMap (memT true)) c:=fun q=>by
     have:=(gI (jJ hl) h1 hc).2 q
     rw [eT] at this;cases this
    have:∃ s,Tm.set s∈l.flatMap (memT true)/\dw s c=false:=by
     refine Classical.byContradiction fun hne=>hn fun s hs=>?_
     cases hi:dw s c with
     | true=>rfl
     | false=>exact absurd ⟨s,hs,hi⟩ hne
    obtain ⟨s,hs,hi⟩:=this
    refine List.mem_flatMap.2 ⟨_,List.mem_map.2 ⟨_,hs,rfl⟩,?_⟩
    rw [jC,if_neg (by rw [hi];simp)]
    exact List.mem_cons_self ..
 ·rw [rM (k:=k) (kE hl)]
  exact Ym hc (fun t ht=>((kE hl).members t ht).1) (Gt hl) (EU hl hz)
theorem Rb {d:Tm} (h:Cn d):kg (kg d)=d:=by
 cases d with
 | not a=>
  show kg a=_
  have:=h.2.1
  cases a<;>simp [Oh] at this<;>rfl
 | _=>rfl
theorem Yn {c:Int} {x:Tm} (h:Cn x):aL c (kg x)=kg (aL c x):=by
 cases x with
 | not a=>
  show aL c a=kg (kg (aL c a))
  rw [Rb (fT c (show Cn a from h.1)).1]
 | _=>rfl
end Go.Proofs.YtfolanohokflkaaGreatDoor
namespace Go.Proofs.YtfolanohokflkaaGreatDoor
open Tm (eps)
def ek:Tm->Nat
 | .set _=>1
 | .eps=>1
 | .chain a b=>ek a+ek b+1
 | .star a=>ek a+1
 | .not a=>ek a+1
 | .bf _ a b=>ek a+ek b+1
inductive dN:Tm->Tm->Tm->Tm->Prop where
 | here (t z:Tm):dN t z t z
 | left {a b z h z':Tm}:dN a (ay b z) h z'->dN (.chain a b) z h z'
 | right {a b z h z':Tm}:dN b z h z'->(bG b=false\/ek h<ek b)->dN (.chain a b) z h z'
 | star {a z h z':Tm}:dN a (ay (.star a) z) h z'->dN (.star a) z h z'
 | neg {a z h z':Tm}:dN a z h z'->dN (.not a) z h z'
 | mem {k:Bool} {a b m z h z':Tm}:m∈memT k (.bf k a b)->dN m z h z'->dN (.bf k a b) z h z'
theorem UA (k:Bool):∀ (t:Tm) {m:Tm},m∈memT k t->ek m<=ek t
 | t,m,h=>by
  rcases iR k t with ⟨a,b,rfl⟩ | hn
  ·rw [g_] at h
   rcases List.mem_cons.1 h with rfl | h
   ·simp only [ek];omega
   ·have:=UA k b h
    simp only [ek];omega
  ·rw [bn hn] at h
   simp at h;subst h
   exact Nat.le_refl _
 termination_by t=>t
theorem uQ {k:Bool} {a b m:Tm} (h:m∈memT k (.bf k a b)):ek m<ek (.bf k a b):=by
 rw [g_] at h
 rcases List.mem_cons.1 h with rfl | h
 ·simp only [ek];omega
 ·have:=UA k b h
  simp only [ek];omega
theorem dN.cn {t z h z':Tm} (p:dN t z h z') (ht:Cn t) (hz:Cn z):Cn h/\Cn z':=by
 induction p with
 | here=>exact ⟨ht,hz⟩
 | left _ ih=>exact ih ht.1 (eP _ _ ht.2.1 hz)
 | right _ _ ih=>exact ih ht.2.1 hz
 | star _ ih=>exact ih ht.1 (eP _ _ ht hz)
 | neg _ ih=>exact ih ht.1 hz
 | mem hm _ ih=>exact ih (ht.members _ hm).1 hz
theorem dN.shift {t z h z':Tm} (p:dN t z h z') (ht:Cn t) (hz:Cn z) (y:Tm):dN t (ay z y) h (ay z' y):=by
 induction p with
 | here=>exact .here _ _
 | left _ ih=>
  refine .left ?_
  rw [<-qg _ _ _ ht.2.1 hz]
  exact ih ht.1 (eP _ _ ht.2.1 hz)
 | right _ hr ih=>exact .right (ih ht.2.1 hz) hr
 | star _ ih=>
  refine .star ?_
  rw [<-qg _ _ _ ht hz]
  exact ih ht.1 (eP _ _ ht hz)
 | neg _ ih=>exact .neg (ih ht.1 hz)
 | mem hm _ ih=>exact .mem hm (ih (ht.members _ hm).1 hz)
theorem dN.sz {t z h z':Tm} (p:dN t z h z'):ek h<=ek t:=by
 induction p with
 | here=>exact Nat.le_refl _
 | left _ ih=>simp only [ek];omega
 | right _ _ ih=>simp only [ek];omega
 | star _ ih=>simp only [ek];omega
 | neg _ ih=>simp only [ek];omega
 | mem hm _ ih=>have:=uQ hm;omega
theorem dN.trans {t z h z1 h2 z2:Tm} (p:dN t z h z1) (q:dN h z1 h2 z2):dN t z h2 z2:=by
 induction p with
 | here=>exact q
 | left _ ih=>exact .left (ih q)
 | right _ hr ih=>exact .right (ih q) (hr.imp id fun h=>Nat.lt_of_le_of_lt q.sz h)
 | star _ ih=>exact .star (ih q)
 | neg _ ih=>exact .neg (ih q)
 | mem hm _ ih=>exact .mem hm (ih q)
theorem dN.comp {t h z h2 z2:Tm} (p:dN t eps h z) (ht:Cn t) (q:dN h eps h2 z2):dN t eps h2 (ay z2 z):=by
 have hh:=(p.cn ht trivial).1
 have:=q.shift hh trivial z
 rw [bz] at this
 exact p.trans this
theorem dN.same {t z h z':Tm} (p:dN t z h z') (hs:ek t<=ek h):h=t/\z'=z:=by
 cases p with
 | here=>exact ⟨rfl,rfl⟩
 | left p=>have:=p.sz;simp only [ek] at hs;omega
 | right p _=>have:=p.sz;simp only [ek] at hs;omega
 | star p=>have:=p.sz;simp only [ek] at hs;omega
 | neg p=>have:=p.sz;simp only [ek] at hs;omega
 | mem hm p=>have:=p.sz;have:=uQ hm;omega
theorem dN.nc {t z h z':Tm} (p:dN t z h z') (hc:bG h=false):bG t=false\/ek h<ek t:=by
 by_cases q:ek h<ek t
 ·exact .inr q
 ·rw [<-(p.same (by omega)).1];exact .inl hc
theorem oq:∀ {u z:Tm},Cn u->ay u z=aH->u=aH\/z=aH:=by
 intro u
 induction u with
 | chain a b iha ihb=>
  intro z hu h
  by_cases hzv:z=aH
  ·exact .inr hzv
  by_cases ib:z=eps
  ·rw [ib,ai] at h;cases h
  rw [ay,if_neg hzv,if_neg ib] at h
  rcases iha hu.1 h with h | h
  ·exact absurd h hu.2.2.2.1
  ·rcases ihb hu.2.1 h with h | h
   ·exact absurd h hu.2.2.2.2.2.1
   ·exact .inr h
 | eps=>intro z _ h;rw [bz] at h;exact .inr h
 | set l=>
  intro z _ h
  by_cases hl:Tm.set l=aH
  ·exact .inl hl
  by_cases hzv:z=aH
  ·exact .inr hzv
  by_cases ib:z=eps
  ·rw [ib,ai] at h;exact .inl h
  rw [bC rfl hl (by simp) hzv ib] at h;cases h
 | _=>
  intro z _ h
  by_cases hzv:z=aH
  ·exact .inr hzv
  by_cases ib:z=eps
  ·rw [ib,ai] at h;cases h
  rw [bC rfl (by simp) (by simp) hzv ib] at h;cases h
theorem dN.follow {t z h z':Tm} (p:dN t z h z') (ht:Cn t) (hz:Cn z) (hzv:z≠aH):z'≠aH/\(z'=z\/∃ b z1,dN t z b z1/\z'=ay b z1/\bG b=false/\b≠eps/\b≠aH/\z1≠aH/\(ek b<ek t\/(b=t/\oH t=true))):=by
 induction p with
 | here=>exact ⟨hzv,.inl rfl⟩
 | @left a b z h z' p ih=>
  obtain ⟨ha,hb,hac,Md,hae,hbv,hbe⟩:=ht
  have hv:ay b z≠aH:=fun e=>(oq hb e).elim hbv hzv
  obtain ⟨h1,h2⟩:=ih ha (eP _ _ hb hz) hv
  refine ⟨h1,?_⟩
  rcases h2 with rfl | ⟨q,z1,hq,e,h3,h4,h5,h6,h7⟩
  ·right
   cases b with
   | chain b1 b2=>
    obtain ⟨_,hb2,h3,h4,h5,h6,h7⟩:=hb
    by_cases ib:z=eps
    ·subst ib
     refine ⟨b1,ay b2 eps,.right (.left (.here _ _)) (.inr (by simp only [ek];omega)),?_,h3,h5,h4,by rw [ai];exact h6,.inl (by simp only [ek];omega)⟩
     rw [ai,ai,bC h3 h4 h5 h6 h7]
    ·exact ⟨b1,ay b2 z,.right (.left (.here _ _)) (.inr (by simp only [ek];omega)),by rw [ay,if_neg hzv,if_neg ib],h3,h5,h4,fun e=>(oq hb2 e).elim h6 hzv,.inl (by simp only [ek];omega)⟩
   | set l=>exact ⟨.set l,z,.right (.here _ _) (.inl rfl),rfl,rfl,hbe,hbv,hzv,.inl (by simp only [ek];omega)⟩
   | eps=>exact absurd rfl hbe
   | star q=>exact ⟨.star q,z,.right (.here _ _) (.inl rfl),rfl,rfl,hbe,hbv,hzv,.inl (by simp only [ek];omega)⟩
   | not q=>exact ⟨.not q,z,.right (.here _ _) (.inl rfl),rfl,rfl,hbe,hbv,hzv,.inl (by simp only [ek];omega)⟩
   | bf k q r=>exact ⟨.bf k q r,z,.right (.here _ _) (.inl rfl),rfl,rfl,hbe,hbv,hzv,.inl (by simp only [ek];omega)⟩
  ·exact .inr ⟨q,z1,.left hq,e,h3,h4,h5,h6,.inl (by have:=hq.sz;simp only [ek];omega)⟩
 | @right a b z h z' p hr ih=>
  obtain ⟨h1,h2⟩:=ih ht.2.1 hz hzv
  refine ⟨h1,h2.imp id ?_⟩
  rintro ⟨q,z1,hq,e,h3,h4,h5,h6,h7⟩
  exact ⟨q,z1,.right hq (hq.nc h3),e,h3,h4,h5,h6,.inl (by have:=hq.sz;simp only [ek];omega)⟩
 | @star a z h z' p ih=>
  have hv:ay (.star a) z≠aH:=fun e=>(oq ht e).elim (by simp) hzv
  obtain ⟨h1,h2⟩:=ih ht.1 (eP _ _ ht hz) hv
  refine ⟨h1,?_⟩
  rcases h2 with rfl | ⟨q,z1,hq,e,h3,h4,h5,h6,h7⟩
  ·exact .inr ⟨.star a,z,.here _ _,rfl,rfl,by simp,by simp,hzv,.inr ⟨rfl,rfl⟩⟩
  ·exact .inr ⟨q,z1,.star hq,e,h3,h4,h5,h6,.inl (by have:=hq.sz;simp only [ek];omega)⟩
 | neg _ ih=>
  obtain ⟨h1,h2⟩:=ih ht.1 hz hzv
  refine ⟨h1,h2.imp id ?_⟩
  rintro ⟨q,z1,hq,e,h3,h4,h5,h6,h7⟩
  exact ⟨q,z1,.neg hq,e,h3,h4,h5,h6,.inl (by have:=hq.sz;simp only [ek];omega)⟩
 | mem hm _ ih=>
  obtain ⟨h1,h2⟩:=ih (ht.members _ hm).1 hz hzv
  refine ⟨h1,h2.imp id ?_⟩
  rintro ⟨q,z1,hq,e,h3,h4,h5,h6,h7⟩
  exact ⟨q,z1,.mem hm hq,e,h3,h4,h5,h6,.inl (by have:=hq.sz;have:=uQ hm;omega)⟩
end Go.Proofs.YtfolanohokflkaaGreatDoor
