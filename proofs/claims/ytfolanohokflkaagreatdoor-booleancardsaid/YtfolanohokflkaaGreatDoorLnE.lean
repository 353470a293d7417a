import Derived.Test.YtfolanohokflkaaGreatDoorPSpec
namespace Go.Proofs.YtfolanohokflkaaGreatDoor
open Tm (eps)
def cu:Tm->Bool
 | .set _=>true
 | .eps=>true
 | .not (.set [])=>true
 | _=>false
inductive qy:Tm->Tm->Prop where
 | self (x:Tm):qy x x
 | neg {a y:Tm}:qy a y->qy (.not a) y
 | mem {k:Bool} {a b m y:Tm}:m∈memT k (.aT k a b)->qy m y->qy (.aT k a b) y
 | next {a b y:Tm}:cO a=true->qy b y->qy (.chain a b) y
theorem qy.trans {x y z:Tm} (h:qy x y) (k:qy y z):qy x z:=by
 induction h with
 | self=>exact k
 | neg _ ih=>exact .neg (ih k)
 | mem hm _ ih=>exact .mem hm (ih k)
 | next hn _ ih=>exact .next hn (ih k)
theorem qy.member {k:Bool} {t m:Tm} (h:m∈memT k t):qy t m:=by
 rcases iU k t with ⟨a,b,rfl⟩ | hn
 ·exact .mem h (.self _)
 ·rw [bq hn] at h
  simp at h;subst h
  exact .self _
theorem nH {x y:Tm} (hx:cu x=true) (h:qy x y):cu y=true:=by
 cases h with
 | self=>exact hx
 | neg h=>
  rename_i a
  cases a with
  | set l=>
   cases h with
   | self=>rfl
  | _=>simp [cu] at hx
 | mem _ _=>simp [cu] at hx
 | next _ _=>simp [cu] at hx
theorem sD (k:Bool):cu (bE k)=true:=by cases k<;>rfl
theorem xu (k:Bool):cu (eu k)=true:=by cases k<;>rfl
theorem rz {k:Bool} {l:List Tm} (hl:∀ t∈l,Cn t):cu (aj k l)=true\/(∃ d∈l,aj k l∈memT k d) \/
  (∃ a b,aj k l=.aT k a b/\∀ m∈memT k (.aT k a b),cu m=true\/∃ d∈l,m∈memT k d):=by
 have hW:∀ m∈aV k (l.flatMap (memT k)),cu m=true\/∃ d∈l,m∈memT k d:=fun m hm=>by
  rcases aM.1 hm with ⟨h,_⟩ | ⟨s,_,rfl⟩
  ·obtain ⟨d,hd,hm⟩:=List.mem_flatMap.1 h
   exact .inr ⟨d,hd,hm⟩
  ·exact .inl rfl
 have hN:∀ m∈aV k (l.flatMap (memT k)),dE k m=true:=fun m hm=>by
  rcases aM.1 hm with ⟨h,_⟩ | ⟨s,_,rfl⟩
  ·obtain ⟨d,hd,hm⟩:=List.mem_flatMap.1 h
   exact ((hl d hd).members m hm).2
  ·rfl
 unfold aj oG
 split
 ·exact .inl (xu k)
 split
 ·exact .inl (sD k)
 ·rename_i hne
  obtain ⟨L,hL⟩:∃ L,(aV k (l.flatMap (memT k))).filter (fun t=>decide (t≠bE k))=L:=⟨_,rfl⟩
  rw [hL] at hne ⊢
  have hsub:∀ m∈L,m∈aV k (l.flatMap (memT k)):=fun m hm=>by rw [<-hL] at hm;exact (List.mem_filter.1 hm).1
  cases L with
  | nil=>exact absurd rfl hne
  | cons a r=>
   cases r with
   | nil=>
    rcases hW a (hsub a (List.mem_cons_self ..)) with h | h
    ·exact .inl h
    ·exact .inr (.inl h)
   | cons b r=>
    refine .inr (.inr ⟨a,gM k (b::r),iV k a (by simp),fun m hm=>?_⟩)
    rw [<-iV k a (by simp),nu k (by simp) (fun m hm=>hN m (hsub m hm))] at hm
    exact hW m (hsub m hm)
theorem P8 {k:Bool} {l:List Tm} (hl:∀ t∈l,Cn t) {y:Tm} (h:qy (aj k l) y):y=aj k l\/cu y=true\/∃ d∈l,∃ m∈memT k d,qy m y:=by
 rcases rz hl with ht | ⟨d,hd,hm⟩ | ⟨a,b,e,hm⟩
 ·exact .inr (.inl (nH ht h))
 ·exact .inr (.inr ⟨d,hd,_,hm,h⟩)
 ·rw [e] at h ⊢
  cases h with
  | self=>exact .inl rfl
  | mem hm' hy=>
   rcases hm _ hm' with ht | ⟨d,hd,hd'⟩
   ·exact .inr (.inl (nH ht hy))
   ·exact .inr (.inr ⟨d,hd,_,hd',hy⟩)
theorem pq {k:Bool} {l:List Tm} (hl:∀ t∈l,Cn t) {m:Tm} (h:m∈memT k (aj k l)):cu m=true\/∃ d∈l,m∈memT k d:=by
 rcases rz hl with ht | ⟨d,hd,hm⟩ | ⟨a,b,e,hm⟩
 ·have hn:dE k (aj k l)=true:=by
   cases hg:aj k l with
   | aT k' a b=>rw [hg] at ht;simp [cu] at ht
   | _=>rfl
  rw [bq hn] at h
  simp at h;subst h
  exact .inl ht
 ·have hn:=((hl d hd).members _ hm).2
  rw [bq hn] at h
  simp at h;subst h
  exact .inr ⟨d,hd,hm⟩
 ·rw [e] at h
  exact hm m h
theorem bD {u z:Tm} (hc:bI u=false) (hv:u≠aH) (he:u≠eps) (hzv:z≠aH) (ig:z≠eps):au u z=.chain u z:=by
 rw [jW,if_neg (by simp [hv,hzv]),if_neg he,if_neg ig]
 cases u<;>simp [bI] at hc ⊢
theorem AY:∀ {u z:Tm},Cn u->au u z=eps->u=eps/\z=eps:=by
 intro u
 induction u with
 | chain a b iha ihb=>
  intro z hu h
  by_cases hzv:z=aH
  ·rw [hzv,aF] at h;cases h
  by_cases ig:z=eps
  ·rw [ig,ai] at h;cases h
  rw [au,if_neg hzv,if_neg ig] at h
  exact absurd (iha hu.1 h).1 hu.2.2.2.2.1
 | eps=>intro z _ h;rw [bz] at h;exact ⟨rfl,h⟩
 | set l=>
  intro z _ h
  by_cases hzv:z=aH
  ·rw [hzv,aF] at h;cases h
  by_cases ig:z=eps
  ·rw [ig,ai] at h;cases h
  by_cases hl:Tm.set l=aH
  ·rw [hl,aQ] at h;cases h
  rw [bD rfl hl (by simp) hzv ig] at h;cases h
 | _=>
  intro z _ h
  by_cases hzv:z=aH
  ·rw [hzv,aF] at h;cases h
  by_cases ig:z=eps
  ·rw [ig,ai] at h;cases h
  rw [bD rfl (by simp) (by simp) hzv ig] at h;cases h
theorem Xc {x y:Tm} (h:qy (jF x) y):y=jF x\/qy x y:=by
 cases x with
 | not a=>exact .inr (.neg h)
 | _=>
  cases h with
  | self=>exact .inl rfl
  | neg h=>exact .inr h
theorem Xd {c:Int} {k:Bool} {x m:Tm} (hx:Cn x) (h:m∈memT k (aG c x)):cu m=true\/∃ m0∈memT k x,m∈memT k (aG c m0):=by
 rcases iU k x with ⟨a,b,rfl⟩ | hn
 ·rw [lM] at h
  rcases pq (fun t ht=>by
   obtain ⟨d,hd,rfl⟩:=List.mem_map.1 ht
   exact (fP c (uu.members (k:=k) (t:=.aT k a b) hx d hd).1).1) h with h | ⟨d,hd,hm⟩
  ·exact .inl h
  ·obtain ⟨m0,hm0,rfl⟩:=List.mem_map.1 hd
   exact .inr ⟨m0,hm0,hm⟩
 ·exact .inr ⟨x,by rw [bq hn];exact List.mem_cons_self ..,h⟩
theorem vR {c:Int} {x:Tm} (h:cu x=true):cu (aG c x)=true:=by
 cases x with
 | set l=>rw [g_];split<;>rfl
 | eps=>rfl
 | not a=>
  cases a with
  | set l=>
   cases l with
   | nil=>rfl
   | cons _ _=>simp [cu] at h
  | _=>simp [cu] at h
 | _=>simp [cu] at h
theorem pW:∀ (x y z:Tm),Cn x->Cn y->au (au x y) z=au x (au y z):=by
 intro x
 induction x with
 | chain a b iha ihb=>
  intro y z hx hy
  by_cases hyv:y=aH
  ·rw [hyv,aF,aQ,aF]
  by_cases hye:y=eps
  ·rw [hye,ai,bz]
  by_cases hzv:z=aH
  ·rw [hzv,aF,aF,aF]
  by_cases ig:z=eps
  ·rw [ig,ai,ai]
  rw [au,if_neg hyv,if_neg hye,iha _ _ hx.1 (eQ b y hx.2.1 hy),ihb _ _ hx.2.1 hy]
  by_cases hyz:au y z=aH
  ·rw [hyz,aF,aF,aF]
  by_cases abz:au y z=eps
  ·exact absurd (AY hy abz).1 hye
  conv=>rhs;rw [au,if_neg hyz,if_neg abz]
 | eps=>intro y z _ _;rw [bz,bz]
 | set l=>
  intro y z _ hy
  by_cases hl:Tm.set l=aH
  ·rw [hl,aQ,aQ,aQ]
  by_cases hyv:y=aH
  ·rw [hyv,aF,aQ,aF]
  by_cases hye:y=eps
  ·rw [hye,ai,bz]
  by_cases hzv:z=aH
  ·rw [hzv,aF,aF,aF]
  by_cases ig:z=eps
  ·rw [ig,ai,ai]
  rw [bD rfl hl (by simp) hyv hye,au,if_neg hzv,if_neg ig]
 | _=>
  intro y z _ hy
  by_cases hyv:y=aH
  ·rw [hyv,aF,aQ,aF]
  by_cases hye:y=eps
  ·rw [hye,ai,bz]
  by_cases hzv:z=aH
  ·rw [hzv,aF,aF,aF]
  by_cases ig:z=eps
  ·rw [ig,ai,ai]
  rw [bD rfl (by simp) (by simp) hyv hye,au,if_neg hzv,if_neg ig]
end Go.Proofs.YtfolanohokflkaaGreatDoor
namespace Go.Proofs.YtfolanohokflkaaGreatDoor
open Tm (eps)
theorem Tg {k:Bool} {l:List ah} {s:ah} (h:fK k l=some s) (hl:∀ x∈l,Tidy x) {c:Int} (hc:aC c=true):dn s c=true↔if k=true then ∀ x∈l,dn x c=true else ∃ x∈l,dn x c=true:=by
 cases l with
 | nil=>cases h
 | cons a r=>
  simp only [fK,Option.some.injEq] at h
  have:=Ac k (w:=[c]) (fun x hx=>by simp at hx;rw [hx];exact hc) r a (hl a (List.mem_cons_self ..)) (fun x hx=>hl x (List.mem_cons_of_mem _ hx))
  rw [h] at this
  have e:∀ x:ah,wd (.set x) [c]↔dn x c=true:=fun x=>⟨fun ⟨d,hd,hx⟩=>by cases hd;exact hx,fun hx=>⟨c,rfl,hx⟩⟩
  rw [e] at this
  rw [this]
  unfold nT
  cases k
  ·simp only [Bool.false_eq_true,if_false]
   constructor
   ·rintro ⟨t,ht,hw⟩
    obtain ⟨x,hx,rfl⟩:=List.mem_map.1 ht
    exact ⟨x,hx,(e x).1 hw⟩
   ·rintro ⟨x,hx,hw⟩
    exact ⟨_,List.mem_map.2 ⟨x,hx,rfl⟩,(e x).2 hw⟩
  ·simp only [if_true]
   constructor
   ·intro h x hx
    exact (e x).1 (h _ (List.mem_map.2 ⟨x,hx,rfl⟩))
   ·intro h t ht
    obtain ⟨x,hx,rfl⟩:=List.mem_map.1 ht
    exact (e x).2 (h x hx)
def comb (k:Bool) (F:List Tm) (c:Int):Prop:=if k=true then ∀ s,Tm.set s∈F->dn s c=true else ∃ s,Tm.set s∈F/\dn s c=true
structure Ro (k:Bool) (F F':List Tm):Prop where
 out:∀ x,aP x=Option.none->x≠bE k->(x∈F↔x∈F')
 sets:∀ c,aC c=true->(comb k F c↔comb k F' c)
 some:k=true->((∃ s,Tm.set s∈F)↔∃ s,Tm.set s∈F')
theorem Ro.symm {k:Bool} {F F':List Tm} (h:Ro k F F'):Ro k F' F:=⟨fun x h1 h2=>(h.out x h1 h2).symm,fun c hc=>(h.sets c hc).symm,fun e=>(h.some e).symm⟩
theorem lg {k:Bool} {F:List Tm} (h:∃ s,Tm.set s∈F):∃ s,fK k (F.filterMap aP)=Option.some s:=by
 obtain ⟨s,hs⟩:=h
 have:=bW.2 hs
 cases hq:F.filterMap aP with
 | nil=>rw [hq] at this;simp at this
 | cons a r=>exact ⟨_,rfl⟩
theorem gF {k:Bool} {F:List Tm} (hF:∀ t∈F,fZ t) {s:ah} (h:fK k (F.filterMap aP)=Option.some s) {c:Int} (hc:aC c=true):dn s c=true↔comb k F c:=by
 rw [Tg h (fun x hx=>hF _ (bW.1 hx)) hc]
 unfold comb
 cases k
 ·simp only [Bool.false_eq_true,if_false]
  exact ⟨fun ⟨x,hx,h⟩=>⟨x,bW.1 hx,h⟩,fun ⟨x,hx,h⟩=>⟨x,bW.2 hx,h⟩⟩
 ·simp only [if_true]
  exact ⟨fun h x hx=>h x (bW.2 hx),fun h x hx=>h x (bW.1 hx)⟩
theorem vS {k:Bool} {F:List Tm} {s:ah} (h:fK k (F.filterMap aP)=Option.some s):∃ x,Tm.set x∈F:=by
 cases hq:F.filterMap aP with
 | nil=>rw [hq] at h;cases h
 | cons a r=>exact ⟨a,bW.1 (by rw [hq];exact List.mem_cons_self ..)⟩
theorem pz {k:Bool} {F:List Tm} (hF:∀ t∈F,fZ t) {s:ah} (h:fK k (F.filterMap aP)=Option.some s):Tidy s:=ng h fun _ hx=>hF _ (bW.1 hx)
theorem zu {k:Bool} {F F':List Tm} (hF:∀ t∈F,fZ t) (hF':∀ t∈F',fZ t) (h:Ro k F F') {x:Tm} (hu:x≠bE k) (hx:x∈aV k F):x∈aV k F':=by
 rcases aM.1 hx with ⟨h1,h2⟩ | ⟨s,hs,rfl⟩
 ·exact aM.2 (.inl ⟨(h.out x h2 hu).1 h1,h2⟩)
 ·have hsome:∃ s',fK k (F'.filterMap aP)=Option.some s':=by
   cases k
   ·cases hq:fK false (F'.filterMap aP) with
    | some s'=>exact ⟨s',rfl⟩
    | none=>
     exfalso
     refine hu ?_
     have he:s=[]:=iP (pz hF hs) (show Tidy [] from trivial) (fun c hc=>by
      rw [fe]
      cases hi:dn s c with
      | false=>rfl
      | true=>
       have:=(h.sets c hc).1 ((gF hF hs hc).1 hi)
       obtain ⟨s1,hs1,_⟩:=this
       obtain ⟨s2,hs2⟩:=lg (k:=false) ⟨s1,hs1⟩
       rw [hq] at hs2;cases hs2)
     rw [he];rfl
   ·exact lg ((h.some rfl).1 (vS hs))
  obtain ⟨s',hs'⟩:=hsome
  have he:s=s':=iP (pz hF hs) (pz hF' hs') (fun c hc=>by
   have:=((gF hF hs hc).trans (h.sets c hc)).trans (gF hF' hs' hc).symm
   cases h1:dn s c<;>cases h2:dn s' c<;>simp [h1,h2] at this ⊢)
  exact aM.2 (.inr ⟨s',hs',by rw [he]⟩)
theorem D9 (k:Bool):eu k≠bE k:=by cases k<;>simp [eu,bE]
theorem Xe {k:Bool} {F F':List Tm} (hF:∀ t∈F,fZ t) (hF':∀ t∈F',fZ t) (h:Ro k F F'):oG k (aV k F)=oG k (aV k F'):=by
 have e:(aV k F).filter (fun t=>decide (t≠bE k))=(aV k F').filter (fun t=>decide (t≠bE k)):=by
  refine Hg (zb (nk hF).2 _) (zb (nk hF').2 _) fun x=>?_
  simp only [List.mem_filter,decide_eq_true_eq]
  exact ⟨fun ⟨h1,h2⟩=>⟨zu hF hF' h h2 h1,h2⟩,fun ⟨h1,h2⟩=>⟨zu hF' hF h.symm h2 h1,h2⟩⟩
 have z:eu k∈aV k F↔eu k∈aV k F':=⟨zu hF hF' h (D9 k),zu hF' hF h.symm (D9 k)⟩
 unfold oG
 by_cases hz:eu k∈aV k F
 ·rw [if_pos hz,if_pos (z.1 hz)]
 ·rw [if_neg hz,if_neg (fun q=>hz (z.2 q)),e]
theorem jL {k:Bool} {l:List Tm} (h:∀ t∈l,Cn t):∀ t∈l.flatMap (memT k),fZ t:=fun t ht=>by
 obtain ⟨d,hd,hm⟩:=List.mem_flatMap.1 ht
 exact ((h d hd).members t hm).1.ok
theorem sF {k:Bool} {l l':List Tm} (hl:∀ t∈l,Cn t) (hl':∀ t∈l',Cn t) (h:Ro k (l.flatMap (memT k)) (l'.flatMap (memT k))):aj k l=aj k l':=Xe (jL hl) (jL hl') h
end Go.Proofs.YtfolanohokflkaaGreatDoor
namespace Go.Proofs.YtfolanohokflkaaGreatDoor
open Tm (eps)
theorem zw {k:Bool} {F:List Tm} (hF:∀ t∈F,fZ t) (h:eu k∈F):eu k∈aV k F:=by
 cases k
 ·exact aM.2 (.inl ⟨h,rfl⟩)
 ·obtain ⟨s,hs⟩:=lg (k:=true) (F:=F) ⟨[],h⟩
  refine aM.2 (.inr ⟨s,hs,?_⟩)
  have:s=[]:=iP (pz hF hs) (show Tidy [] from trivial) (fun c hc=>by
   rw [fe]
   cases hi:dn s c with
   | false=>rfl
   | true=>
    have:=(gF hF hs hc).1 hi
    have:=this [] h
    rw [fe] at this;cases this)
  rw [this];rfl
theorem P9 {k:Bool} {F F':List Tm} (hF':∀ t∈F',fZ t) (hF:∀ t∈F,fZ t) (hs:∀ t∈F,t∈F') (h:eu k∈aV k F):eu k∈aV k F':=by
 cases k
 ·rcases aM.1 h with ⟨h1,h2⟩ | ⟨s,_,e⟩
  ·exact aM.2 (.inl ⟨hs _ h1,h2⟩)
  ·cases e
 ·rcases aM.1 h with ⟨_,h2⟩ | ⟨s,h1,e⟩
  ·cases h2
  ·obtain rfl:s=[]:=by cases e;rfl
   obtain ⟨x,hx⟩:=vS h1
   obtain ⟨s',hs'⟩:=lg (k:=true) (F:=F') ⟨x,hs _ hx⟩
   refine aM.2 (.inr ⟨s',hs',?_⟩)
   have:s'=[]:=iP (pz hF' hs') (show Tidy [] from trivial) (fun c hc=>by
    rw [fe]
    cases hi:dn s' c with
    | false=>rfl
    | true=>
     have h3:comb true F' c:=(gF hF' hs' hc).1 hi
     have h4:comb true F c:=fun q hq=>h3 q (hs _ hq)
     have:=(gF hF h1 hc).2 h4
     rw [fe] at this;cases this)
   rw [this];rfl
theorem iY {k:Bool} {l:List Tm} (h:eu k∈aV k (l.flatMap (memT k))):aj k l=eu k:=by unfold aj oG;rw [if_pos h]
theorem lT {k:Bool} {t:Tm} (h:cu t=true):dE k t=true:=by
 cases t with
 | aT k' a b=>simp [cu] at h
 | _=>rfl
theorem D_ {k:Bool} {l:List Tm} (hl:∀ t∈l,Cn t) (hz:eu k∉aV k (l.flatMap (memT k))):Ro k (memT k (aj k l)) (l.flatMap (memT k)):=by
 have hok:=jL (k:=k) hl
 have hN:∀ m∈aV k (l.flatMap (memT k)),dE k m=true:=fun m hm=>by
  rcases aM.1 hm with ⟨h,_⟩ | ⟨s,_,rfl⟩
  ·obtain ⟨d,hd,hm⟩:=List.mem_flatMap.1 h
   exact ((hl d hd).members m hm).2
  ·rfl
 obtain ⟨A,hA⟩:∃ A,(aV k (l.flatMap (memT k))).filter (fun t=>decide (t≠bE k))=A:=⟨_,rfl⟩
 have hAm:∀ x,x∈A↔x∈aV k (l.flatMap (memT k))/\x≠bE k:=fun x=>by rw [<-hA,List.mem_filter];simp
 have hg:∀ x,x≠bE k->(x∈memT k (aj k l)↔x∈A):=by
  intro x hx
  unfold aj oG
  rw [if_neg hz,hA]
  cases A with
  | nil=>
   show x∈memT k (bE k)↔_
   rw [bq (lT (sD k))]
   simp [hx]
  | cons a r=>
   show x∈memT k (gM k (a::r))↔_
   rw [nu k (by simp) (fun m hm=>hN m ((hAm m).1 hm).1)]
 have hset:∀ s,Tm.set s∈memT k (aj k l)->Tm.set s≠bE k->fK k ((l.flatMap (memT k)).filterMap aP)=Option.some s:=fun s hs hu=>by
  rcases aM.1 ((hAm _).1 ((hg _ hu).1 hs)).1 with ⟨_,h⟩ | ⟨s',h1,h2⟩
  ·cases h
  ·cases h2;exact h1
 have hset':∀ s,fK k ((l.flatMap (memT k)).filterMap aP)=Option.some s->Tm.set s≠bE k->Tm.set s∈memT k (aj k l):=fun s hs hu=>
  (hg _ hu).2 ((hAm _).2 ⟨aM.2 (.inr ⟨s,hs,rfl⟩),hu⟩)
 refine ⟨fun x h1 h2=>?_,fun c hc=>?_,fun hk=>?_⟩
 ·rw [hg x h2,hAm]
  constructor
  ·rintro ⟨h,_⟩
   rcases aM.1 h with ⟨h,_⟩ | ⟨s,_,rfl⟩
   ·exact h
   ·cases h1
  ·intro h
   exact ⟨aM.2 (.inl ⟨h,h1⟩),h2⟩
 ·cases k
  ·constructor
   ·rintro ⟨s,hs,hi⟩
    have hu:Tm.set s≠bE false:=by rintro e;cases e;rw [fe] at hi;cases hi
    exact (gF hok (hset s hs hu) hc).1 hi
   ·intro h
    obtain ⟨s,hs⟩:=lg (k:=false) (let ⟨s0,hs0,_⟩:=h;⟨s0,hs0⟩)
    have hi:=(gF hok hs hc).2 h
    have hu:Tm.set s≠bE false:=by rintro e;cases e;rw [fe] at hi;cases hi
    exact ⟨s,hset' s hs hu,hi⟩
  ·have hu:∀ s,Tm.set s≠bE true:=fun s e=>by cases e
   constructor
   ·intro h q hq
    obtain ⟨s,hs⟩:=lg (k:=true) ⟨q,hq⟩
    exact (gF hok hs hc).1 (h s (hset' s hs (hu s))) q hq
   ·intro h s hs
    exact (gF hok (hset s hs (hu s)) hc).2 h
 ·subst hk
  have hu:∀ s,Tm.set s≠bE true:=fun s e=>by cases e
  constructor
  ·rintro ⟨s,hs⟩
   exact vS (hset s hs (hu s))
  ·intro h
   obtain ⟨s,hs⟩:=lg (k:=true) h
   exact ⟨s,hset' s hs (hu s)⟩
theorem Iy {k:Bool} {F G:List Tm} {c:Int}:comb k (F++G) c↔if k=true then comb k F c/\comb k G c else comb k F c\/comb k G c:=by
 unfold comb
 cases k
 ·simp only [Bool.false_eq_true,if_false,List.mem_append]
  exact ⟨fun ⟨s,h,hi⟩=>h.imp (fun h=>⟨s,h,hi⟩) (fun h=>⟨s,h,hi⟩),fun h=>h.elim (fun ⟨s,h,hi⟩=>⟨s,.inl h,hi⟩) (fun ⟨s,h,hi⟩=>⟨s,.inr h,hi⟩)⟩
 ·simp only [if_true,List.mem_append]
  exact ⟨fun h=>⟨fun s hs=>h s (.inl hs),fun s hs=>h s (.inr hs)⟩,fun h s hs=>hs.elim (h.1 s) (h.2 s)⟩
theorem Ro.app {k:Bool} {F F':List Tm} (h:Ro k F F') (G:List Tm):Ro k (F++G) (F'++G):=by
 refine ⟨fun x h1 h2=>by rw [List.mem_append,List.mem_append,h.out x h1 h2],fun c hc=>by rw [Iy,Iy,h.sets c hc],fun hk=>?_⟩
 have:=h.some hk
 constructor
 ·rintro ⟨s,hs⟩
  rcases List.mem_append.1 hs with hs | hs
  ·obtain ⟨q,hq⟩:=this.1 ⟨s,hs⟩
   exact ⟨q,List.mem_append_left _ hq⟩
  ·exact ⟨s,List.mem_append_right _ hs⟩
 ·rintro ⟨s,hs⟩
  rcases List.mem_append.1 hs with hs | hs
  ·obtain ⟨q,hq⟩:=this.2 ⟨s,hs⟩
   exact ⟨q,List.mem_append_left _ hq⟩
  ·exact ⟨s,List.mem_append_right _ hs⟩
theorem lh {k:Bool} {X Y:List Tm} (hX:∀ t∈X,Cn t) (hY:∀ t∈Y,Cn t):aj k (aj k X::Y)=aj k (X++Y):=by
 have hXY:∀ t∈X++Y,Cn t:=fun t ht=>(List.mem_append.1 ht).elim (hX t) (hY t)
 have hg:∀ t∈aj k X::Y,Cn t:=fun t ht=>(List.mem_cons.1 ht).elim (fun e=>by rw [e];exact kz hX) (hY t)
 by_cases hz:eu k∈aV k (X.flatMap (memT k))
 ·rw [iY (l:=X++Y) (P9 (jL hXY) (jL hX) (fun t ht=>by rw [List.flatMap_append];exact List.mem_append_left _ ht) hz),iY hz]
  rw [iY hz] at hg
  refine iY (zw (jL hg) ?_)
  rw [List.flatMap_cons,bq (lT (xu k))]
  exact List.mem_append_left _ (List.mem_cons_self ..)
 ·refine sF hg hXY ?_
  rw [List.flatMap_cons,List.flatMap_append]
  exact (D_ hX hz).app _
end Go.Proofs.YtfolanohokflkaaGreatDoor
namespace Go.Proofs.YtfolanohokflkaaGreatDoor
open Tm (eps)
theorem fD {k:Bool} {X Y:List Tm} (hX:∀ t∈X,Cn t) (h:∀ t,t∈X↔t∈Y):aj k X=aj k Y:=by
 have hf:∀ t,t∈X.flatMap (memT k)↔t∈Y.flatMap (memT k):=fun t=>by simp only [List.mem_flatMap,h]
 refine sF hX (fun t ht=>hX t ((h t).2 ht)) ⟨fun x _ _=>hf x,fun c _=>?_,fun _=>?_⟩
 ·unfold comb
  simp only [hf]
 ·simp only [hf]
theorem Iz {k:Bool} {P Q Q':List Tm} (hP:∀ t∈P,Cn t) (hQ:∀ t∈Q,Cn t) (hQ':∀ t∈Q',Cn t) (h:aj k Q=aj k Q'):aj k (P++Q)=aj k (P++Q'):=by
 rw [fD (X:=P++Q) (Y:=Q++P) (fun t ht=>(List.mem_append.1 ht).elim (hP t) (hQ t)) (fun t=>by simp [List.mem_append,or_comm]),<-lh hQ hP,h,lh hQ' hP]
 exact fD (fun t ht=>(List.mem_append.1 ht).elim (hQ' t) (hP t)) (fun t=>by simp [List.mem_append,or_comm])
theorem nI {c:Int} {l:List Tm} (h:∀ t∈l,Cn t):∀ t∈l.map (aG c),Cn t:=fun t ht=>by
 obtain ⟨d,hd,rfl⟩:=List.mem_map.1 ht
 exact (fP c (h d hd)).1
theorem Fz {k:Bool} {l:List Tm} (h:∀ t∈l,Cn t):∀ t∈l.flatMap (memT k),Cn t:=fun t ht=>by
 obtain ⟨d,hd,hm⟩:=List.mem_flatMap.1 ht
 exact ((h d hd).members t hm).1
theorem rA {c:Int} {k:Bool} {d:Tm} (hd:Cn d):aG c d=aj k ((memT k d).map (aG c)):=by
 rcases iU k d with ⟨a,b,rfl⟩ | hn
 ·exact lM c k a b
 ·rw [bq hn,List.map_cons,List.map_nil,group_one' (fP c hd).1]
theorem IA {c:Int} {k:Bool}:∀ {l:List Tm},(∀ t∈l,Cn t)->aj k (l.map (aG c))=aj k ((l.flatMap (memT k)).map (aG c))
 | [],_=>rfl
 | d::r,h=>by
  have hr:∀ t∈r,Cn t:=fun t ht=>h t (List.mem_cons_of_mem _ ht)
  have hd:=h d (List.mem_cons_self ..)
  have hm:∀ t∈memT k d,Cn t:=fun t ht=>(hd.members t ht).1
  rw [List.map_cons,rA (k:=k) hd,lh (nI hm) (nI hr),List.flatMap_cons,List.map_append]
  exact Iz (nI hm) (nI hr) (nI (Fz hr)) (IA hr)
theorem Ti (c:Int) (k:Bool):aG c (eu k)=eu k:=by cases k<;>rfl
theorem Tj (c:Int) (k:Bool):aG c (bE k)=bE k:=by cases k<;>rfl
theorem IB {c:Int} {k:Bool} {s:ah} {x:Tm} (h:x∈memT k (aG c (.set s))):x=if dn s c=true then eps else aH:=by
 rw [g_] at h
 split at h
 ·rename_i hi
  rw [bq rfl] at h
  simpa [hi] using h
 ·rename_i hi
  rw [bq rfl] at h
  simpa [hi] using h
theorem Xf {c:Int} (hc:aC c=true) {k:Bool} {A B:List Tm} (hA:∀ t∈A,Cn t) (hB:∀ t∈B,Cn t) (h:Ro k A B):aj k (A.map (aG c))=aj k (B.map (aG c)):=by
 by_cases hz:k=true/\¬ comb k A c
 ·obtain ⟨rfl,hn⟩:=hz
  have key:∀ F:List Tm,(∀ t∈F,Cn t)->¬ comb true F c->aj true (F.map (aG c))=eu true:=fun F hF hn=>by
   refine iY (zw (jL (nI hF)) ?_)
   have:∃ s,Tm.set s∈F/\dn s c=false:=by
    refine Classical.byContradiction fun hne=>hn fun s hs=>?_
    cases hi:dn s c with
    | true=>rfl
    | false=>exact absurd ⟨s,hs,hi⟩ hne
   obtain ⟨s,hs,hi⟩:=this
   refine List.mem_flatMap.2 ⟨_,List.mem_map.2 ⟨_,hs,rfl⟩,?_⟩
   rw [g_,if_neg (by rw [hi];simp)]
   exact List.mem_cons_self ..
  rw [key A hA hn,key B hB (fun q=>hn ((h.sets c hc).2 q))]
 ·have hall:k=true->comb k A c:=fun e=>Classical.byContradiction fun q=>hz ⟨e,q⟩
  have one:∀ {A B:List Tm},(∀ t∈A,Cn t)->(∀ t∈B,Cn t)->Ro k A B->(k=true->comb k A c) ->
    (∀ x,aP x=Option.none->x≠bE k->x∈(A.map (aG c)).flatMap (memT k)->x∈(B.map (aG c)).flatMap (memT k)) /\
    (∀ s,s≠[]->Tm.set s∈(A.map (aG c)).flatMap (memT k)->Tm.set s∈(B.map (aG c)).flatMap (memT k)) /\
    (k=true->∀ s,Tm.set s∈(A.map (aG c)).flatMap (memT k)->Tm.set s∈(B.map (aG c)).flatMap (memT k)):=by
   intro A B hA hB h hall
   have from':∀ x,x∈(A.map (aG c)).flatMap (memT k)->(∃ a∈A,aP a=Option.none/\a≠bE k/\x∈memT k (aG c a))\/x=bE k\/(∃ s,Tm.set s∈A/\x=if dn s c=true then eps else aH):=fun x hx=>by
    obtain ⟨d,hd,hm⟩:=List.mem_flatMap.1 hx
    obtain ⟨a,ha,rfl⟩:=List.mem_map.1 hd
    cases hs:aP a with
    | some s=>
     have e:=lN hs
     subst e
     exact .inr (.inr ⟨s,ha,IB hm⟩)
    | none=>
     by_cases hu:a=bE k
     ·subst hu
      rw [Tj,bq (lT (sD k))] at hm
      exact .inr (.inl (by simpa using hm))
     ·exact .inl ⟨a,ha,hs,hu,hm⟩
   have to':∀ x a,a∈A->aP a=Option.none->a≠bE k->x∈memT k (aG c a)->x∈(B.map (aG c)).flatMap (memT k):=fun x a ha h1 h2 hm=>
    List.mem_flatMap.2 ⟨_,List.mem_map.2 ⟨a,(h.out a h1 h2).1 ha,rfl⟩,hm⟩
   refine ⟨fun x h1 h2 hx=>?_,fun s hs hx=>?_,fun hk s hx=>?_⟩
   ·rcases from' x hx with ⟨a,ha,e1,e2,hm⟩ | rfl | ⟨s,hs,rfl⟩
    ·exact to' x a ha e1 e2 hm
    ·exact absurd rfl h2
    ·split at h1
     ·rename_i hi
      rw [if_pos hi]
      have:∃ q,Tm.set q∈B/\dn q c=true:=by
       cases k
       ·exact (h.sets c hc).1 ⟨s,hs,hi⟩
       ·obtain ⟨q,hq⟩:=(h.some rfl).1 ⟨s,hs⟩
        exact ⟨q,hq,(h.sets c hc).1 (hall rfl) q hq⟩
      obtain ⟨q,hq,hqi⟩:=this
      refine List.mem_flatMap.2 ⟨_,List.mem_map.2 ⟨_,hq,rfl⟩,?_⟩
      rw [g_,if_pos hqi]
      exact List.mem_cons_self ..
     ·cases h1
   ·rcases from' _ hx with ⟨a,ha,e1,e2,hm⟩ | e | ⟨q,_,e⟩
    ·exact to' _ a ha e1 e2 hm
    ·cases k
     ·cases e;exact absurd rfl hs
     ·cases e
    ·split at e
     ·cases e
     ·cases e;exact absurd rfl hs
   ·subst hk
    rcases from' _ hx with ⟨a,ha,e1,e2,hm⟩ | e | ⟨q,hq,e⟩
    ·exact to' _ a ha e1 e2 hm
    ·cases e
    ·rw [if_pos (hall rfl q hq)] at e
     cases e
  have abA:k=true->comb k B c:=fun e=>(h.sets c hc).1 (hall e)
  have o1:=one hA hB h hall
  have o2:=one hB hA h.symm abA
  refine sF (nI hA) (nI hB) ⟨fun x h1 h2=>⟨o1.1 x h1 h2,o2.1 x h1 h2⟩,fun d _=>?_,fun hk=>?_⟩
  ·unfold comb
   cases hk:k
   ·simp only [Bool.false_eq_true,if_false]
    subst hk
    constructor
    ·rintro ⟨s,hs,hi⟩
     exact ⟨s,o1.2.1 s (by rintro rfl;rw [fe] at hi;cases hi) hs,hi⟩
    ·rintro ⟨s,hs,hi⟩
     exact ⟨s,o2.2.1 s (by rintro rfl;rw [fe] at hi;cases hi) hs,hi⟩
   ·simp only [if_true]
    subst hk
    exact ⟨fun q s hs=>q s (o2.2.2 rfl s hs),fun q s hs=>q s (o1.2.2 rfl s hs)⟩
  ·exact ⟨fun ⟨s,hs⟩=>⟨s,o1.2.2 hk s hs⟩,fun ⟨s,hs⟩=>⟨s,o2.2.2 hk s hs⟩⟩
theorem P_ {c:Int} (hc:aC c=true) {k:Bool} {l:List Tm} (hl:∀ t∈l,Cn t):aG c (aj k l)=aj k (l.map (aG c)):=by
 rw [IA hl]
 by_cases hz:eu k∈aV k (l.flatMap (memT k))
 ·rw [iY hz,Ti]
  symm
  refine iY (zw (jL (nI (Fz hl))) ?_)
  cases k
  ·rcases aM.1 hz with ⟨h1,_⟩ | ⟨s,_,e⟩
   ·exact List.mem_flatMap.2 ⟨_,List.mem_map.2 ⟨_,h1,rfl⟩,List.mem_cons_self ..⟩
   ·cases e
  ·rcases aM.1 hz with ⟨_,h⟩ | ⟨s,h1,e⟩
   ·cases h
   ·obtain rfl:s=[]:=by cases e;rfl
    have hn:¬ comb true (l.flatMap (memT true)) c:=fun q=>by
     have:=(gF (jL hl) h1 hc).2 q
     rw [fe] at this;cases this
    have:∃ s,Tm.set s∈l.flatMap (memT true)/\dn s c=false:=by
     refine Classical.byContradiction fun hne=>hn fun s hs=>?_
     cases hi:dn s c with
     | true=>rfl
     | false=>exact absurd ⟨s,hs,hi⟩ hne
    obtain ⟨s,hs,hi⟩:=this
    refine List.mem_flatMap.2 ⟨_,List.mem_map.2 ⟨_,hs,rfl⟩,?_⟩
    rw [g_,if_neg (by rw [hi];simp)]
    exact List.mem_cons_self ..
 ·rw [rA (k:=k) (kz hl)]
  exact Xf hc (fun t ht=>((kz hl).members t ht).1) (Fz hl) (D_ hl hz)
theorem Qa {d:Tm} (h:Cn d):jF (jF d)=d:=by
 cases d with
 | not a=>
  show jF a=_
  have:=h.2.1
  cases a<;>simp [Nc] at this<;>rfl
 | _=>rfl
theorem Xg {c:Int} {x:Tm} (h:Cn x):aG c (jF x)=jF (aG c x):=by
 cases x with
 | not a=>
  show aG c a=jF (jF (aG c a))
  rw [Qa (fP c (show Cn a from h.1)).1]
 | _=>rfl
end Go.Proofs.YtfolanohokflkaaGreatDoor
namespace Go.Proofs.YtfolanohokflkaaGreatDoor
open Tm (eps)
def ed:Tm->Nat
 | .set _=>1
 | .eps=>1
 | .chain a b=>ed a+ed b+1
 | .star a=>ed a+1
 | .not a=>ed a+1
 | .aT _ a b=>ed a+ed b+1
inductive dL:Tm->Tm->Tm->Tm->Prop where
 | here (t z:Tm):dL t z t z
 | left {a b z h z':Tm}:dL a (au b z) h z'->dL (.chain a b) z h z'
 | right {a b z h z':Tm}:dL b z h z'->(bI b=false\/ed h<ed b)->dL (.chain a b) z h z'
 | star {a z h z':Tm}:dL a (au (.star a) z) h z'->dL (.star a) z h z'
 | neg {a z h z':Tm}:dL a z h z'->dL (.not a) z h z'
 | mem {k:Bool} {a b m z h z':Tm}:m∈memT k (.aT k a b)->dL m z h z'->dL (.aT k a b) z h z'
theorem Tk (k:Bool):∀ (t:Tm) {m:Tm},m∈memT k t->ed m<=ed t
 | t,m,h=>by
  rcases iU k t with ⟨a,b,rfl⟩ | hn
  ·rw [h_] at h
   rcases List.mem_cons.1 h with rfl | h
   ·simp only [ed];omega
   ·have:=Tk k b h
    simp only [ed];omega
  ·rw [bq hn] at h
   simp at h;subst h
   exact Nat.le_refl _
 termination_by t=>t
theorem uB {k:Bool} {a b m:Tm} (h:m∈memT k (.aT k a b)):ed m<ed (.aT k a b):=by
 rw [h_] at h
 rcases List.mem_cons.1 h with rfl | h
 ·simp only [ed];omega
 ·have:=Tk k b h
  simp only [ed];omega
theorem dL.cn {t z h z':Tm} (p:dL t z h z') (ht:Cn t) (hz:Cn z):Cn h/\Cn z':=by
 induction p with
 | here=>exact ⟨ht,hz⟩
 | left _ ih=>exact ih ht.1 (eQ _ _ ht.2.1 hz)
 | right _ _ ih=>exact ih ht.2.1 hz
 | star _ ih=>exact ih ht.1 (eQ _ _ ht hz)
 | neg _ ih=>exact ih ht.1 hz
 | mem hm _ ih=>exact ih (ht.members _ hm).1 hz
theorem dL.shift {t z h z':Tm} (p:dL t z h z') (ht:Cn t) (hz:Cn z) (y:Tm):dL t (au z y) h (au z' y):=by
 induction p with
 | here=>exact .here _ _
 | left _ ih=>
  refine .left ?_
  rw [<-pW _ _ _ ht.2.1 hz]
  exact ih ht.1 (eQ _ _ ht.2.1 hz)
 | right _ hr ih=>exact .right (ih ht.2.1 hz) hr
 | star _ ih=>
  refine .star ?_
  rw [<-pW _ _ _ ht hz]
  exact ih ht.1 (eQ _ _ ht hz)
 | neg _ ih=>exact .neg (ih ht.1 hz)
 | mem hm _ ih=>exact .mem hm (ih (ht.members _ hm).1 hz)
theorem dL.sz {t z h z':Tm} (p:dL t z h z'):ed h<=ed t:=by
 induction p with
 | here=>exact Nat.le_refl _
 | left _ ih=>simp only [ed];omega
 | right _ _ ih=>simp only [ed];omega
 | star _ ih=>simp only [ed];omega
 | neg _ ih=>simp only [ed];omega
 | mem hm _ ih=>have:=uB hm;omega
theorem dL.trans {t z h z1 h2 z2:Tm} (p:dL t z h z1) (q:dL h z1 h2 z2):dL t z h2 z2:=by
 induction p with
 | here=>exact q
 | left _ ih=>exact .left (ih q)
 | right _ hr ih=>exact .right (ih q) (hr.imp id fun h=>Nat.lt_of_le_of_lt q.sz h)
 | star _ ih=>exact .star (ih q)
 | neg _ ih=>exact .neg (ih q)
 | mem hm _ ih=>exact .mem hm (ih q)
theorem dL.comp {t h z h2 z2:Tm} (p:dL t eps h z) (ht:Cn t) (q:dL h eps h2 z2):dL t eps h2 (au z2 z):=by
 have hh:=(p.cn ht trivial).1
 have:=q.shift hh trivial z
 rw [bz] at this
 exact p.trans this
theorem dL.same {t z h z':Tm} (p:dL t z h z') (hs:ed t<=ed h):h=t/\z'=z:=by
 cases p with
 | here=>exact ⟨rfl,rfl⟩
 | left p=>have:=p.sz;simp only [ed] at hs;omega
 | right p _=>have:=p.sz;simp only [ed] at hs;omega
 | star p=>have:=p.sz;simp only [ed] at hs;omega
 | neg p=>have:=p.sz;simp only [ed] at hs;omega
 | mem hm p=>have:=p.sz;have:=uB hm;omega
theorem dL.nc {t z h z':Tm} (p:dL t z h z') (hc:bI h=false):bI t=false\/ed h<ed t:=by
 by_cases q:ed h<ed t
 ·exact .inr q
 ·rw [<-(p.same (by omega)).1];exact .inl hc
theorem oq:∀ {u z:Tm},Cn u->au u z=aH->u=aH\/z=aH:=by
 intro u
 induction u with
 | chain a b iha ihb=>
  intro z hu h
  by_cases hzv:z=aH
  ·exact .inr hzv
  by_cases ig:z=eps
  ·rw [ig,ai] at h;cases h
  rw [au,if_neg hzv,if_neg ig] at h
  rcases iha hu.1 h with h | h
  ·exact absurd h hu.2.2.2.1
  ·rcases ihb hu.2.1 h with h | h
   ·exact absurd h hu.2.2.2.2.2.1
   ·exact .inr h
 | eps=>intro z _ h;rw [bz] at h;exact .inr h
 | set l=>
  intro z _ h
  by_cases hl:Tm.set l=aH
  ·exact .inl hl
  by_cases hzv:z=aH
  ·exact .inr hzv
  by_cases ig:z=eps
  ·rw [ig,ai] at h;exact .inl h
  rw [bD rfl hl (by simp) hzv ig] at h;cases h
 | _=>
  intro z _ h
  by_cases hzv:z=aH
  ·exact .inr hzv
  by_cases ig:z=eps
  ·rw [ig,ai] at h;cases h
  rw [bD rfl (by simp) (by simp) hzv ig] at h;cases h
theorem dL.follow {t z h z':Tm} (p:dL t z h z') (ht:Cn t) (hz:Cn z) (hzv:z≠aH):z'≠aH/\(z'=z\/∃ b z1,dL t z b z1/\z'=au b z1/\bI b=false/\b≠eps/\b≠aH/\z1≠aH/\(ed b<ed t\/(b=t/\oH t=true))):=by
 induction p with
 | here=>exact ⟨hzv,.inl rfl⟩
 | @left a b z h z' p ih=>
  obtain ⟨ha,hb,hac,KX,hae,hbv,hbe⟩:=ht
  have hv:au b z≠aH:=fun e=>(oq hb e).elim hbv hzv
  obtain ⟨h1,h2⟩:=ih ha (eQ _ _ hb hz) hv
  refine ⟨h1,?_⟩
  rcases h2 with rfl | ⟨q,z1,hq,e,h3,h4,h5,h6,h7⟩
  ·right
   cases b with
   | chain b1 b2=>
    obtain ⟨_,hb2,h3,h4,h5,h6,h7⟩:=hb
    by_cases ig:z=eps
    ·subst ig
     refine ⟨b1,au b2 eps,.right (.left (.here _ _)) (.inr (by simp only [ed];omega)),?_,h3,h5,h4,by rw [ai];exact h6,.inl (by simp only [ed];omega)⟩
     rw [ai,ai,bD h3 h4 h5 h6 h7]
    ·exact ⟨b1,au b2 z,.right (.left (.here _ _)) (.inr (by simp only [ed];omega)),by rw [au,if_neg hzv,if_neg ig],h3,h5,h4,fun e=>(oq hb2 e).elim h6 hzv,.inl (by simp only [ed];omega)⟩
   | set l=>exact ⟨.set l,z,.right (.here _ _) (.inl rfl),rfl,rfl,hbe,hbv,hzv,.inl (by simp only [ed];omega)⟩
   | eps=>exact absurd rfl hbe
   | star q=>exact ⟨.star q,z,.right (.here _ _) (.inl rfl),rfl,rfl,hbe,hbv,hzv,.inl (by simp only [ed];omega)⟩
   | not q=>exact ⟨.not q,z,.right (.here _ _) (.inl rfl),rfl,rfl,hbe,hbv,hzv,.inl (by simp only [ed];omega)⟩
   | aT k q r=>exact ⟨.aT k q r,z,.right (.here _ _) (.inl rfl),rfl,rfl,hbe,hbv,hzv,.inl (by simp only [ed];omega)⟩
  ·exact .inr ⟨q,z1,.left hq,e,h3,h4,h5,h6,.inl (by have:=hq.sz;simp only [ed];omega)⟩
 | @right a b z h z' p hr ih=>
  obtain ⟨h1,h2⟩:=ih ht.2.1 hz hzv
  refine ⟨h1,h2.imp id ?_⟩
  rintro ⟨q,z1,hq,e,h3,h4,h5,h6,h7⟩
  exact ⟨q,z1,.right hq (hq.nc h3),e,h3,h4,h5,h6,.inl (by have:=hq.sz;simp only [ed];omega)⟩
 | @star a z h z' p ih=>
  have hv:au (.star a) z≠aH:=fun e=>(oq ht e).elim (by simp) hzv
  obtain ⟨h1,h2⟩:=ih ht.1 (eQ _ _ ht hz) hv
  refine ⟨h1,?_⟩
  rcases h2 with rfl | ⟨q,z1,hq,e,h3,h4,h5,h6,h7⟩
  ·exact .inr ⟨.star a,z,.here _ _,rfl,rfl,by simp,by simp,hzv,.inr ⟨rfl,rfl⟩⟩
  ·exact .inr ⟨q,z1,.star hq,e,h3,h4,h5,h6,.inl (by have:=hq.sz;simp only [ed];omega)⟩
 | neg _ ih=>
  obtain ⟨h1,h2⟩:=ih ht.1 hz hzv
  refine ⟨h1,h2.imp id ?_⟩
  rintro ⟨q,z1,hq,e,h3,h4,h5,h6,h7⟩
  exact ⟨q,z1,.neg hq,e,h3,h4,h5,h6,.inl (by have:=hq.sz;simp only [ed];omega)⟩
 | mem hm _ ih=>
  obtain ⟨h1,h2⟩:=ih (ht.members _ hm).1 hz hzv
  refine ⟨h1,h2.imp id ?_⟩
  rintro ⟨q,z1,hq,e,h3,h4,h5,h6,h7⟩
  exact ⟨q,z1,.mem hm hq,e,h3,h4,h5,h6,.inl (by have:=hq.sz;have:=uB hm;omega)⟩
end Go.Proofs.YtfolanohokflkaaGreatDoor
