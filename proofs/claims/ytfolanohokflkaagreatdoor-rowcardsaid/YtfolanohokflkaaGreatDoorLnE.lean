import Derived.Test.YtfolanohokflkaaGreatDoorPSpec
namespace Go.Proofs.YtfolanohokflkaaGreatDoor
open Tm (eps)
def cZ:Tm->Bool
 | .set _=>true
 | .eps=>true
 | .not (.set [])=>true
 | _=>false
inductive qY:Tm->Tm->Prop where
 | self (x:Tm):qY x x
 | neg {a y:Tm}:qY a y->qY (.not a) y
 | mem {k:Bool} {a b m y:Tm}:m∈memT k (.aW k a b)->qY m y->qY (.aW k a b) y
 | next {a b y:Tm}:bZ a=true->qY b y->qY (.chain a b) y
theorem qY.trans {x y z:Tm} (h:qY x y) (k:qY y z):qY x z:=by
 induction h with
 | self=>exact k
 | neg _ ih=>exact .neg (ih k)
 | mem hm _ ih=>exact .mem hm (ih k)
 | next hn _ ih=>exact .next hn (ih k)
theorem qY.member {k:Bool} {t m:Tm} (h:m∈memT k t):qY t m:=by
 rcases ja k t with ⟨a,b,rfl⟩ | hn
 ·exact .mem h (.self _)
 ·rw [bu hn] at h
  simp at h;subst h
  exact .self _
theorem nV {x y:Tm} (hx:cZ x=true) (h:qY x y):cZ y=true:=by
 cases h with
 | self=>exact hx
 | neg h=>
  rename_i a
  cases a with
  | set l=>
   cases h with
   | self=>rfl
  | _=>simp [cZ] at hx
 | mem _ _=>simp [cZ] at hx
 | next _ _=>simp [cZ] at hx
theorem tY (k:Bool):cZ (bG k)=true:=by cases k<;>rfl
theorem yh (k:Bool):cZ (eT k)=true:=by cases k<;>rfl
theorem si {k:Bool} {l:List Tm} (hl:∀ t∈l,Cn t):cZ (aj k l)=true\/(∃ d∈l,aj k l∈memT k d) \/
  (∃ a b,aj k l=.aW k a b/\∀ m∈memT k (.aW k a b),cZ m=true\/∃ d∈l,m∈memT k d):=by
 have hW:∀ m∈aV k (l.flatMap (memT k)),cZ m=true\/∃ d∈l,m∈memT k d:=fun m hm=>by
  rcases aN.1 hm with ⟨h,_⟩ | ⟨s,_,rfl⟩
  ·obtain ⟨d,hd,hm⟩:=List.mem_flatMap.1 h
   exact .inr ⟨d,hd,hm⟩
  ·exact .inl rfl
 have hN:∀ m∈aV k (l.flatMap (memT k)),dK k m=true:=fun m hm=>by
  rcases aN.1 hm with ⟨h,_⟩ | ⟨s,_,rfl⟩
  ·obtain ⟨d,hd,hm⟩:=List.mem_flatMap.1 h
   exact ((hl d hd).members m hm).2
  ·rfl
 unfold aj oV
 split
 ·exact .inl (yh k)
 split
 ·exact .inl (tY k)
 ·rename_i hne
  obtain ⟨L,hL⟩:∃ L,(aV k (l.flatMap (memT k))).filter (fun t=>decide (t≠bG k))=L:=⟨_,rfl⟩
  rw [hL] at hne ⊢
  have hsub:∀ m∈L,m∈aV k (l.flatMap (memT k)):=fun m hm=>by rw [<-hL] at hm;exact (List.mem_filter.1 hm).1
  cases L with
  | nil=>exact absurd rfl hne
  | cons a r=>
   cases r with
   | nil=>
    rcases hW a (hsub a (List.mem_cons_self ..)) with h | h
    ·exact .inl h
    ·exact .inr (.inl h)
   | cons b r=>
    refine .inr (.inr ⟨a,gX k (b::r),jb k a (by simp),fun m hm=>?_⟩)
    rw [<-jb k a (by simp),nQ k (by simp) (fun m hm=>hN m (hsub m hm))] at hm
    exact hW m (hsub m hm)
theorem RQ {k:Bool} {l:List Tm} (hl:∀ t∈l,Cn t) {y:Tm} (h:qY (aj k l) y):y=aj k l\/cZ y=true\/∃ d∈l,∃ m∈memT k d,qY m y:=by
 rcases si hl with ht | ⟨d,hd,hm⟩ | ⟨a,b,e,hm⟩
 ·exact .inr (.inl (nV ht h))
 ·exact .inr (.inr ⟨d,hd,_,hm,h⟩)
 ·rw [e] at h ⊢
  cases h with
  | self=>exact .inl rfl
  | mem hm' hy=>
   rcases hm _ hm' with ht | ⟨d,hd,hd'⟩
   ·exact .inr (.inl (nV ht hy))
   ·exact .inr (.inr ⟨d,hd,_,hd',hy⟩)
theorem pY {k:Bool} {l:List Tm} (hl:∀ t∈l,Cn t) {m:Tm} (h:m∈memT k (aj k l)):cZ m=true\/∃ d∈l,m∈memT k d:=by
 rcases si hl with ht | ⟨d,hd,hm⟩ | ⟨a,b,e,hm⟩
 ·have hn:dK k (aj k l)=true:=by
   cases hg:aj k l with
   | aW k' a b=>rw [hg] at ht;simp [cZ] at ht
   | _=>rfl
  rw [bu hn] at h
  simp at h;subst h
  exact .inl ht
 ·have hn:=((hl d hd).members _ hm).2
  rw [bu hn] at h
  simp at h;subst h
  exact .inr ⟨d,hd,hm⟩
 ·rw [e] at h
  exact hm m h
theorem bE {u z:Tm} (hc:bL u=false) (hv:u≠aF) (he:u≠eps) (hzv:z≠aF) (iy:z≠eps):au u z=.chain u z:=by
 rw [kr,if_neg (by simp [hv,hzv]),if_neg he,if_neg iy]
 cases u<;>simp [bL] at hc ⊢
theorem BV:∀ {u z:Tm},Cn u->au u z=eps->u=eps/\z=eps:=by
 intro u
 induction u with
 | chain a b iha ihb=>
  intro z hu h
  by_cases hzv:z=aF
  ·rw [hzv,aH] at h;cases h
  by_cases iy:z=eps
  ·rw [iy,ai] at h;cases h
  rw [au,if_neg hzv,if_neg iy] at h
  exact absurd (iha hu.1 h).1 hu.2.2.2.2.1
 | eps=>intro z _ h;rw [bA] at h;exact ⟨rfl,h⟩
 | set l=>
  intro z _ h
  by_cases hzv:z=aF
  ·rw [hzv,aH] at h;cases h
  by_cases iy:z=eps
  ·rw [iy,ai] at h;cases h
  by_cases hl:Tm.set l=aF
  ·rw [hl,aQ] at h;cases h
  rw [bE rfl hl (by simp) hzv iy] at h;cases h
 | _=>
  intro z _ h
  by_cases hzv:z=aF
  ·rw [hzv,aH] at h;cases h
  by_cases iy:z=eps
  ·rw [iy,ai] at h;cases h
  rw [bE rfl (by simp) (by simp) hzv iy] at h;cases h
theorem Zi {x y:Tm} (h:qY (jO x) y):y=jO x\/qY x y:=by
 cases x with
 | not a=>exact .inr (.neg h)
 | _=>
  cases h with
  | self=>exact .inl rfl
  | neg h=>exact .inr h
theorem Zj {c:Int} {k:Bool} {x m:Tm} (hx:Cn x) (h:m∈memT k (aG c x)):cZ m=true\/∃ m0∈memT k x,m∈memT k (aG c m0):=by
 rcases ja k x with ⟨a,b,rfl⟩ | hn
 ·rw [l9] at h
  rcases pY (fun t ht=>by
   obtain ⟨d,hd,rfl⟩:=List.mem_map.1 ht
   exact (gu c (u6.members (k:=k) (t:=.aW k a b) hx d hd).1).1) h with h | ⟨d,hd,hm⟩
  ·exact .inl h
  ·obtain ⟨m0,hm0,rfl⟩:=List.mem_map.1 hd
   exact .inr ⟨m0,hm0,hm⟩
 ·exact .inr ⟨x,by rw [bu hn];exact List.mem_cons_self ..,h⟩
theorem wR {c:Int} {x:Tm} (h:cZ x=true):cZ (aG c x)=true:=by
 cases x with
 | set l=>rw [il];split<;>rfl
 | eps=>rfl
 | not a=>
  cases a with
  | set l=>
   cases l with
   | nil=>rfl
   | cons _ _=>simp [cZ] at h
  | _=>simp [cZ] at h
 | _=>simp [cZ] at h
theorem qC:∀ (x y z:Tm),Cn x->Cn y->au (au x y) z=au x (au y z):=by
 intro x
 induction x with
 | chain a b iha ihb=>
  intro y z hx hy
  by_cases hyv:y=aF
  ·rw [hyv,aH,aQ,aH]
  by_cases hye:y=eps
  ·rw [hye,ai,bA]
  by_cases hzv:z=aF
  ·rw [hzv,aH,aH,aH]
  by_cases iy:z=eps
  ·rw [iy,ai,ai]
  rw [au,if_neg hyv,if_neg hye,iha _ _ hx.1 (fD b y hx.2.1 hy),ihb _ _ hx.2.1 hy]
  by_cases hyz:au y z=aF
  ·rw [hyz,aH,aH,aH]
  by_cases adq:au y z=eps
  ·exact absurd (BV hy adq).1 hye
  conv=>rhs;rw [au,if_neg hyz,if_neg adq]
 | eps=>intro y z _ _;rw [bA,bA]
 | set l=>
  intro y z _ hy
  by_cases hl:Tm.set l=aF
  ·rw [hl,aQ,aQ,aQ]
  by_cases hyv:y=aF
  ·rw [hyv,aH,aQ,aH]
  by_cases hye:y=eps
  ·rw [hye,ai,bA]
  by_cases hzv:z=aF
  ·rw [hzv,aH,aH,aH]
  by_cases iy:z=eps
  ·rw [iy,ai,ai]
  rw [bE rfl hl (by simp) hyv hye,au,if_neg hzv,if_neg iy]
 | _=>
  intro y z _ hy
  by_cases hyv:y=aF
  ·rw [hyv,aH,aQ,aH]
  by_cases hye:y=eps
  ·rw [hye,ai,bA]
  by_cases hzv:z=aF
  ·rw [hzv,aH,aH,aH]
  by_cases iy:z=eps
  ·rw [iy,ai,ai]
  rw [bE rfl (by simp) (by simp) hyv hye,au,if_neg hzv,if_neg iy]
end Go.Proofs.YtfolanohokflkaaGreatDoor
namespace Go.Proofs.YtfolanohokflkaaGreatDoor
open Tm (eps)
theorem U_ {k:Bool} {l:List ah} {s:ah} (h:f_ k l=some s) (hl:∀ x∈l,Tidy x) {c:Int} (hc:aD c=true):dD s c=true↔if k=true then ∀ x∈l,dD x c=true else ∃ x∈l,dD x c=true:=by
 cases l with
 | nil=>cases h
 | cons a r=>
  simp only [f_,Option.some.injEq] at h
  have:=Be k (w:=[c]) (fun x hx=>by simp at hx;rw [hx];exact hc) r a (hl a (List.mem_cons_self ..)) (fun x hx=>hl x (List.mem_cons_of_mem _ hx))
  rw [h] at this
  have e:∀ x:ah,wd (.set x) [c]↔dD x c=true:=fun x=>⟨fun ⟨d,hd,hx⟩=>by cases hd;exact hx,fun hx=>⟨c,rfl,hx⟩⟩
  rw [e] at this
  rw [this]
  unfold oC
  cases k
  ·simp only [Bool.false_eq_true,if_false]
   constructor
   ·rintro ⟨t,ht,hw⟩
    obtain ⟨x,hx,rfl⟩:=List.mem_map.1 ht
    exact ⟨x,hx,(e x).1 hw⟩
   ·rintro ⟨x,hx,hw⟩
    exact ⟨_,List.mem_map.2 ⟨x,hx,rfl⟩,(e x).2 hw⟩
  ·simp only [if_true]
   constructor
   ·intro h x hx
    exact (e x).1 (h _ (List.mem_map.2 ⟨x,hx,rfl⟩))
   ·intro h t ht
    obtain ⟨x,hx,rfl⟩:=List.mem_map.1 ht
    exact (e x).2 (h x hx)
def comb (k:Bool) (F:List Tm) (c:Int):Prop:=if k=true then ∀ s,Tm.set s∈F->dD s c=true else ∃ s,Tm.set s∈F/\dD s c=true
structure T9 (k:Bool) (F F':List Tm):Prop where
 out:∀ x,aP x=Option.none->x≠bG k->(x∈F↔x∈F')
 sets:∀ c,aD c=true->(comb k F c↔comb k F' c)
 some:k=true->((∃ s,Tm.set s∈F)↔∃ s,Tm.set s∈F')
theorem T9.symm {k:Bool} {F F':List Tm} (h:T9 k F F'):T9 k F' F:=⟨fun x h1 h2=>(h.out x h1 h2).symm,fun c hc=>(h.sets c hc).symm,fun e=>(h.some e).symm⟩
theorem lG {k:Bool} {F:List Tm} (h:∃ s,Tm.set s∈F):∃ s,f_ k (F.filterMap aP)=Option.some s:=by
 obtain ⟨s,hs⟩:=h
 have:=b_.2 hs
 cases hq:F.filterMap aP with
 | nil=>rw [hq] at this;simp at this
 | cons a r=>exact ⟨_,rfl⟩
theorem gQ {k:Bool} {F:List Tm} (hF:∀ t∈F,gp t) {s:ah} (h:f_ k (F.filterMap aP)=Option.some s) {c:Int} (hc:aD c=true):dD s c=true↔comb k F c:=by
 rw [U_ h (fun x hx=>hF _ (b_.1 hx)) hc]
 unfold comb
 cases k
 ·simp only [Bool.false_eq_true,if_false]
  exact ⟨fun ⟨x,hx,h⟩=>⟨x,b_.1 hx,h⟩,fun ⟨x,hx,h⟩=>⟨x,b_.2 hx,h⟩⟩
 ·simp only [if_true]
  exact ⟨fun h x hx=>h x (b_.2 hx),fun h x hx=>h x (b_.1 hx)⟩
theorem wS {k:Bool} {F:List Tm} {s:ah} (h:f_ k (F.filterMap aP)=Option.some s):∃ x,Tm.set x∈F:=by
 cases hq:F.filterMap aP with
 | nil=>rw [hq] at h;cases h
 | cons a r=>exact ⟨a,b_.1 (by rw [hq];exact List.mem_cons_self ..)⟩
theorem p8 {k:Bool} {F:List Tm} (hF:∀ t∈F,gp t) {s:ah} (h:f_ k (F.filterMap aP)=Option.some s):Tidy s:=nN h fun _ hx=>hF _ (b_.1 hx)
theorem Aa {k:Bool} {F F':List Tm} (hF:∀ t∈F,gp t) (hF':∀ t∈F',gp t) (h:T9 k F F') {x:Tm} (hu:x≠bG k) (hx:x∈aV k F):x∈aV k F':=by
 rcases aN.1 hx with ⟨h1,h2⟩ | ⟨s,hs,rfl⟩
 ·exact aN.2 (.inl ⟨(h.out x h2 hu).1 h1,h2⟩)
 ·have hsome:∃ s',f_ k (F'.filterMap aP)=Option.some s':=by
   cases k
   ·cases hq:f_ false (F'.filterMap aP) with
    | some s'=>exact ⟨s',rfl⟩
    | none=>
     exfalso
     refine hu ?_
     have he:s=[]:=iW (p8 hF hs) (show Tidy [] from trivial) (fun c hc=>by
      rw [fG]
      cases hi:dD s c with
      | false=>rfl
      | true=>
       have:=(h.sets c hc).1 ((gQ hF hs hc).1 hi)
       obtain ⟨s1,hs1,_⟩:=this
       obtain ⟨s2,hs2⟩:=lG (k:=false) ⟨s1,hs1⟩
       rw [hq] at hs2;cases hs2)
     rw [he];rfl
   ·exact lG ((h.some rfl).1 (wS hs))
  obtain ⟨s',hs'⟩:=hsome
  have he:s=s':=iW (p8 hF hs) (p8 hF' hs') (fun c hc=>by
   have:=((gQ hF hs hc).trans (h.sets c hc)).trans (gQ hF' hs' hc).symm
   cases h1:dD s c<;>cases h2:dD s' c<;>simp [h1,h2] at this ⊢)
  exact aN.2 (.inr ⟨s',hs',by rw [he]⟩)
theorem EY (k:Bool):eT k≠bG k:=by cases k<;>simp [eT,bG]
theorem Zk {k:Bool} {F F':List Tm} (hF:∀ t∈F,gp t) (hF':∀ t∈F',gp t) (h:T9 k F F'):oV k (aV k F)=oV k (aV k F'):=by
 have e:(aV k F).filter (fun t=>decide (t≠bG k))=(aV k F').filter (fun t=>decide (t≠bG k)):=by
  refine Je (zV (nP hF).2 _) (zV (nP hF').2 _) fun x=>?_
  simp only [List.mem_filter,decide_eq_true_eq]
  exact ⟨fun ⟨h1,h2⟩=>⟨Aa hF hF' h h2 h1,h2⟩,fun ⟨h1,h2⟩=>⟨Aa hF' hF h.symm h2 h1,h2⟩⟩
 have z:eT k∈aV k F↔eT k∈aV k F':=⟨Aa hF hF' h (EY k),Aa hF' hF h.symm (EY k)⟩
 unfold oV
 by_cases hz:eT k∈aV k F
 ·rw [if_pos hz,if_pos (z.1 hz)]
 ·rw [if_neg hz,if_neg (fun q=>hz (z.2 q)),e]
theorem jW {k:Bool} {l:List Tm} (h:∀ t∈l,Cn t):∀ t∈l.flatMap (memT k),gp t:=fun t ht=>by
 obtain ⟨d,hd,hm⟩:=List.mem_flatMap.1 ht
 exact ((h d hd).members t hm).1.ok
theorem tZ {k:Bool} {l l':List Tm} (hl:∀ t∈l,Cn t) (hl':∀ t∈l',Cn t) (h:T9 k (l.flatMap (memT k)) (l'.flatMap (memT k))):aj k l=aj k l':=Zk (jW hl) (jW hl') h
end Go.Proofs.YtfolanohokflkaaGreatDoor
namespace Go.Proofs.YtfolanohokflkaaGreatDoor
open Tm (eps)
theorem Ab {k:Bool} {F:List Tm} (hF:∀ t∈F,gp t) (h:eT k∈F):eT k∈aV k F:=by
 cases k
 ·exact aN.2 (.inl ⟨h,rfl⟩)
 ·obtain ⟨s,hs⟩:=lG (k:=true) (F:=F) ⟨[],h⟩
  refine aN.2 (.inr ⟨s,hs,?_⟩)
  have:s=[]:=iW (p8 hF hs) (show Tidy [] from trivial) (fun c hc=>by
   rw [fG]
   cases hi:dD s c with
   | false=>rfl
   | true=>
    have:=(gQ hF hs hc).1 hi
    have:=this [] h
    rw [fG] at this;cases this)
  rw [this];rfl
theorem RS {k:Bool} {F F':List Tm} (hF':∀ t∈F',gp t) (hF:∀ t∈F,gp t) (hs:∀ t∈F,t∈F') (h:eT k∈aV k F):eT k∈aV k F':=by
 cases k
 ·rcases aN.1 h with ⟨h1,h2⟩ | ⟨s,_,e⟩
  ·exact aN.2 (.inl ⟨hs _ h1,h2⟩)
  ·cases e
 ·rcases aN.1 h with ⟨_,h2⟩ | ⟨s,h1,e⟩
  ·cases h2
  ·obtain rfl:s=[]:=by cases e;rfl
   obtain ⟨x,hx⟩:=wS h1
   obtain ⟨s',hs'⟩:=lG (k:=true) (F:=F') ⟨x,hs _ hx⟩
   refine aN.2 (.inr ⟨s',hs',?_⟩)
   have:s'=[]:=iW (p8 hF' hs') (show Tidy [] from trivial) (fun c hc=>by
    rw [fG]
    cases hi:dD s' c with
    | false=>rfl
    | true=>
     have h3:comb true F' c:=(gQ hF' hs' hc).1 hi
     have h4:comb true F c:=fun q hq=>h3 q (hs _ hq)
     have:=(gQ hF h1 hc).2 h4
     rw [fG] at this;cases this)
   rw [this];rfl
theorem je {k:Bool} {l:List Tm} (h:eT k∈aV k (l.flatMap (memT k))):aj k l=eT k:=by unfold aj oV;rw [if_pos h]
theorem mh {k:Bool} {t:Tm} (h:cZ t=true):dK k t=true:=by
 cases t with
 | aW k' a b=>simp [cZ] at h
 | _=>rfl
theorem EZ {k:Bool} {l:List Tm} (hl:∀ t∈l,Cn t) (hz:eT k∉aV k (l.flatMap (memT k))):T9 k (memT k (aj k l)) (l.flatMap (memT k)):=by
 have hok:=jW (k:=k) hl
 have hN:∀ m∈aV k (l.flatMap (memT k)),dK k m=true:=fun m hm=>by
  rcases aN.1 hm with ⟨h,_⟩ | ⟨s,_,rfl⟩
  ·obtain ⟨d,hd,hm⟩:=List.mem_flatMap.1 h
   exact ((hl d hd).members m hm).2
  ·rfl
 obtain ⟨A,hA⟩:∃ A,(aV k (l.flatMap (memT k))).filter (fun t=>decide (t≠bG k))=A:=⟨_,rfl⟩
 have hAm:∀ x,x∈A↔x∈aV k (l.flatMap (memT k))/\x≠bG k:=fun x=>by rw [<-hA,List.mem_filter];simp
 have hg:∀ x,x≠bG k->(x∈memT k (aj k l)↔x∈A):=by
  intro x hx
  unfold aj oV
  rw [if_neg hz,hA]
  cases A with
  | nil=>
   show x∈memT k (bG k)↔_
   rw [bu (mh (tY k))]
   simp [hx]
  | cons a r=>
   show x∈memT k (gX k (a::r))↔_
   rw [nQ k (by simp) (fun m hm=>hN m ((hAm m).1 hm).1)]
 have hset:∀ s,Tm.set s∈memT k (aj k l)->Tm.set s≠bG k->f_ k ((l.flatMap (memT k)).filterMap aP)=Option.some s:=fun s hs hu=>by
  rcases aN.1 ((hAm _).1 ((hg _ hu).1 hs)).1 with ⟨_,h⟩ | ⟨s',h1,h2⟩
  ·cases h
  ·cases h2;exact h1
 have hset':∀ s,f_ k ((l.flatMap (memT k)).filterMap aP)=Option.some s->Tm.set s≠bG k->Tm.set s∈memT k (aj k l):=fun s hs hu=>
  (hg _ hu).2 ((hAm _).2 ⟨aN.2 (.inr ⟨s,hs,rfl⟩),hu⟩)
 refine ⟨fun x h1 h2=>?_,fun c hc=>?_,fun hk=>?_⟩
 ·rw [hg x h2,hAm]
  constructor
  ·rintro ⟨h,_⟩
   rcases aN.1 h with ⟨h,_⟩ | ⟨s,_,rfl⟩
   ·exact h
   ·cases h1
  ·intro h
   exact ⟨aN.2 (.inl ⟨h,h1⟩),h2⟩
 ·cases k
  ·constructor
   ·rintro ⟨s,hs,hi⟩
    have hu:Tm.set s≠bG false:=by rintro e;cases e;rw [fG] at hi;cases hi
    exact (gQ hok (hset s hs hu) hc).1 hi
   ·intro h
    obtain ⟨s,hs⟩:=lG (k:=false) (let ⟨s0,hs0,_⟩:=h;⟨s0,hs0⟩)
    have hi:=(gQ hok hs hc).2 h
    have hu:Tm.set s≠bG false:=by rintro e;cases e;rw [fG] at hi;cases hi
    exact ⟨s,hset' s hs hu,hi⟩
  ·have hu:∀ s,Tm.set s≠bG true:=fun s e=>by cases e
   constructor
   ·intro h q hq
    obtain ⟨s,hs⟩:=lG (k:=true) ⟨q,hq⟩
    exact (gQ hok hs hc).1 (h s (hset' s hs (hu s))) q hq
   ·intro h s hs
    exact (gQ hok (hset s hs (hu s)) hc).2 h
 ·subst hk
  have hu:∀ s,Tm.set s≠bG true:=fun s e=>by cases e
  constructor
  ·rintro ⟨s,hs⟩
   exact wS (hset s hs (hu s))
  ·intro h
   obtain ⟨s,hs⟩:=lG (k:=true) h
   exact ⟨s,hset' s hs (hu s)⟩
theorem Jz {k:Bool} {F G:List Tm} {c:Int}:comb k (F++G) c↔if k=true then comb k F c/\comb k G c else comb k F c\/comb k G c:=by
 unfold comb
 cases k
 ·simp only [Bool.false_eq_true,if_false,List.mem_append]
  exact ⟨fun ⟨s,h,hi⟩=>h.imp (fun h=>⟨s,h,hi⟩) (fun h=>⟨s,h,hi⟩),fun h=>h.elim (fun ⟨s,h,hi⟩=>⟨s,.inl h,hi⟩) (fun ⟨s,h,hi⟩=>⟨s,.inr h,hi⟩)⟩
 ·simp only [if_true,List.mem_append]
  exact ⟨fun h=>⟨fun s hs=>h s (.inl hs),fun s hs=>h s (.inr hs)⟩,fun h s hs=>hs.elim (h.1 s) (h.2 s)⟩
theorem T9.app {k:Bool} {F F':List Tm} (h:T9 k F F') (G:List Tm):T9 k (F++G) (F'++G):=by
 refine ⟨fun x h1 h2=>by rw [List.mem_append,List.mem_append,h.out x h1 h2],fun c hc=>by rw [Jz,Jz,h.sets c hc],fun hk=>?_⟩
 have:=h.some hk
 constructor
 ·rintro ⟨s,hs⟩
  rcases List.mem_append.1 hs with hs | hs
  ·obtain ⟨q,hq⟩:=this.1 ⟨s,hs⟩
   exact ⟨q,List.mem_append_left _ hq⟩
  ·exact ⟨s,List.mem_append_right _ hs⟩
 ·rintro ⟨s,hs⟩
  rcases List.mem_append.1 hs with hs | hs
  ·obtain ⟨q,hq⟩:=this.2 ⟨s,hs⟩
   exact ⟨q,List.mem_append_left _ hq⟩
  ·exact ⟨s,List.mem_append_right _ hs⟩
theorem lH {k:Bool} {X Y:List Tm} (hX:∀ t∈X,Cn t) (hY:∀ t∈Y,Cn t):aj k (aj k X::Y)=aj k (X++Y):=by
 have hXY:∀ t∈X++Y,Cn t:=fun t ht=>(List.mem_append.1 ht).elim (hX t) (hY t)
 have hg:∀ t∈aj k X::Y,Cn t:=fun t ht=>(List.mem_cons.1 ht).elim (fun e=>by rw [e];exact kN hX) (hY t)
 by_cases hz:eT k∈aV k (X.flatMap (memT k))
 ·rw [je (l:=X++Y) (RS (jW hXY) (jW hX) (fun t ht=>by rw [List.flatMap_append];exact List.mem_append_left _ ht) hz),je hz]
  rw [je hz] at hg
  refine je (Ab (jW hg) ?_)
  rw [List.flatMap_cons,bu (mh (yh k))]
  exact List.mem_append_left _ (List.mem_cons_self ..)
 ·refine tZ hg hXY ?_
  rw [List.flatMap_cons,List.flatMap_append]
  exact (EZ hX hz).app _
end Go.Proofs.YtfolanohokflkaaGreatDoor
namespace Go.Proofs.YtfolanohokflkaaGreatDoor
open Tm (eps)
theorem fM {k:Bool} {X Y:List Tm} (hX:∀ t∈X,Cn t) (h:∀ t,t∈X↔t∈Y):aj k X=aj k Y:=by
 have hf:∀ t,t∈X.flatMap (memT k)↔t∈Y.flatMap (memT k):=fun t=>by simp only [List.mem_flatMap,h]
 refine tZ hX (fun t ht=>hX t ((h t).2 ht)) ⟨fun x _ _=>hf x,fun c _=>?_,fun _=>?_⟩
 ·unfold comb
  simp only [hf]
 ·simp only [hf]
theorem JA {k:Bool} {P Q Q':List Tm} (hP:∀ t∈P,Cn t) (hQ:∀ t∈Q,Cn t) (hQ':∀ t∈Q',Cn t) (h:aj k Q=aj k Q'):aj k (P++Q)=aj k (P++Q'):=by
 rw [fM (X:=P++Q) (Y:=Q++P) (fun t ht=>(List.mem_append.1 ht).elim (hP t) (hQ t)) (fun t=>by simp [List.mem_append,or_comm]),<-lH hQ hP,h,lH hQ' hP]
 exact fM (fun t ht=>(List.mem_append.1 ht).elim (hQ' t) (hP t)) (fun t=>by simp [List.mem_append,or_comm])
theorem nW {c:Int} {l:List Tm} (h:∀ t∈l,Cn t):∀ t∈l.map (aG c),Cn t:=fun t ht=>by
 obtain ⟨d,hd,rfl⟩:=List.mem_map.1 ht
 exact (gu c (h d hd)).1
theorem Gw {k:Bool} {l:List Tm} (h:∀ t∈l,Cn t):∀ t∈l.flatMap (memT k),Cn t:=fun t ht=>by
 obtain ⟨d,hd,hm⟩:=List.mem_flatMap.1 ht
 exact ((h d hd).members t hm).1
theorem sj {c:Int} {k:Bool} {d:Tm} (hd:Cn d):aG c d=aj k ((memT k d).map (aG c)):=by
 rcases ja k d with ⟨a,b,rfl⟩ | hn
 ·exact l9 c k a b
 ·rw [bu hn,List.map_cons,List.map_nil,group_one' (gu c hd).1]
theorem JB {c:Int} {k:Bool}:∀ {l:List Tm},(∀ t∈l,Cn t)->aj k (l.map (aG c))=aj k ((l.flatMap (memT k)).map (aG c))
 | [],_=>rfl
 | d::r,h=>by
  have hr:∀ t∈r,Cn t:=fun t ht=>h t (List.mem_cons_of_mem _ ht)
  have hd:=h d (List.mem_cons_self ..)
  have hm:∀ t∈memT k d,Cn t:=fun t ht=>(hd.members t ht).1
  rw [List.map_cons,sj (k:=k) hd,lH (nW hm) (nW hr),List.flatMap_cons,List.map_append]
  exact JA (nW hm) (nW hr) (nW (Gw hr)) (JB hr)
theorem Va (c:Int) (k:Bool):aG c (eT k)=eT k:=by cases k<;>rfl
theorem Vb (c:Int) (k:Bool):aG c (bG k)=bG k:=by cases k<;>rfl
theorem JC {c:Int} {k:Bool} {s:ah} {x:Tm} (h:x∈memT k (aG c (.set s))):x=if dD s c=true then eps else aF:=by
 rw [il] at h
 split at h
 ·rename_i hi
  rw [bu rfl] at h
  simpa [hi] using h
 ·rename_i hi
  rw [bu rfl] at h
  simpa [hi] using h
theorem Zl {c:Int} (hc:aD c=true) {k:Bool} {A B:List Tm} (hA:∀ t∈A,Cn t) (hB:∀ t∈B,Cn t) (h:T9 k A B):aj k (A.map (aG c))=aj k (B.map (aG c)):=by
 by_cases hz:k=true/\¬ comb k A c
 ·obtain ⟨rfl,hn⟩:=hz
  have key:∀ F:List Tm,(∀ t∈F,Cn t)->¬ comb true F c->aj true (F.map (aG c))=eT true:=fun F hF hn=>by
   refine je (Ab (jW (nW hF)) ?_)
   have:∃ s,Tm.set s∈F/\dD s c=false:=by
    refine Classical.byContradiction fun hne=>hn fun s hs=>?_
    cases hi:dD s c with
    | true=>rfl
    | false=>exact absurd ⟨s,hs,hi⟩ hne
   obtain ⟨s,hs,hi⟩:=this
   refine List.mem_flatMap.2 ⟨_,List.mem_map.2 ⟨_,hs,rfl⟩,?_⟩
   rw [il,if_neg (by rw [hi];simp)]
   exact List.mem_cons_self ..
  rw [key A hA hn,key B hB (fun q=>hn ((h.sets c hc).2 q))]
 ·have hall:k=true->comb k A c:=fun e=>Classical.byContradiction fun q=>hz ⟨e,q⟩
  have one:∀ {A B:List Tm},(∀ t∈A,Cn t)->(∀ t∈B,Cn t)->T9 k A B->(k=true->comb k A c) ->
    (∀ x,aP x=Option.none->x≠bG k->x∈(A.map (aG c)).flatMap (memT k)->x∈(B.map (aG c)).flatMap (memT k)) /\
    (∀ s,s≠[]->Tm.set s∈(A.map (aG c)).flatMap (memT k)->Tm.set s∈(B.map (aG c)).flatMap (memT k)) /\
    (k=true->∀ s,Tm.set s∈(A.map (aG c)).flatMap (memT k)->Tm.set s∈(B.map (aG c)).flatMap (memT k)):=by
   intro A B hA hB h hall
   have from':∀ x,x∈(A.map (aG c)).flatMap (memT k)->(∃ a∈A,aP a=Option.none/\a≠bG k/\x∈memT k (aG c a))\/x=bG k\/(∃ s,Tm.set s∈A/\x=if dD s c=true then eps else aF):=fun x hx=>by
    obtain ⟨d,hd,hm⟩:=List.mem_flatMap.1 hx
    obtain ⟨a,ha,rfl⟩:=List.mem_map.1 hd
    cases hs:aP a with
    | some s=>
     have e:=l_ hs
     subst e
     exact .inr (.inr ⟨s,ha,JC hm⟩)
    | none=>
     by_cases hu:a=bG k
     ·subst hu
      rw [Vb,bu (mh (tY k))] at hm
      exact .inr (.inl (by simpa using hm))
     ·exact .inl ⟨a,ha,hs,hu,hm⟩
   have to':∀ x a,a∈A->aP a=Option.none->a≠bG k->x∈memT k (aG c a)->x∈(B.map (aG c)).flatMap (memT k):=fun x a ha h1 h2 hm=>
    List.mem_flatMap.2 ⟨_,List.mem_map.2 ⟨a,(h.out a h1 h2).1 ha,rfl⟩,hm⟩
   refine ⟨fun x h1 h2 hx=>?_,fun s hs hx=>?_,fun hk s hx=>?_⟩
   ·rcases from' x hx with ⟨a,ha,e1,e2,hm⟩ | rfl | ⟨s,hs,rfl⟩
    ·exact to' x a ha e1 e2 hm
    ·exact absurd rfl h2
    ·split at h1
     ·rename_i hi
      rw [if_pos hi]
      have:∃ q,Tm.set q∈B/\dD q c=true:=by
       cases k
       ·exact (h.sets c hc).1 ⟨s,hs,hi⟩
       ·obtain ⟨q,hq⟩:=(h.some rfl).1 ⟨s,hs⟩
        exact ⟨q,hq,(h.sets c hc).1 (hall rfl) q hq⟩
      obtain ⟨q,hq,hqi⟩:=this
      refine List.mem_flatMap.2 ⟨_,List.mem_map.2 ⟨_,hq,rfl⟩,?_⟩
      rw [il,if_pos hqi]
      exact List.mem_cons_self ..
     ·cases h1
   ·rcases from' _ hx with ⟨a,ha,e1,e2,hm⟩ | e | ⟨q,_,e⟩
    ·exact to' _ a ha e1 e2 hm
    ·cases k
     ·cases e;exact absurd rfl hs
     ·cases e
    ·split at e
     ·cases e
     ·cases e;exact absurd rfl hs
   ·subst hk
    rcases from' _ hx with ⟨a,ha,e1,e2,hm⟩ | e | ⟨q,hq,e⟩
    ·exact to' _ a ha e1 e2 hm
    ·cases e
    ·rw [if_pos (hall rfl q hq)] at e
     cases e
  have adr:k=true->comb k B c:=fun e=>(h.sets c hc).1 (hall e)
  have o1:=one hA hB h hall
  have o2:=one hB hA h.symm adr
  refine tZ (nW hA) (nW hB) ⟨fun x h1 h2=>⟨o1.1 x h1 h2,o2.1 x h1 h2⟩,fun d _=>?_,fun hk=>?_⟩
  ·unfold comb
   cases hk:k
   ·simp only [Bool.false_eq_true,if_false]
    subst hk
    constructor
    ·rintro ⟨s,hs,hi⟩
     exact ⟨s,o1.2.1 s (by rintro rfl;rw [fG] at hi;cases hi) hs,hi⟩
    ·rintro ⟨s,hs,hi⟩
     exact ⟨s,o2.2.1 s (by rintro rfl;rw [fG] at hi;cases hi) hs,hi⟩
   ·simp only [if_true]
    subst hk
    exact ⟨fun q s hs=>q s (o2.2.2 rfl s hs),fun q s hs=>q s (o1.2.2 rfl s hs)⟩
  ·exact ⟨fun ⟨s,hs⟩=>⟨s,o1.2.2 hk s hs⟩,fun ⟨s,hs⟩=>⟨s,o2.2.2 hk s hs⟩⟩
theorem RU {c:Int} (hc:aD c=true) {k:Bool} {l:List Tm} (hl:∀ t∈l,Cn t):aG c (aj k l)=aj k (l.map (aG c)):=by
 rw [JB hl]
 by_cases hz:eT k∈aV k (l.flatMap (memT k))
 ·rw [je hz,Va]
  symm
  refine je (Ab (jW (nW (Gw hl))) ?_)
  cases k
  ·rcases aN.1 hz with ⟨h1,_⟩ | ⟨s,_,e⟩
   ·exact List.mem_flatMap.2 ⟨_,List.mem_map.2 ⟨_,h1,rfl⟩,List.mem_cons_self ..⟩
   ·cases e
  ·rcases aN.1 hz with ⟨_,h⟩ | ⟨s,h1,e⟩
   ·cases h
   ·obtain rfl:s=[]:=by cases e;rfl
    have hn:¬ comb true (l.flatMap (memT true)) c:=fun q=>by
     have:=(gQ (jW hl) h1 hc).2 q
     rw [fG] at this;cases this
    have:∃ s,Tm.set s∈l.flatMap (memT true)/\dD s c=false:=by
     refine Classical.byContradiction fun hne=>hn fun s hs=>?_
     cases hi:dD s c with
     | true=>rfl
     | false=>exact absurd ⟨s,hs,hi⟩ hne
    obtain ⟨s,hs,hi⟩:=this
    refine List.mem_flatMap.2 ⟨_,List.mem_map.2 ⟨_,hs,rfl⟩,?_⟩
    rw [il,if_neg (by rw [hi];simp)]
    exact List.mem_cons_self ..
 ·rw [sj (k:=k) (kN hl)]
  exact Zl hc (fun t ht=>((kN hl).members t ht).1) (Gw hl) (EZ hl hz)
theorem RV {d:Tm} (h:Cn d):jO (jO d)=d:=by
 cases d with
 | not a=>
  show jO a=_
  have:=h.2.1
  cases a<;>simp [O3] at this<;>rfl
 | _=>rfl
theorem Zm {c:Int} {x:Tm} (h:Cn x):aG c (jO x)=jO (aG c x):=by
 cases x with
 | not a=>
  show aG c a=jO (jO (aG c a))
  rw [RV (gu c (show Cn a from h.1)).1]
 | _=>rfl
end Go.Proofs.YtfolanohokflkaaGreatDoor
namespace Go.Proofs.YtfolanohokflkaaGreatDoor
open Tm (eps)
def eP:Tm->Nat
 | .set _=>1
 | .eps=>1
 | .chain a b=>eP a+eP b+1
 | .star a=>eP a+1
 | .not a=>eP a+1
 | .aW _ a b=>eP a+eP b+1
inductive dW:Tm->Tm->Tm->Tm->Prop where
 | here (t z:Tm):dW t z t z
 | left {a b z h z':Tm}:dW a (au b z) h z'->dW (.chain a b) z h z'
 | right {a b z h z':Tm}:dW b z h z'->(bL b=false\/eP h<eP b)->dW (.chain a b) z h z'
 | star {a z h z':Tm}:dW a (au (.star a) z) h z'->dW (.star a) z h z'
 | neg {a z h z':Tm}:dW a z h z'->dW (.not a) z h z'
 | mem {k:Bool} {a b m z h z':Tm}:m∈memT k (.aW k a b)->dW m z h z'->dW (.aW k a b) z h z'
theorem Ve (k:Bool):∀ (t:Tm) {m:Tm},m∈memT k t->eP m<=eP t
 | t,m,h=>by
  rcases ja k t with ⟨a,b,rfl⟩ | hn
  ·rw [iq] at h
   rcases List.mem_cons.1 h with rfl | h
   ·simp only [eP];omega
   ·have:=Ve k b h
    simp only [eP];omega
  ·rw [bu hn] at h
   simp at h;subst h
   exact Nat.le_refl _
 termination_by t=>t
theorem vg {k:Bool} {a b m:Tm} (h:m∈memT k (.aW k a b)):eP m<eP (.aW k a b):=by
 rw [iq] at h
 rcases List.mem_cons.1 h with rfl | h
 ·simp only [eP];omega
 ·have:=Ve k b h
  simp only [eP];omega
theorem dW.cn {t z h z':Tm} (p:dW t z h z') (ht:Cn t) (hz:Cn z):Cn h/\Cn z':=by
 induction p with
 | here=>exact ⟨ht,hz⟩
 | left _ ih=>exact ih ht.1 (fD _ _ ht.2.1 hz)
 | right _ _ ih=>exact ih ht.2.1 hz
 | star _ ih=>exact ih ht.1 (fD _ _ ht hz)
 | neg _ ih=>exact ih ht.1 hz
 | mem hm _ ih=>exact ih (ht.members _ hm).1 hz
theorem dW.shift {t z h z':Tm} (p:dW t z h z') (ht:Cn t) (hz:Cn z) (y:Tm):dW t (au z y) h (au z' y):=by
 induction p with
 | here=>exact .here _ _
 | left _ ih=>
  refine .left ?_
  rw [<-qC _ _ _ ht.2.1 hz]
  exact ih ht.1 (fD _ _ ht.2.1 hz)
 | right _ hr ih=>exact .right (ih ht.2.1 hz) hr
 | star _ ih=>
  refine .star ?_
  rw [<-qC _ _ _ ht hz]
  exact ih ht.1 (fD _ _ ht hz)
 | neg _ ih=>exact .neg (ih ht.1 hz)
 | mem hm _ ih=>exact .mem hm (ih (ht.members _ hm).1 hz)
theorem dW.sz {t z h z':Tm} (p:dW t z h z'):eP h<=eP t:=by
 induction p with
 | here=>exact Nat.le_refl _
 | left _ ih=>simp only [eP];omega
 | right _ _ ih=>simp only [eP];omega
 | star _ ih=>simp only [eP];omega
 | neg _ ih=>simp only [eP];omega
 | mem hm _ ih=>have:=vg hm;omega
theorem dW.trans {t z h z1 h2 z2:Tm} (p:dW t z h z1) (q:dW h z1 h2 z2):dW t z h2 z2:=by
 induction p with
 | here=>exact q
 | left _ ih=>exact .left (ih q)
 | right _ hr ih=>exact .right (ih q) (hr.imp id fun h=>Nat.lt_of_le_of_lt q.sz h)
 | star _ ih=>exact .star (ih q)
 | neg _ ih=>exact .neg (ih q)
 | mem hm _ ih=>exact .mem hm (ih q)
theorem dW.comp {t h z h2 z2:Tm} (p:dW t eps h z) (ht:Cn t) (q:dW h eps h2 z2):dW t eps h2 (au z2 z):=by
 have hh:=(p.cn ht trivial).1
 have:=q.shift hh trivial z
 rw [bA] at this
 exact p.trans this
theorem dW.same {t z h z':Tm} (p:dW t z h z') (hs:eP t<=eP h):h=t/\z'=z:=by
 cases p with
 | here=>exact ⟨rfl,rfl⟩
 | left p=>have:=p.sz;simp only [eP] at hs;omega
 | right p _=>have:=p.sz;simp only [eP] at hs;omega
 | star p=>have:=p.sz;simp only [eP] at hs;omega
 | neg p=>have:=p.sz;simp only [eP] at hs;omega
 | mem hm p=>have:=p.sz;have:=vg hm;omega
theorem dW.nc {t z h z':Tm} (p:dW t z h z') (hc:bL h=false):bL t=false\/eP h<eP t:=by
 by_cases q:eP h<eP t
 ·exact .inr q
 ·rw [<-(p.same (by omega)).1];exact .inl hc
theorem oJ:∀ {u z:Tm},Cn u->au u z=aF->u=aF\/z=aF:=by
 intro u
 induction u with
 | chain a b iha ihb=>
  intro z hu h
  by_cases hzv:z=aF
  ·exact .inr hzv
  by_cases iy:z=eps
  ·rw [iy,ai] at h;cases h
  rw [au,if_neg hzv,if_neg iy] at h
  rcases iha hu.1 h with h | h
  ·exact absurd h hu.2.2.2.1
  ·rcases ihb hu.2.1 h with h | h
   ·exact absurd h hu.2.2.2.2.2.1
   ·exact .inr h
 | eps=>intro z _ h;rw [bA] at h;exact .inr h
 | set l=>
  intro z _ h
  by_cases hl:Tm.set l=aF
  ·exact .inl hl
  by_cases hzv:z=aF
  ·exact .inr hzv
  by_cases iy:z=eps
  ·rw [iy,ai] at h;exact .inl h
  rw [bE rfl hl (by simp) hzv iy] at h;cases h
 | _=>
  intro z _ h
  by_cases hzv:z=aF
  ·exact .inr hzv
  by_cases iy:z=eps
  ·rw [iy,ai] at h;cases h
  rw [bE rfl (by simp) (by simp) hzv iy] at h;cases h
theorem dW.follow {t z h z':Tm} (p:dW t z h z') (ht:Cn t) (hz:Cn z) (hzv:z≠aF):z'≠aF/\(z'=z\/∃ b z1,dW t z b z1/\z'=au b z1/\bL b=false/\b≠eps/\b≠aF/\z1≠aF/\(eP b<eP t\/(b=t/\oW t=true))):=by
 induction p with
 | here=>exact ⟨hzv,.inl rfl⟩
 | @left a b z h z' p ih=>
  obtain ⟨ha,hb,hac,MM,hae,hbv,hbe⟩:=ht
  have hv:au b z≠aF:=fun e=>(oJ hb e).elim hbv hzv
  obtain ⟨h1,h2⟩:=ih ha (fD _ _ hb hz) hv
  refine ⟨h1,?_⟩
  rcases h2 with rfl | ⟨q,z1,hq,e,h3,h4,h5,h6,h7⟩
  ·right
   cases b with
   | chain b1 b2=>
    obtain ⟨_,hb2,h3,h4,h5,h6,h7⟩:=hb
    by_cases iy:z=eps
    ·subst iy
     refine ⟨b1,au b2 eps,.right (.left (.here _ _)) (.inr (by simp only [eP];omega)),?_,h3,h5,h4,by rw [ai];exact h6,.inl (by simp only [eP];omega)⟩
     rw [ai,ai,bE h3 h4 h5 h6 h7]
    ·exact ⟨b1,au b2 z,.right (.left (.here _ _)) (.inr (by simp only [eP];omega)),by rw [au,if_neg hzv,if_neg iy],h3,h5,h4,fun e=>(oJ hb2 e).elim h6 hzv,.inl (by simp only [eP];omega)⟩
   | set l=>exact ⟨.set l,z,.right (.here _ _) (.inl rfl),rfl,rfl,hbe,hbv,hzv,.inl (by simp only [eP];omega)⟩
   | eps=>exact absurd rfl hbe
   | star q=>exact ⟨.star q,z,.right (.here _ _) (.inl rfl),rfl,rfl,hbe,hbv,hzv,.inl (by simp only [eP];omega)⟩
   | not q=>exact ⟨.not q,z,.right (.here _ _) (.inl rfl),rfl,rfl,hbe,hbv,hzv,.inl (by simp only [eP];omega)⟩
   | aW k q r=>exact ⟨.aW k q r,z,.right (.here _ _) (.inl rfl),rfl,rfl,hbe,hbv,hzv,.inl (by simp only [eP];omega)⟩
  ·exact .inr ⟨q,z1,.left hq,e,h3,h4,h5,h6,.inl (by have:=hq.sz;simp only [eP];omega)⟩
 | @right a b z h z' p hr ih=>
  obtain ⟨h1,h2⟩:=ih ht.2.1 hz hzv
  refine ⟨h1,h2.imp id ?_⟩
  rintro ⟨q,z1,hq,e,h3,h4,h5,h6,h7⟩
  exact ⟨q,z1,.right hq (hq.nc h3),e,h3,h4,h5,h6,.inl (by have:=hq.sz;simp only [eP];omega)⟩
 | @star a z h z' p ih=>
  have hv:au (.star a) z≠aF:=fun e=>(oJ ht e).elim (by simp) hzv
  obtain ⟨h1,h2⟩:=ih ht.1 (fD _ _ ht hz) hv
  refine ⟨h1,?_⟩
  rcases h2 with rfl | ⟨q,z1,hq,e,h3,h4,h5,h6,h7⟩
  ·exact .inr ⟨.star a,z,.here _ _,rfl,rfl,by simp,by simp,hzv,.inr ⟨rfl,rfl⟩⟩
  ·exact .inr ⟨q,z1,.star hq,e,h3,h4,h5,h6,.inl (by have:=hq.sz;simp only [eP];omega)⟩
 | neg _ ih=>
  obtain ⟨h1,h2⟩:=ih ht.1 hz hzv
  refine ⟨h1,h2.imp id ?_⟩
  rintro ⟨q,z1,hq,e,h3,h4,h5,h6,h7⟩
  exact ⟨q,z1,.neg hq,e,h3,h4,h5,h6,.inl (by have:=hq.sz;simp only [eP];omega)⟩
 | mem hm _ ih=>
  obtain ⟨h1,h2⟩:=ih (ht.members _ hm).1 hz hzv
  refine ⟨h1,h2.imp id ?_⟩
  rintro ⟨q,z1,hq,e,h3,h4,h5,h6,h7⟩
  exact ⟨q,z1,.mem hm hq,e,h3,h4,h5,h6,.inl (by have:=hq.sz;have:=vg hm;omega)⟩
end Go.Proofs.YtfolanohokflkaaGreatDoor
