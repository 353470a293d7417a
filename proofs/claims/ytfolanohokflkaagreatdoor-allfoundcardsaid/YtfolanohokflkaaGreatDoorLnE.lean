import Derived.Test.YtfolanohokflkaaGreatDoorPSpec
namespace Go.Proofs.YtfolanohokflkaaGreatDoor
open Tm (eps)
def bY:Tm->Bool
 | .set _=>true
 | .eps=>true
 | .not (.set [])=>true
 | _=>false
inductive qO:Tm->Tm->Prop where
 | self (x:Tm):qO x x
 | neg {a y:Tm}:qO a y->qO (.not a) y
 | mem {k:Bool} {a b m y:Tm}:m∈memT k (.aZ k a b)->qO m y->qO (.aZ k a b) y
 | next {a b y:Tm}:di a=true->qO b y->qO (.chain a b) y
theorem qO.trans {x y z:Tm} (h:qO x y) (k:qO y z):qO x z:=by
 induction h with
 | self=>exact k
 | neg _ ih=>exact .neg (ih k)
 | mem hm _ ih=>exact .mem hm (ih k)
 | next hn _ ih=>exact .next hn (ih k)
theorem qO.member {k:Bool} {t m:Tm} (h:m∈memT k t):qO t m:=by
 rcases iP k t with ⟨a,b,rfl⟩ | hn
 ·exact .mem h (.self _)
 ·rw [bf hn] at h
  simp at h;subst h
  exact .self _
theorem nJ {x y:Tm} (hx:bY x=true) (h:qO x y):bY y=true:=by
 cases h with
 | self=>exact hx
 | neg h=>
  rename_i a
  cases a with
  | set l=>
   cases h with
   | self=>rfl
  | _=>simp [bY] at hx
 | mem _ _=>simp [bY] at hx
 | next _ _=>simp [bY] at hx
theorem tK (k:Bool):bY (bC k)=true:=by cases k<;>rfl
theorem x_ (k:Bool):bY (ed k)=true:=by cases k<;>rfl
theorem rW {k:Bool} {l:List Tm} (hl:∀ t∈l,Cn t):bY (aj k l)=true\/(∃ d∈l,aj k l∈memT k d) \/
  (∃ a b,aj k l=.aZ k a b/\∀ m∈memT k (.aZ k a b),bY m=true\/∃ d∈l,m∈memT k d):=by
 have hW:∀ m∈aU k (l.flatMap (memT k)),bY m=true\/∃ d∈l,m∈memT k d:=fun m hm=>by
  rcases aP.1 hm with ⟨h,_⟩ | ⟨s,_,rfl⟩
  ·obtain ⟨d,hd,hm⟩:=List.mem_flatMap.1 h
   exact .inr ⟨d,hd,hm⟩
  ·exact .inl rfl
 have hN:∀ m∈aU k (l.flatMap (memT k)),dD k m=true:=fun m hm=>by
  rcases aP.1 hm with ⟨h,_⟩ | ⟨s,_,rfl⟩
  ·obtain ⟨d,hd,hm⟩:=List.mem_flatMap.1 h
   exact ((hl d hd).members m hm).2
  ·rfl
 unfold aj qi
 split
 ·exact .inl (x_ k)
 split
 ·exact .inl (tK k)
 ·rename_i hne
  obtain ⟨L,hL⟩:∃ L,(aU k (l.flatMap (memT k))).filter (fun t=>decide (t≠bC k))=L:=⟨_,rfl⟩
  rw [hL] at hne ⊢
  have hsub:∀ m∈L,m∈aU k (l.flatMap (memT k)):=fun m hm=>by rw [<-hL] at hm;exact (List.mem_filter.1 hm).1
  cases L with
  | nil=>exact absurd rfl hne
  | cons a r=>
   cases r with
   | nil=>
    rcases hW a (hsub a (List.mem_cons_self ..)) with h | h
    ·exact .inl h
    ·exact .inr (.inl h)
   | cons b r=>
    refine .inr (.inr ⟨a,gW k (b::r),iQ k a (by simp),fun m hm=>?_⟩)
    rw [<-iQ k a (by simp),nE k (by simp) (fun m hm=>hN m (hsub m hm))] at hm
    exact hW m (hsub m hm)
theorem Ru {k:Bool} {l:List Tm} (hl:∀ t∈l,Cn t) {y:Tm} (h:qO (aj k l) y):y=aj k l\/bY y=true\/∃ d∈l,∃ m∈memT k d,qO m y:=by
 rcases rW hl with ht | ⟨d,hd,hm⟩ | ⟨a,b,e,hm⟩
 ·exact .inr (.inl (nJ ht h))
 ·exact .inr (.inr ⟨d,hd,_,hm,h⟩)
 ·rw [e] at h ⊢
  cases h with
  | self=>exact .inl rfl
  | mem hm' hy=>
   rcases hm _ hm' with ht | ⟨d,hd,hd'⟩
   ·exact .inr (.inl (nJ ht hy))
   ·exact .inr (.inr ⟨d,hd,_,hd',hy⟩)
theorem pK {k:Bool} {l:List Tm} (hl:∀ t∈l,Cn t) {m:Tm} (h:m∈memT k (aj k l)):bY m=true\/∃ d∈l,m∈memT k d:=by
 rcases rW hl with ht | ⟨d,hd,hm⟩ | ⟨a,b,e,hm⟩
 ·have hn:dD k (aj k l)=true:=by
   cases hg:aj k l with
   | aZ k' a b=>rw [hg] at ht;simp [bY] at ht
   | _=>rfl
  rw [bf hn] at h
  simp at h;subst h
  exact .inl ht
 ·have hn:=((hl d hd).members _ hm).2
  rw [bf hn] at h
  simp at h;subst h
  exact .inr ⟨d,hd,hm⟩
 ·rw [e] at h
  exact hm m h
theorem bB {u z:Tm} (hc:bF u=false) (hv:u≠aG) (he:u≠eps) (hzv:z≠aG) (gZ:z≠eps):ax u z=.chain u z:=by
 rw [mR,if_neg (by simp [hv,hzv]),if_neg he,if_neg gZ]
 cases u<;>simp [bF] at hc ⊢
theorem BX:∀ {u z:Tm},Cn u->ax u z=eps->u=eps/\z=eps:=by
 intro u
 induction u with
 | chain a b iha ihb=>
  intro z hu h
  by_cases hzv:z=aG
  ·rw [hzv,aH] at h;cases h
  by_cases gZ:z=eps
  ·rw [gZ,ah] at h;cases h
  rw [ax,if_neg hzv,if_neg gZ] at h
  exact absurd (iha hu.1 h).1 hu.2.2.2.2.1
 | eps=>intro z _ h;rw [bq] at h;exact ⟨rfl,h⟩
 | set l=>
  intro z _ h
  by_cases hzv:z=aG
  ·rw [hzv,aH] at h;cases h
  by_cases gZ:z=eps
  ·rw [gZ,ah] at h;cases h
  by_cases hl:Tm.set l=aG
  ·rw [hl,aR] at h;cases h
  rw [bB rfl hl (by simp) hzv gZ] at h;cases h
 | _=>
  intro z _ h
  by_cases hzv:z=aG
  ·rw [hzv,aH] at h;cases h
  by_cases gZ:z=eps
  ·rw [gZ,ah] at h;cases h
  rw [bB rfl (by simp) (by simp) hzv gZ] at h;cases h
theorem YQ {x y:Tm} (h:qO (ku x) y):y=ku x\/qO x y:=by
 cases x with
 | not a=>exact .inr (.neg h)
 | _=>
  cases h with
  | self=>exact .inl rfl
  | neg h=>exact .inr h
theorem YR {c:Int} {k:Bool} {x m:Tm} (hx:Cn x) (h:m∈memT k (aK c x)):bY m=true\/∃ m0∈memT k x,m∈memT k (aK c m0):=by
 rcases iP k x with ⟨a,b,rfl⟩ | hn
 ·rw [pz] at h
  rcases pK (fun t ht=>by
   obtain ⟨d,hd,rfl⟩:=List.mem_map.1 ht
   exact (fO c (uU.members (k:=k) (t:=.aZ k a b) hx d hd).1).1) h with h | ⟨d,hd,hm⟩
  ·exact .inl h
  ·obtain ⟨m0,hm0,rfl⟩:=List.mem_map.1 hd
   exact .inr ⟨m0,hm0,hm⟩
 ·exact .inr ⟨x,by rw [bf hn];exact List.mem_cons_self ..,h⟩
theorem wP {c:Int} {x:Tm} (h:bY x=true):bY (aK c x)=true:=by
 cases x with
 | set l=>rw [jy];split<;>rfl
 | eps=>rfl
 | not a=>
  cases a with
  | set l=>
   cases l with
   | nil=>rfl
   | cons _ _=>simp [bY] at h
  | _=>simp [bY] at h
 | _=>simp [bY] at h
theorem qo:∀ (x y z:Tm),Cn x->Cn y->ax (ax x y) z=ax x (ax y z):=by
 intro x
 induction x with
 | chain a b iha ihb=>
  intro y z hx hy
  by_cases hyv:y=aG
  ·rw [hyv,aH,aR,aH]
  by_cases hye:y=eps
  ·rw [hye,ah,bq]
  by_cases hzv:z=aG
  ·rw [hzv,aH,aH,aH]
  by_cases gZ:z=eps
  ·rw [gZ,ah,ah]
  rw [ax,if_neg hyv,if_neg hye,iha _ _ hx.1 (eF b y hx.2.1 hy),ihb _ _ hx.2.1 hy]
  by_cases hyz:ax y z=aG
  ·rw [hyz,aH,aH,aH]
  by_cases ac9:ax y z=eps
  ·exact absurd (BX hy ac9).1 hye
  conv=>rhs;rw [ax,if_neg hyz,if_neg ac9]
 | eps=>intro y z _ _;rw [bq,bq]
 | set l=>
  intro y z _ hy
  by_cases hl:Tm.set l=aG
  ·rw [hl,aR,aR,aR]
  by_cases hyv:y=aG
  ·rw [hyv,aH,aR,aH]
  by_cases hye:y=eps
  ·rw [hye,ah,bq]
  by_cases hzv:z=aG
  ·rw [hzv,aH,aH,aH]
  by_cases gZ:z=eps
  ·rw [gZ,ah,ah]
  rw [bB rfl hl (by simp) hyv hye,ax,if_neg hzv,if_neg gZ]
 | _=>
  intro y z _ hy
  by_cases hyv:y=aG
  ·rw [hyv,aH,aR,aH]
  by_cases hye:y=eps
  ·rw [hye,ah,bq]
  by_cases hzv:z=aG
  ·rw [hzv,aH,aH,aH]
  by_cases gZ:z=eps
  ·rw [gZ,ah,ah]
  rw [bB rfl (by simp) (by simp) hyv hye,ax,if_neg hzv,if_neg gZ]
theorem UZ {k:Bool} {l:List af} {s:af} (h:fG k l=some s) (hl:∀ x∈l,Tidy x) {c:Int} (hc:aF c=true):dw s c=true↔if k=true then ∀ x∈l,dw x c=true else ∃ x∈l,dw x c=true:=by
 cases l with
 | nil=>cases h
 | cons a r=>
  simp only [fG,Option.some.injEq] at h
  have:=Be k (w:=[c]) (fun x hx=>by simp at hx;rw [hx];exact hc) r a (hl a (List.mem_cons_self ..)) (fun x hx=>hl x (List.mem_cons_of_mem _ hx))
  rw [h] at this
  have e:∀ x:af,wd (.set x) [c]↔dw x c=true:=fun x=>⟨fun ⟨d,hd,hx⟩=>by cases hd;exact hx,fun hx=>⟨c,rfl,hx⟩⟩
  rw [e] at this
  rw [this]
  unfold pE
  cases k
  ·simp only [Bool.false_eq_true,if_false]
   constructor
   ·rintro ⟨t,ht,hw⟩
    obtain ⟨x,hx,rfl⟩:=List.mem_map.1 ht
    exact ⟨x,hx,(e x).1 hw⟩
   ·rintro ⟨x,hx,hw⟩
    exact ⟨_,List.mem_map.2 ⟨x,hx,rfl⟩,(e x).2 hw⟩
  ·simp only [if_true]
   constructor
   ·intro h x hx
    exact (e x).1 (h _ (List.mem_map.2 ⟨x,hx,rfl⟩))
   ·intro h t ht
    obtain ⟨x,hx,rfl⟩:=List.mem_map.1 ht
    exact (e x).2 (h x hx)
def comb (k:Bool) (F:List Tm) (c:Int):Prop:=if k=true then ∀ s,Tm.set s∈F->dw s c=true else ∃ s,Tm.set s∈F/\dw s c=true
structure Tw (k:Bool) (F F':List Tm):Prop where
 out:∀ x,aQ x=Option.none->x≠bC k->(x∈F↔x∈F')
 sets:∀ c,aF c=true->(comb k F c↔comb k F' c)
 some:k=true->((∃ s,Tm.set s∈F)↔∃ s,Tm.set s∈F')
theorem Tw.symm {k:Bool} {F F':List Tm} (h:Tw k F F'):Tw k F' F:=⟨fun x h1 h2=>(h.out x h1 h2).symm,fun c hc=>(h.sets c hc).symm,fun e=>(h.some e).symm⟩
theorem lC {k:Bool} {F:List Tm} (h:∃ s,Tm.set s∈F):∃ s,fG k (F.filterMap aQ)=Option.some s:=by
 obtain ⟨s,hs⟩:=h
 have:=b_.2 hs
 cases hq:F.filterMap aQ with
 | nil=>rw [hq] at this;simp at this
 | cons a r=>exact ⟨_,rfl⟩
theorem gD {k:Bool} {F:List Tm} (hF:∀ t∈F,jW t) {s:af} (h:fG k (F.filterMap aQ)=Option.some s) {c:Int} (hc:aF c=true):dw s c=true↔comb k F c:=by
 rw [UZ h (fun x hx=>hF _ (b_.1 hx)) hc]
 unfold comb
 cases k
 ·simp only [Bool.false_eq_true,if_false]
  exact ⟨fun ⟨x,hx,h⟩=>⟨x,b_.1 hx,h⟩,fun ⟨x,hx,h⟩=>⟨x,b_.2 hx,h⟩⟩
 ·simp only [if_true]
  exact ⟨fun h x hx=>h x (b_.2 hx),fun h x hx=>h x (b_.1 hx)⟩
theorem wQ {k:Bool} {F:List Tm} {s:af} (h:fG k (F.filterMap aQ)=Option.some s):∃ x,Tm.set x∈F:=by
 cases hq:F.filterMap aQ with
 | nil=>rw [hq] at h;cases h
 | cons a r=>exact ⟨a,b_.1 (by rw [hq];exact List.mem_cons_self ..)⟩
theorem pM {k:Bool} {F:List Tm} (hF:∀ t∈F,jW t) {s:af} (h:fG k (F.filterMap aQ)=Option.some s):Tidy s:=ql h fun _ hx=>hF _ (b_.1 hx)
theorem Ab {k:Bool} {F F':List Tm} (hF:∀ t∈F,jW t) (hF':∀ t∈F',jW t) (h:Tw k F F') {x:Tm} (hu:x≠bC k) (hx:x∈aU k F):x∈aU k F':=by
 rcases aP.1 hx with ⟨h1,h2⟩ | ⟨s,hs,rfl⟩
 ·exact aP.2 (.inl ⟨(h.out x h2 hu).1 h1,h2⟩)
 ·have hsome:∃ s',fG k (F'.filterMap aQ)=Option.some s':=by
   cases k
   ·cases hq:fG false (F'.filterMap aQ) with
    | some s'=>exact ⟨s',rfl⟩
    | none=>
     exfalso
     refine hu ?_
     have he:s=[]:=iL (pM hF hs) (show Tidy [] from trivial) (fun c hc=>by
      rw [eP]
      cases hi:dw s c with
      | false=>rfl
      | true=>
       have:=(h.sets c hc).1 ((gD hF hs hc).1 hi)
       obtain ⟨s1,hs1,_⟩:=this
       obtain ⟨s2,hs2⟩:=lC (k:=false) ⟨s1,hs1⟩
       rw [hq] at hs2;cases hs2)
     rw [he];rfl
   ·exact lC ((h.some rfl).1 (wQ hs))
  obtain ⟨s',hs'⟩:=hsome
  have he:s=s':=iL (pM hF hs) (pM hF' hs') (fun c hc=>by
   have:=((gD hF hs hc).trans (h.sets c hc)).trans (gD hF' hs' hc).symm
   cases h1:dw s c<;>cases h2:dw s' c<;>simp [h1,h2] at this ⊢)
  exact aP.2 (.inr ⟨s',hs',by rw [he]⟩)
theorem ET (k:Bool):ed k≠bC k:=by cases k<;>simp [ed,bC]
theorem YS {k:Bool} {F F':List Tm} (hF:∀ t∈F,jW t) (hF':∀ t∈F',jW t) (h:Tw k F F'):qi k (aU k F)=qi k (aU k F'):=by
 have e:(aU k F).filter (fun t=>decide (t≠bC k))=(aU k F').filter (fun t=>decide (t≠bC k)):=by
  refine IY (zT (nD hF).2 _) (zT (nD hF').2 _) fun x=>?_
  simp only [List.mem_filter,decide_eq_true_eq]
  exact ⟨fun ⟨h1,h2⟩=>⟨Ab hF hF' h h2 h1,h2⟩,fun ⟨h1,h2⟩=>⟨Ab hF' hF h.symm h2 h1,h2⟩⟩
 have z:ed k∈aU k F↔ed k∈aU k F':=⟨Ab hF hF' h (ET k),Ab hF' hF h.symm (ET k)⟩
 unfold qi
 by_cases hz:ed k∈aU k F
 ·rw [if_pos hz,if_pos (z.1 hz)]
 ·rw [if_neg hz,if_neg (fun q=>hz (z.2 q)),e]
theorem jJ {k:Bool} {l:List Tm} (h:∀ t∈l,Cn t):∀ t∈l.flatMap (memT k),jW t:=fun t ht=>by
 obtain ⟨d,hd,hm⟩:=List.mem_flatMap.1 ht
 exact ((h d hd).members t hm).1.ok
theorem tN {k:Bool} {l l':List Tm} (hl:∀ t∈l,Cn t) (hl':∀ t∈l',Cn t) (h:Tw k (l.flatMap (memT k)) (l'.flatMap (memT k))):aj k l=aj k l':=YS (jJ hl) (jJ hl') h
theorem Ac {k:Bool} {F:List Tm} (hF:∀ t∈F,jW t) (h:ed k∈F):ed k∈aU k F:=by
 cases k
 ·exact aP.2 (.inl ⟨h,rfl⟩)
 ·obtain ⟨s,hs⟩:=lC (k:=true) (F:=F) ⟨[],h⟩
  refine aP.2 (.inr ⟨s,hs,?_⟩)
  have:s=[]:=iL (pM hF hs) (show Tidy [] from trivial) (fun c hc=>by
   rw [eP]
   cases hi:dw s c with
   | false=>rfl
   | true=>
    have:=(gD hF hs hc).1 hi
    have:=this [] h
    rw [eP] at this;cases this)
  rw [this];rfl
theorem Rv {k:Bool} {F F':List Tm} (hF':∀ t∈F',jW t) (hF:∀ t∈F,jW t) (hs:∀ t∈F,t∈F') (h:ed k∈aU k F):ed k∈aU k F':=by
 cases k
 ·rcases aP.1 h with ⟨h1,h2⟩ | ⟨s,_,e⟩
  ·exact aP.2 (.inl ⟨hs _ h1,h2⟩)
  ·cases e
 ·rcases aP.1 h with ⟨_,h2⟩ | ⟨s,h1,e⟩
  ·cases h2
  ·obtain rfl:s=[]:=by cases e;rfl
   obtain ⟨x,hx⟩:=wQ h1
   obtain ⟨s',hs'⟩:=lC (k:=true) (F:=F') ⟨x,hs _ hx⟩
   refine aP.2 (.inr ⟨s',hs',?_⟩)
   have:s'=[]:=iL (pM hF' hs') (show Tidy [] from trivial) (fun c hc=>by
    rw [eP]
    cases hi:dw s' c with
    | false=>rfl
    | true=>
     have h3:comb true F' c:=(gD hF' hs' hc).1 hi
     have h4:comb true F c:=fun q hq=>h3 q (hs _ hq)
     have:=(gD hF h1 hc).2 h4
     rw [eP] at this;cases this)
   rw [this];rfl
theorem iT {k:Bool} {l:List Tm} (h:ed k∈aU k (l.flatMap (memT k))):aj k l=ed k:=by unfold aj qi;rw [if_pos h]
theorem l7 {k:Bool} {t:Tm} (h:bY t=true):dD k t=true:=by
 cases t with
 | aZ k' a b=>simp [bY] at h
 | _=>rfl
theorem EU {k:Bool} {l:List Tm} (hl:∀ t∈l,Cn t) (hz:ed k∉aU k (l.flatMap (memT k))):Tw k (memT k (aj k l)) (l.flatMap (memT k)):=by
 have hok:=jJ (k:=k) hl
 have hN:∀ m∈aU k (l.flatMap (memT k)),dD k m=true:=fun m hm=>by
  rcases aP.1 hm with ⟨h,_⟩ | ⟨s,_,rfl⟩
  ·obtain ⟨d,hd,hm⟩:=List.mem_flatMap.1 h
   exact ((hl d hd).members m hm).2
  ·rfl
 obtain ⟨A,hA⟩:∃ A,(aU k (l.flatMap (memT k))).filter (fun t=>decide (t≠bC k))=A:=⟨_,rfl⟩
 have hAm:∀ x,x∈A↔x∈aU k (l.flatMap (memT k))/\x≠bC k:=fun x=>by rw [<-hA,List.mem_filter];simp
 have hg:∀ x,x≠bC k->(x∈memT k (aj k l)↔x∈A):=by
  intro x hx
  unfold aj qi
  rw [if_neg hz,hA]
  cases A with
  | nil=>
   show x∈memT k (bC k)↔_
   rw [bf (l7 (tK k))]
   simp [hx]
  | cons a r=>
   show x∈memT k (gW k (a::r))↔_
   rw [nE k (by simp) (fun m hm=>hN m ((hAm m).1 hm).1)]
 have hset:∀ s,Tm.set s∈memT k (aj k l)->Tm.set s≠bC k->fG k ((l.flatMap (memT k)).filterMap aQ)=Option.some s:=fun s hs hu=>by
  rcases aP.1 ((hAm _).1 ((hg _ hu).1 hs)).1 with ⟨_,h⟩ | ⟨s',h1,h2⟩
  ·cases h
  ·cases h2;exact h1
 have hset':∀ s,fG k ((l.flatMap (memT k)).filterMap aQ)=Option.some s->Tm.set s≠bC k->Tm.set s∈memT k (aj k l):=fun s hs hu=>
  (hg _ hu).2 ((hAm _).2 ⟨aP.2 (.inr ⟨s,hs,rfl⟩),hu⟩)
 refine ⟨fun x h1 h2=>?_,fun c hc=>?_,fun hk=>?_⟩
 ·rw [hg x h2,hAm]
  constructor
  ·rintro ⟨h,_⟩
   rcases aP.1 h with ⟨h,_⟩ | ⟨s,_,rfl⟩
   ·exact h
   ·cases h1
  ·intro h
   exact ⟨aP.2 (.inl ⟨h,h1⟩),h2⟩
 ·cases k
  ·constructor
   ·rintro ⟨s,hs,hi⟩
    have hu:Tm.set s≠bC false:=by rintro e;cases e;rw [eP] at hi;cases hi
    exact (gD hok (hset s hs hu) hc).1 hi
   ·intro h
    obtain ⟨s,hs⟩:=lC (k:=false) (let ⟨s0,hs0,_⟩:=h;⟨s0,hs0⟩)
    have hi:=(gD hok hs hc).2 h
    have hu:Tm.set s≠bC false:=by rintro e;cases e;rw [eP] at hi;cases hi
    exact ⟨s,hset' s hs hu,hi⟩
  ·have hu:∀ s,Tm.set s≠bC true:=fun s e=>by cases e
   constructor
   ·intro h q hq
    obtain ⟨s,hs⟩:=lC (k:=true) ⟨q,hq⟩
    exact (gD hok hs hc).1 (h s (hset' s hs (hu s))) q hq
   ·intro h s hs
    exact (gD hok (hset s hs (hu s)) hc).2 h
 ·subst hk
  have hu:∀ s,Tm.set s≠bC true:=fun s e=>by cases e
  constructor
  ·rintro ⟨s,hs⟩
   exact wQ (hset s hs (hu s))
  ·intro h
   obtain ⟨s,hs⟩:=lC (k:=true) h
   exact ⟨s,hset' s hs (hu s)⟩
theorem Jw {k:Bool} {F G:List Tm} {c:Int}:comb k (F++G) c↔if k=true then comb k F c/\comb k G c else comb k F c\/comb k G c:=by
 unfold comb
 cases k
 ·simp only [Bool.false_eq_true,if_false,List.mem_append]
  exact ⟨fun ⟨s,h,hi⟩=>h.imp (fun h=>⟨s,h,hi⟩) (fun h=>⟨s,h,hi⟩),fun h=>h.elim (fun ⟨s,h,hi⟩=>⟨s,.inl h,hi⟩) (fun ⟨s,h,hi⟩=>⟨s,.inr h,hi⟩)⟩
 ·simp only [if_true,List.mem_append]
  exact ⟨fun h=>⟨fun s hs=>h s (.inl hs),fun s hs=>h s (.inr hs)⟩,fun h s hs=>hs.elim (h.1 s) (h.2 s)⟩
theorem Tw.app {k:Bool} {F F':List Tm} (h:Tw k F F') (G:List Tm):Tw k (F++G) (F'++G):=by
 refine ⟨fun x h1 h2=>by rw [List.mem_append,List.mem_append,h.out x h1 h2],fun c hc=>by rw [Jw,Jw,h.sets c hc],fun hk=>?_⟩
 have:=h.some hk
 constructor
 ·rintro ⟨s,hs⟩
  rcases List.mem_append.1 hs with hs | hs
  ·obtain ⟨q,hq⟩:=this.1 ⟨s,hs⟩
   exact ⟨q,List.mem_append_left _ hq⟩
  ·exact ⟨s,List.mem_append_right _ hs⟩
 ·rintro ⟨s,hs⟩
  rcases List.mem_append.1 hs with hs | hs
  ·obtain ⟨q,hq⟩:=this.2 ⟨s,hs⟩
   exact ⟨q,List.mem_append_left _ hq⟩
  ·exact ⟨s,List.mem_append_right _ hs⟩
theorem lD {k:Bool} {X Y:List Tm} (hX:∀ t∈X,Cn t) (hY:∀ t∈Y,Cn t):aj k (aj k X::Y)=aj k (X++Y):=by
 have hXY:∀ t∈X++Y,Cn t:=fun t ht=>(List.mem_append.1 ht).elim (hX t) (hY t)
 have hg:∀ t∈aj k X::Y,Cn t:=fun t ht=>(List.mem_cons.1 ht).elim (fun e=>by rw [e];exact kH hX) (hY t)
 by_cases hz:ed k∈aU k (X.flatMap (memT k))
 ·rw [iT (l:=X++Y) (Rv (jJ hXY) (jJ hX) (fun t ht=>by rw [List.flatMap_append];exact List.mem_append_left _ ht) hz),iT hz]
  rw [iT hz] at hg
  refine iT (Ac (jJ hg) ?_)
  rw [List.flatMap_cons,bf (l7 (x_ k))]
  exact List.mem_append_left _ (List.mem_cons_self ..)
 ·refine tN hg hXY ?_
  rw [List.flatMap_cons,List.flatMap_append]
  exact (EU hX hz).app _
theorem fu {k:Bool} {X Y:List Tm} (hX:∀ t∈X,Cn t) (h:∀ t,t∈X↔t∈Y):aj k X=aj k Y:=by
 have hf:∀ t,t∈X.flatMap (memT k)↔t∈Y.flatMap (memT k):=fun t=>by simp only [List.mem_flatMap,h]
 refine tN hX (fun t ht=>hX t ((h t).2 ht)) ⟨fun x _ _=>hf x,fun c _=>?_,fun _=>?_⟩
 ·unfold comb
  simp only [hf]
 ·simp only [hf]
theorem Jy {k:Bool} {P Q Q':List Tm} (hP:∀ t∈P,Cn t) (hQ:∀ t∈Q,Cn t) (hQ':∀ t∈Q',Cn t) (h:aj k Q=aj k Q'):aj k (P++Q)=aj k (P++Q'):=by
 rw [fu (X:=P++Q) (Y:=Q++P) (fun t ht=>(List.mem_append.1 ht).elim (hP t) (hQ t)) (fun t=>by simp [List.mem_append,or_comm]),<-lD hQ hP,h,lD hQ' hP]
 exact fu (fun t ht=>(List.mem_append.1 ht).elim (hQ' t) (hP t)) (fun t=>by simp [List.mem_append,or_comm])
theorem nK {c:Int} {l:List Tm} (h:∀ t∈l,Cn t):∀ t∈l.map (aK c),Cn t:=fun t ht=>by
 obtain ⟨d,hd,rfl⟩:=List.mem_map.1 ht
 exact (fO c (h d hd)).1
theorem Gr {k:Bool} {l:List Tm} (h:∀ t∈l,Cn t):∀ t∈l.flatMap (memT k),Cn t:=fun t ht=>by
 obtain ⟨d,hd,hm⟩:=List.mem_flatMap.1 ht
 exact ((h d hd).members t hm).1
theorem rX {c:Int} {k:Bool} {d:Tm} (hd:Cn d):aK c d=aj k ((memT k d).map (aK c)):=by
 rcases iP k d with ⟨a,b,rfl⟩ | hn
 ·exact pz c k a b
 ·rw [bf hn,List.map_cons,List.map_nil,group_one' (fO c hd).1]
theorem Jz {c:Int} {k:Bool}:∀ {l:List Tm},(∀ t∈l,Cn t)->aj k (l.map (aK c))=aj k ((l.flatMap (memT k)).map (aK c))
 | [],_=>rfl
 | d::r,h=>by
  have hr:∀ t∈r,Cn t:=fun t ht=>h t (List.mem_cons_of_mem _ ht)
  have hd:=h d (List.mem_cons_self ..)
  have hm:∀ t∈memT k d,Cn t:=fun t ht=>(hd.members t ht).1
  rw [List.map_cons,rX (k:=k) hd,lD (nK hm) (nK hr),List.flatMap_cons,List.map_append]
  exact Jy (nK hm) (nK hr) (nK (Gr hr)) (Jz hr)
theorem U5 (c:Int) (k:Bool):aK c (ed k)=ed k:=by cases k<;>rfl
theorem U6 (c:Int) (k:Bool):aK c (bC k)=bC k:=by cases k<;>rfl
theorem JA {c:Int} {k:Bool} {s:af} {x:Tm} (h:x∈memT k (aK c (.set s))):x=if dw s c=true then eps else aG:=by
 rw [jy] at h
 split at h
 ·rename_i hi
  rw [bf rfl] at h
  simpa [hi] using h
 ·rename_i hi
  rw [bf rfl] at h
  simpa [hi] using h
theorem YT {c:Int} (hc:aF c=true) {k:Bool} {A B:List Tm} (hA:∀ t∈A,Cn t) (hB:∀ t∈B,Cn t) (h:Tw k A B):aj k (A.map (aK c))=aj k (B.map (aK c)):=by
 by_cases hz:k=true/\¬ comb k A c
 ·obtain ⟨rfl,hn⟩:=hz
  have key:∀ F:List Tm,(∀ t∈F,Cn t)->¬ comb true F c->aj true (F.map (aK c))=ed true:=fun F hF hn=>by
   refine iT (Ac (jJ (nK hF)) ?_)
   have:∃ s,Tm.set s∈F/\dw s c=false:=by
    refine Classical.byContradiction fun hne=>hn fun s hs=>?_
    cases hi:dw s c with
    | true=>rfl
    | false=>exact absurd ⟨s,hs,hi⟩ hne
   obtain ⟨s,hs,hi⟩:=this
   refine List.mem_flatMap.2 ⟨_,List.mem_map.2 ⟨_,hs,rfl⟩,?_⟩
   rw [jy,if_neg (by rw [hi];simp)]
   exact List.mem_cons_self ..
  rw [key A hA hn,key B hB (fun q=>hn ((h.sets c hc).2 q))]
 ·have hall:k=true->comb k A c:=fun e=>Classical.byContradiction fun q=>hz ⟨e,q⟩
  have one:∀ {A B:List Tm},(∀ t∈A,Cn t)->(∀ t∈B,Cn t)->Tw k A B->(k=true->comb k A c) ->
    (∀ x,aQ x=Option.none->x≠bC k->x∈(A.map (aK c)).flatMap (memT k)->x∈(B.map (aK c)).flatMap (memT k)) /\
    (∀ s,s≠[]->Tm.set s∈(A.map (aK c)).flatMap (memT k)->Tm.set s∈(B.map (aK c)).flatMap (memT k)) /\
    (k=true->∀ s,Tm.set s∈(A.map (aK c)).flatMap (memT k)->Tm.set s∈(B.map (aK c)).flatMap (memT k)):=by
   intro A B hA hB h hall
   have from':∀ x,x∈(A.map (aK c)).flatMap (memT k)->(∃ a∈A,aQ a=Option.none/\a≠bC k/\x∈memT k (aK c a))\/x=bC k\/(∃ s,Tm.set s∈A/\x=if dw s c=true then eps else aG):=fun x hx=>by
    obtain ⟨d,hd,hm⟩:=List.mem_flatMap.1 hx
    obtain ⟨a,ha,rfl⟩:=List.mem_map.1 hd
    cases hs:aQ a with
    | some s=>
     have e:=lZ hs
     subst e
     exact .inr (.inr ⟨s,ha,JA hm⟩)
    | none=>
     by_cases hu:a=bC k
     ·subst hu
      rw [U6,bf (l7 (tK k))] at hm
      exact .inr (.inl (by simpa using hm))
     ·exact .inl ⟨a,ha,hs,hu,hm⟩
   have to':∀ x a,a∈A->aQ a=Option.none->a≠bC k->x∈memT k (aK c a)->x∈(B.map (aK c)).flatMap (memT k):=fun x a ha h1 h2 hm=>
    List.mem_flatMap.2 ⟨_,List.mem_map.2 ⟨a,(h.out a h1 h2).1 ha,rfl⟩,hm⟩
   refine ⟨fun x h1 h2 hx=>?_,fun s hs hx=>?_,fun hk s hx=>?_⟩
   ·rcases from' x hx with ⟨a,ha,e1,e2,hm⟩ | rfl | ⟨s,hs,rfl⟩
    ·exact to' x a ha e1 e2 hm
    ·exact absurd rfl h2
    ·split at h1
     ·rename_i hi
      rw [if_pos hi]
      have:∃ q,Tm.set q∈B/\dw q c=true:=by
       cases k
       ·exact (h.sets c hc).1 ⟨s,hs,hi⟩
       ·obtain ⟨q,hq⟩:=(h.some rfl).1 ⟨s,hs⟩
        exact ⟨q,hq,(h.sets c hc).1 (hall rfl) q hq⟩
      obtain ⟨q,hq,hqi⟩:=this
      refine List.mem_flatMap.2 ⟨_,List.mem_map.2 ⟨_,hq,rfl⟩,?_⟩
      rw [jy,if_pos hqi]
      exact List.mem_cons_self ..
     ·cases h1
   ·rcases from' _ hx with ⟨a,ha,e1,e2,hm⟩ | e | ⟨q,_,e⟩
    ·exact to' _ a ha e1 e2 hm
    ·cases k
     ·cases e;exact absurd rfl hs
     ·cases e
    ·split at e
     ·cases e
     ·cases e;exact absurd rfl hs
   ·subst hk
    rcases from' _ hx with ⟨a,ha,e1,e2,hm⟩ | e | ⟨q,hq,e⟩
    ·exact to' _ a ha e1 e2 hm
    ·cases e
    ·rw [if_pos (hall rfl q hq)] at e
     cases e
  have ac_:k=true->comb k B c:=fun e=>(h.sets c hc).1 (hall e)
  have o1:=one hA hB h hall
  have o2:=one hB hA h.symm ac_
  refine tN (nK hA) (nK hB) ⟨fun x h1 h2=>⟨o1.1 x h1 h2,o2.1 x h1 h2⟩,fun d _=>?_,fun hk=>?_⟩
  ·unfold comb
   cases hk:k
   ·simp only [Bool.false_eq_true,if_false]
    subst hk
    constructor
    ·rintro ⟨s,hs,hi⟩
     exact ⟨s,o1.2.1 s (by rintro rfl;rw [eP] at hi;cases hi) hs,hi⟩
    ·rintro ⟨s,hs,hi⟩
     exact ⟨s,o2.2.1 s (by rintro rfl;rw [eP] at hi;cases hi) hs,hi⟩
   ·simp only [if_true]
    subst hk
    exact ⟨fun q s hs=>q s (o2.2.2 rfl s hs),fun q s hs=>q s (o1.2.2 rfl s hs)⟩
  ·exact ⟨fun ⟨s,hs⟩=>⟨s,o1.2.2 hk s hs⟩,fun ⟨s,hs⟩=>⟨s,o2.2.2 hk s hs⟩⟩
theorem Rw {c:Int} (hc:aF c=true) {k:Bool} {l:List Tm} (hl:∀ t∈l,Cn t):aK c (aj k l)=aj k (l.map (aK c)):=by
 rw [Jz hl]
 by_cases hz:ed k∈aU k (l.flatMap (memT k))
 ·rw [iT hz,U5]
  symm
  refine iT (Ac (jJ (nK (Gr hl))) ?_)
  cases k
  ·rcases aP.1 hz with ⟨h1,_⟩ | ⟨s,_,e⟩
   ·exact List.mem_flatMap.2 ⟨_,List.mem_map.2 ⟨_,h1,rfl⟩,List.mem_cons_self ..⟩
   ·cases e
  ·rcases aP.1 hz with ⟨_,h⟩ | ⟨s,h1,e⟩
   ·cases h
   ·obtain rfl:s=[]:=by cases e;rfl
    have hn:¬ comb true (l.flatMap (memT true)) c:=fun q=>by
     have:=(gD (jJ hl) h1 hc).2 q
     rw [eP] at this;cases this
    have:∃ s,Tm.set s∈l.flatMap (memT true)/\dw s c=false:=by
     refine Classical.byContradiction fun hne=>hn fun s hs=>?_
     cases hi:dw s c with
     | true=>rfl
     | false=>exact absurd ⟨s,hs,hi⟩ hne
    obtain ⟨s,hs,hi⟩:=this
    refine List.mem_flatMap.2 ⟨_,List.mem_map.2 ⟨_,hs,rfl⟩,?_⟩
    rw [jy,if_neg (by rw [hi];simp)]
    exact List.mem_cons_self ..
 ·rw [rX (k:=k) (kH hl)]
  exact YT hc (fun t ht=>((kH hl).members t ht).1) (Gr hl) (EU hl hz)
theorem Rx {d:Tm} (h:Cn d):ku (ku d)=d:=by
 cases d with
 | not a=>
  show ku a=_
  have:=h.2.1
  cases a<;>simp [OI] at this<;>rfl
 | _=>rfl
theorem YU {c:Int} {x:Tm} (h:Cn x):aK c (ku x)=ku (aK c x):=by
 cases x with
 | not a=>
  show aK c a=ku (ku (aK c a))
  rw [Rx (fO c (show Cn a from h.1)).1]
 | _=>rfl
def dZ:Tm->Nat
 | .set _=>1
 | .eps=>1
 | .chain a b=>dZ a+dZ b+1
 | .star a=>dZ a+1
 | .not a=>dZ a+1
 | .aZ _ a b=>dZ a+dZ b+1
inductive dL:Tm->Tm->Tm->Tm->Prop where
 | here (t z:Tm):dL t z t z
 | left {a b z h z':Tm}:dL a (ax b z) h z'->dL (.chain a b) z h z'
 | right {a b z h z':Tm}:dL b z h z'->(bF b=false\/dZ h<dZ b)->dL (.chain a b) z h z'
 | star {a z h z':Tm}:dL a (ax (.star a) z) h z'->dL (.star a) z h z'
 | neg {a z h z':Tm}:dL a z h z'->dL (.not a) z h z'
 | mem {k:Bool} {a b m z h z':Tm}:m∈memT k (.aZ k a b)->dL m z h z'->dL (.aZ k a b) z h z'
theorem U7 (k:Bool):∀ (t:Tm) {m:Tm},m∈memT k t->dZ m<=dZ t
 | t,m,h=>by
  rcases iP k t with ⟨a,b,rfl⟩ | hn
  ·rw [gX] at h
   rcases List.mem_cons.1 h with rfl | h
   ·simp only [dZ];omega
   ·have:=U7 k b h
    simp only [dZ];omega
  ·rw [bf hn] at h
   simp at h;subst h
   exact Nat.le_refl _
 termination_by t=>t
theorem uY {k:Bool} {a b m:Tm} (h:m∈memT k (.aZ k a b)):dZ m<dZ (.aZ k a b):=by
 rw [gX] at h
 rcases List.mem_cons.1 h with rfl | h
 ·simp only [dZ];omega
 ·have:=U7 k b h
  simp only [dZ];omega
theorem dL.cn {t z h z':Tm} (p:dL t z h z') (ht:Cn t) (hz:Cn z):Cn h/\Cn z':=by
 induction p with
 | here=>exact ⟨ht,hz⟩
 | left _ ih=>exact ih ht.1 (eF _ _ ht.2.1 hz)
 | right _ _ ih=>exact ih ht.2.1 hz
 | star _ ih=>exact ih ht.1 (eF _ _ ht hz)
 | neg _ ih=>exact ih ht.1 hz
 | mem hm _ ih=>exact ih (ht.members _ hm).1 hz
theorem dL.shift {t z h z':Tm} (p:dL t z h z') (ht:Cn t) (hz:Cn z) (y:Tm):dL t (ax z y) h (ax z' y):=by
 induction p with
 | here=>exact .here _ _
 | left _ ih=>
  refine .left ?_
  rw [<-qo _ _ _ ht.2.1 hz]
  exact ih ht.1 (eF _ _ ht.2.1 hz)
 | right _ hr ih=>exact .right (ih ht.2.1 hz) hr
 | star _ ih=>
  refine .star ?_
  rw [<-qo _ _ _ ht hz]
  exact ih ht.1 (eF _ _ ht hz)
 | neg _ ih=>exact .neg (ih ht.1 hz)
 | mem hm _ ih=>exact .mem hm (ih (ht.members _ hm).1 hz)
theorem dL.sz {t z h z':Tm} (p:dL t z h z'):dZ h<=dZ t:=by
 induction p with
 | here=>exact Nat.le_refl _
 | left _ ih=>simp only [dZ];omega
 | right _ _ ih=>simp only [dZ];omega
 | star _ ih=>simp only [dZ];omega
 | neg _ ih=>simp only [dZ];omega
 | mem hm _ ih=>have:=uY hm;omega
theorem dL.trans {t z h z1 h2 z2:Tm} (p:dL t z h z1) (q:dL h z1 h2 z2):dL t z h2 z2:=by
 induction p with
 | here=>exact q
 | left _ ih=>exact .left (ih q)
 | right _ hr ih=>exact .right (ih q) (hr.imp id fun h=>Nat.lt_of_le_of_lt q.sz h)
 | star _ ih=>exact .star (ih q)
 | neg _ ih=>exact .neg (ih q)
 | mem hm _ ih=>exact .mem hm (ih q)
theorem dL.comp {t h z h2 z2:Tm} (p:dL t eps h z) (ht:Cn t) (q:dL h eps h2 z2):dL t eps h2 (ax z2 z):=by
 have hh:=(p.cn ht trivial).1
 have:=q.shift hh trivial z
 rw [bq] at this
 exact p.trans this
theorem dL.same {t z h z':Tm} (p:dL t z h z') (hs:dZ t<=dZ h):h=t/\z'=z:=by
 cases p with
 | here=>exact ⟨rfl,rfl⟩
 | left p=>have:=p.sz;simp only [dZ] at hs;omega
 | right p _=>have:=p.sz;simp only [dZ] at hs;omega
 | star p=>have:=p.sz;simp only [dZ] at hs;omega
 | neg p=>have:=p.sz;simp only [dZ] at hs;omega
 | mem hm p=>have:=p.sz;have:=uY hm;omega
theorem dL.nc {t z h z':Tm} (p:dL t z h z') (hc:bF h=false):bF t=false\/dZ h<dZ t:=by
 by_cases q:dZ h<dZ t
 ·exact .inr q
 ·rw [<-(p.same (by omega)).1];exact .inl hc
theorem ow:∀ {u z:Tm},Cn u->ax u z=aG->u=aG\/z=aG:=by
 intro u
 induction u with
 | chain a b iha ihb=>
  intro z hu h
  by_cases hzv:z=aG
  ·exact .inr hzv
  by_cases gZ:z=eps
  ·rw [gZ,ah] at h;cases h
  rw [ax,if_neg hzv,if_neg gZ] at h
  rcases iha hu.1 h with h | h
  ·exact absurd h hu.2.2.2.1
  ·rcases ihb hu.2.1 h with h | h
   ·exact absurd h hu.2.2.2.2.2.1
   ·exact .inr h
 | eps=>intro z _ h;rw [bq] at h;exact .inr h
 | set l=>
  intro z _ h
  by_cases hl:Tm.set l=aG
  ·exact .inl hl
  by_cases hzv:z=aG
  ·exact .inr hzv
  by_cases gZ:z=eps
  ·rw [gZ,ah] at h;exact .inl h
  rw [bB rfl hl (by simp) hzv gZ] at h;cases h
 | _=>
  intro z _ h
  by_cases hzv:z=aG
  ·exact .inr hzv
  by_cases gZ:z=eps
  ·rw [gZ,ah] at h;cases h
  rw [bB rfl (by simp) (by simp) hzv gZ] at h;cases h
theorem dL.follow {t z h z':Tm} (p:dL t z h z') (ht:Cn t) (hz:Cn z) (hzv:z≠aG):z'≠aG/\(z'=z\/∃ b z1,dL t z b z1/\z'=ax b z1/\bF b=false/\b≠eps/\b≠aG/\z1≠aG/\(dZ b<dZ t\/(b=t/\oJ t=true))):=by
 induction p with
 | here=>exact ⟨hzv,.inl rfl⟩
 | @left a b z h z' p ih=>
  obtain ⟨ha,hb,hac,MB,hae,hbv,hbe⟩:=ht
  have hv:ax b z≠aG:=fun e=>(ow hb e).elim hbv hzv
  obtain ⟨h1,h2⟩:=ih ha (eF _ _ hb hz) hv
  refine ⟨h1,?_⟩
  rcases h2 with rfl | ⟨q,z1,hq,e,h3,h4,h5,h6,h7⟩
  ·right
   cases b with
   | chain b1 b2=>
    obtain ⟨_,hb2,h3,h4,h5,h6,h7⟩:=hb
    by_cases gZ:z=eps
    ·subst gZ
     refine ⟨b1,ax b2 eps,.right (.left (.here _ _)) (.inr (by simp only [dZ];omega)),?_,h3,h5,h4,by rw [ah];exact h6,.inl (by simp only [dZ];omega)⟩
     rw [ah,ah,bB h3 h4 h5 h6 h7]
    ·exact ⟨b1,ax b2 z,.right (.left (.here _ _)) (.inr (by simp only [dZ];omega)),by rw [ax,if_neg hzv,if_neg gZ],h3,h5,h4,fun e=>(ow hb2 e).elim h6 hzv,.inl (by simp only [dZ];omega)⟩
   | set l=>exact ⟨.set l,z,.right (.here _ _) (.inl rfl),rfl,rfl,hbe,hbv,hzv,.inl (by simp only [dZ];omega)⟩
   | eps=>exact absurd rfl hbe
   | star q=>exact ⟨.star q,z,.right (.here _ _) (.inl rfl),rfl,rfl,hbe,hbv,hzv,.inl (by simp only [dZ];omega)⟩
   | not q=>exact ⟨.not q,z,.right (.here _ _) (.inl rfl),rfl,rfl,hbe,hbv,hzv,.inl (by simp only [dZ];omega)⟩
   | aZ k q r=>exact ⟨.aZ k q r,z,.right (.here _ _) (.inl rfl),rfl,rfl,hbe,hbv,hzv,.inl (by simp only [dZ];omega)⟩
  ·exact .inr ⟨q,z1,.left hq,e,h3,h4,h5,h6,.inl (by have:=hq.sz;simp only [dZ];omega)⟩
 | @right a b z h z' p hr ih=>
  obtain ⟨h1,h2⟩:=ih ht.2.1 hz hzv
  refine ⟨h1,h2.imp id ?_⟩
  rintro ⟨q,z1,hq,e,h3,h4,h5,h6,h7⟩
  exact ⟨q,z1,.right hq (hq.nc h3),e,h3,h4,h5,h6,.inl (by have:=hq.sz;simp only [dZ];omega)⟩
 | @star a z h z' p ih=>
  have hv:ax (.star a) z≠aG:=fun e=>(ow ht e).elim (by simp) hzv
  obtain ⟨h1,h2⟩:=ih ht.1 (eF _ _ ht hz) hv
  refine ⟨h1,?_⟩
  rcases h2 with rfl | ⟨q,z1,hq,e,h3,h4,h5,h6,h7⟩
  ·exact .inr ⟨.star a,z,.here _ _,rfl,rfl,by simp,by simp,hzv,.inr ⟨rfl,rfl⟩⟩
  ·exact .inr ⟨q,z1,.star hq,e,h3,h4,h5,h6,.inl (by have:=hq.sz;simp only [dZ];omega)⟩
 | neg _ ih=>
  obtain ⟨h1,h2⟩:=ih ht.1 hz hzv
  refine ⟨h1,h2.imp id ?_⟩
  rintro ⟨q,z1,hq,e,h3,h4,h5,h6,h7⟩
  exact ⟨q,z1,.neg hq,e,h3,h4,h5,h6,.inl (by have:=hq.sz;simp only [dZ];omega)⟩
 | mem hm _ ih=>
  obtain ⟨h1,h2⟩:=ih (ht.members _ hm).1 hz hzv
  refine ⟨h1,h2.imp id ?_⟩
  rintro ⟨q,z1,hq,e,h3,h4,h5,h6,h7⟩
  exact ⟨q,z1,.mem hm hq,e,h3,h4,h5,h6,.inl (by have:=hq.sz;have:=uY hm;omega)⟩
end Go.Proofs.YtfolanohokflkaaGreatDoor
