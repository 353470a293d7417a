import Derived.Test.YtfolanohokflkaaGreatDoorBlB
import Derived.Test.YtfolanohokflkaaGreatDoorBlW
import Derived.Test.YtfolanohokflkaaGreatDoorCards
import Derived.Test.YtfolanohokflkaaGreatDoorTie
import Derived.Test.YtfolanohokflkaaGreatDoorBlE
import Derived.WalkKit
import Derived.ProofKit
import Derived.OpenShut
import Derived.Carry
import Derived.ChangeOld
import Derived.Deep.Slices
import Derived.ChangeMaps5
import Derived.Deep.DeepHandedRow
import Derived.Lib.LaidTab
import Derived.Lib.LaidU8
import Derived.Lay
namespace Go.Proofs.YtfolanohokflkaaGreatDoor
open Go.RowKit
theorem xU (p u:ByteArray):Zh (CE p u):=by
 unfold CE Zh
 split
 ·split
  ·exact .inr (.inr rfl)
  ·exact .inr (.inl rfl)
 ·exact .inl rfl
theorem aw1:CE ⟨#[97,42,98]⟩ ⟨#[97,97,98]⟩=1:=by decide +kernel
theorem aw2:CE ⟨#[126,40,97,42,41]⟩ ⟨#[97,97,98]⟩=1:=by decide +kernel
theorem aw3:CE ⟨#[46,123,50,125]⟩ ⟨#[195,169]⟩=0:=by decide +kernel
set_option maxRecDepth 100000 in
set_option maxHeartbeats 4000000 in
theorem EF {w:World} (ht:Hid (Lib.Utf8Tabs 4 5 w)) :
  Calls Tryz.prog 16 #[] w fun x w'=>x=.returned (.bool true)/\Hid (Below w.heap.size w w'):=by
 have H1:=hide (fun (W:World) h=>rW (w:=W) (p:=⟨#[97,42,98]⟩) (u:=⟨#[97,97,98]⟩) (by decide) h)
 have H2:=hide (fun (W:World) h=>rW (w:=W) (p:=⟨#[126,40,97,42,41]⟩) (u:=⟨#[97,97,98]⟩) (by decide) h)
 have H3:=hide (fun (W:World) h=>rW (w:=W) (p:=⟨#[46,123,50,125]⟩) (u:=⟨#[195,169]⟩) (by decide) h)
 rw [aw1] at H1
 rw [aw2] at H2
 rw [aw3] at H3
 go_enter Tryz.func16,Tryz.ntmps16
 go_wp2_with (first
  | (have H1':=H1;clear H1;go_at_call 19;refine (aa H1' w ht).mono ?_;clear H1';rintro x w1 ⟨rfl,B1⟩)
  | (have H2':=H2;clear H2;go_at_call 19;refine (aa H2' w1 (gJ ht B1)).mono ?_;clear H2';rintro x w2 ⟨rfl,hb2⟩;have B2:=Cf B1 hb2;clear hb2)
  | (have H3':=H3;clear H3;go_at_call 19;refine (aa H3' w2 (gJ ht B2)).mono ?_;clear H3';rintro x w3 ⟨rfl,hb3⟩;have B3:=Cf B2 hb3;clear hb3))
 go_ret
 exact ⟨rfl,B3⟩
end Go.Proofs.YtfolanohokflkaaGreatDoor
namespace Go.Proofs.YtfolanohokflkaaGreatDoor
open Go.RowKit
theorem yH {p u:ByteArray} {P:Pt} (h:bn p=.ok P):CE p u=if lZ P (sM u)=true then 1 else 0:=by
 unfold CE rV
 rw [h]
 rfl
theorem MO {p u:ByteArray} {x:Int×Int} (h:bn p=.error x):CE p u=-1:=by
 unfold CE rV
 rw [h]
 dsimp only
 rw [if_neg (Gf h)]
theorem CG (u:ByteArray):fB (sM u):=Ob u
section
variable {p q S u:ByteArray} {P Q:Pt}
theorem YC (hp:bn p=.ok P) (hq:bn q=.ok Q) (hS:S.data.toList=40::(p.data.toList++41::38::40::(q.data.toList++[41]))):xS (CE p u) (CE q u) (CE S u) false=true:=by
 rw [yH hp,yH hq]
 cases hs:bn S with
 | error x=>rw [MO hs];unfold xS;rw [if_pos (.inr (.inr (by decide)))]
 | ok T=>
  have e:=VB hp hq hS hs
  subst e
  rw [yH hs,VD (nC hp) (nC hq) (CG u)]
  cases lZ P (sM u)<;>cases lZ Q (sM u)<;>rfl
theorem aa4 (hp:bn p=.ok P) (hq:bn q=.ok Q) (hS:S.data.toList=40::(p.data.toList++41::124::40::(q.data.toList++[41]))):xS (CE p u) (CE q u) (CE S u) true=true:=by
 rw [yH hp,yH hq]
 cases hs:bn S with
 | error x=>rw [MO hs];unfold xS;rw [if_pos (.inr (.inr (by decide)))]
 | ok T=>
  have e:=Yw hp hq hS hs
  subst e
  rw [yH hs,Yx (nC hp) (nC hq) (CG u)]
  cases lZ P (sM u)<;>cases lZ Q (sM u)<;>rfl
theorem YD (hp:bn p=.ok P) (hS:S.data.toList=126::40::(p.data.toList++[41])):(CE p u=0/\(CE S u=-1\/CE S u=1))\/(CE p u=1/\(CE S u=-1\/CE S u=0)):=by
 rw [yH hp]
 cases hs:bn S with
 | error x=>rw [MO hs];cases lZ P (sM u)<;>simp
 | ok T=>
  have e:=VC hp hS hs
  subst e
  rw [yH hs,VE (nC hp) (CG u)]
  cases lZ P (sM u)<;>simp
end
theorem Km {p:ByteArray} (h:nS p=true):∃ P,bn p=.ok P:=by
 unfold nS at h
 cases e:bn p with
 | error x=>rw [e] at h;cases h
 | ok P=>exact ⟨P,rfl⟩
theorem O_ {p:ByteArray} {P:Pt} (h:bn p=.ok P):p.size<=60:=by
 unfold bn at h
 split at h
 ·cases h
 ·omega
theorem YE (p q:ByteArray):((((⟨#[40]⟩++p)++⟨#[41,38,40]⟩)++q++⟨#[41]⟩:ByteArray)).data.toList=40::(p.data.toList++41::38::40::(q.data.toList++[41])):=by
 simp [ByteArray.data_append]
theorem aa5 (p q:ByteArray):((((⟨#[40]⟩++p)++⟨#[41,124,40]⟩)++q++⟨#[41]⟩:ByteArray)).data.toList=40::(p.data.toList++41::124::40::(q.data.toList++[41])):=by
 simp [ByteArray.data_append]
theorem YF (p:ByteArray):(((⟨#[126,40]⟩++p)++⟨#[41]⟩:ByteArray)).data.toList=126::40::(p.data.toList++[41]):=by
 simp [ByteArray.data_append]
theorem Kn {w:World} {p q t:ByteArray} (ht:Hid (Lib.Utf8Tabs 4 5 w)) :
  Calls Tryz.prog 6 #[.string p,.string q,.string t] w fun e w'=>e=.returned (.bool true)/\Hid (Below w.heap.size w w'):=by
 by_cases h:nS p=false\/nS q=false
 ·exact Gg ht (hide (EF ht)) (hide fun W hW=>sP hW) (hide fun W hW=>sP hW) h
 ·have h1:nS p=true:=by
   cases e:nS p with
   | true=>rfl
   | false=>exact absurd (.inl e) h
  have h2:nS q=true:=by
   cases e:nS q with
   | true=>rfl
   | false=>exact absurd (.inr e) h
  obtain ⟨P,hP⟩:=Km h1
  obtain ⟨Q,hQ⟩:=Km h2
  have hu:=VJ t 60
  refine Gh (u:=CF t 60) ht (O_ hP) (O_ hQ) (hide (EF ht)) (hide fun W hW=>?_) (hide fun W hW=>?_) (hide fun W=>YB (n:=60) (by omega)) (hide fun W hW=>rW hu hW) (hide fun W hW=>rW hu hW) (hide fun W hW=>rW hu hW) (hide fun W hW=>rW hu hW) (hide fun W hW=>rW hu hW) (hide fun W=>?_) (hide fun W=>?_) (YD hP (YF p))
  ·have:=sP (p:=p) hW;rw [h1] at this;exact this
  ·have:=sP (p:=q) hW;rw [h2] at this;exact this
  ·have:=Rh (w:=W) (xU p (CF t 60)) (xU q (CF t 60)) (xU (((⟨#[40]⟩++p)++⟨#[41,38,40]⟩)++q++⟨#[41]⟩) (CF t 60))
   rw [YC hP hQ (YE p q)] at this
   exact this
  ·have:=VK (w:=W) (xU p (CF t 60)) (xU q (CF t 60)) (xU (((⟨#[40]⟩++p)++⟨#[41,124,40]⟩)++q++⟨#[41]⟩) (CF t 60))
   rw [aa4 hP hQ (aa5 p q)] at this
   exact this
end Go.Proofs.YtfolanohokflkaaGreatDoor
namespace Go.Proofs.YtfolanohokflkaaGreatDoor
open Go.ChangeShapes Go.WideShapes Go.ChangeAt Go.RowKit Go.ChangeMaps
theorem Ri {W:World} (h:laidMetH Tryz.prog Rows.booleanRow.laid W):Lib.Utf8Tabs 4 5 W:=by
 have h1:laidMet Tryz.prog Rows.booleanRow.laid W:=h
 exact utf8Tabs_of_reads Tryz.Wd Wh (Lib.laidMet.reads h1 (by rw [<-Ru];simp [Rows.booleanRow])) (Lib.laidMet.reads h1 (by rw [<-Pe];simp [Rows.booleanRow]))
set_option maxRecDepth 100000 in
theorem contract (H:Type) (enc:TypeId×Value->H) (W:World) (base:Nat) (args:Array Value) (ds gs:List (DataW H)) (before:List MemPlace)
  (hval:∀ (j:Nat) t v,Tryz.f6.params[j]? = some t->args[j]? = some v->Value.okWide Tryz.prog W .any base t v)
  (hW:DataW.Whole enc Tryz.prog Tryz.f6.params.toList Rows.booleanSpec.vars false W args.toList ds gs before) (hL:laidMetH Tryz.prog Rows.booleanRow.laid W) :
  Calls Tryz.prog 6 args W fun e W'=>∃ v,e=.returned v/\Rows.booleanSpec.post enc Tryz.prog Tryz.f6 false true false false W args v W':=by
 have hW':=hW
 obtain ⟨p,q,hA0,hV,rfl,hfz,hnd⟩:=hW
 have hA:DataW.TrodAll enc Tryz.prog W 0 (fun _=>true) true Tryz.f6.params.toList args.toList ds p:=hA0
 rw [Tryz.params6] at hA hval
 obtain ⟨v0,vs0,d0,ds0,p0,q0,hargs,rfl,rfl,h0,r0⟩:=trodAll_cons hA
 obtain ⟨v1,vs1,d1,ds1,p1,q1,acY,rfl,rfl,h1,r1⟩:=trodAll_cons r0
 obtain ⟨v2,vs2,d2,ds2,p2,q2,acZ,rfl,rfl,h2,r2⟩:=trodAll_cons r1
 obtain ⟨rfl,rfl,rfl⟩:=trodAll_nil r2
 obtain rfl:args=#[v0,v1,v2]:=by cases args;simp_all
 obtain ⟨rfl,rfl⟩:=trodVars_none hV
 obtain ⟨x,rfl,rfl,rfl,hx⟩:=open_string Tryz.underlying9 (hval 0 9 v0 rfl rfl) h0
 obtain ⟨y,rfl,rfl,rfl,hy⟩:=open_string Tryz.underlying9 (hval 1 9 v1 rfl rfl) h1
 obtain ⟨z,rfl,rfl,rfl,hz⟩:=open_string Tryz.underlying9 (hval 2 9 v2 rfl rfl) h2
 clear hA0
 refine (Kn (hide (Ri hL))).mono fun e W' ⟨he,hb⟩=>?_
 subst he
 refine ⟨_,rfl,⟨_,_,_,[],[],[],hW',?_,?_,rfl,(aa hb).frame _,fun h=>by cases h⟩⟩
 ·exact trodAll_cons_mk (shut_bool Tryz.underlying4 _) trodAll_mk0
 ·exact trodAll_cons_mk (shut_string Tryz.underlying9 hx) (trodAll_cons_mk (shut_string Tryz.underlying9 hy) (trodAll_cons_mk (shut_string Tryz.underlying9 hz) trodAll_mk0))
noncomputable def xV (os:Os):World:=World.laidAll Tryz.prog os Rows.booleanRow.laid
theorem VL (os:Os):laidMet Tryz.prog Rows.booleanRow.laid ((xV os).forCall (fun _ _=>0) ⟨#[],#[.string ⟨#[]⟩,.string ⟨#[]⟩,.string ⟨#[]⟩],[]⟩).memory:=
 laidMet_laidAll #[.string ⟨#[]⟩,.string ⟨#[]⟩,.string ⟨#[]⟩] (by kernel_rfl) (by kernel_rfl)
theorem reads (os:Os) {H:Type} (enc:TypeId×Value->H):∃ places,DataW.whole enc Tryz.prog ((xV os).forCall (fun _ _=>0) ⟨#[],#[.string ⟨#[]⟩,.string ⟨#[]⟩,.string ⟨#[]⟩],[]⟩).memory Tryz.f6.params.toList Rows.booleanSpec.vars false #[Value.string ⟨#[]⟩,Value.string ⟨#[]⟩,Value.string ⟨#[]⟩].toList 8=some ([.lit (.string []),.lit (.string []),.lit (.string [])],[],places):=
 ⟨[],by kernel_rfl⟩
set_option maxRecDepth 100000 in
theorem lifted (os:Os) (started:os.Started) (H:Type) (enc:TypeId×Value->H) (F:Stop.Interp) :
  ReturnsInHanded {} Tryz.checked os 6 .any ((OpenSpec.ofChange Rows.booleanSpec).preRow enc Tryz.prog Tryz.f6 Rows.booleanRow.domain false Rows.booleanRow.laid) (((OpenSpec.ofChange Rows.booleanSpec).at F).post enc Tryz.prog Tryz.f6 false true false false):=by
 obtain ⟨places,hx⟩:=reads os enc
 refine returnsInHanded_of_row (C:=Tryz.checked) (s:=OpenSpec.ofChange Rows.booleanSpec) own started (by kernel_rfl) Tryz.func6
  (witness_row_at (enc:=enc) (C:=Tryz.checked) false (xV os) #[.string ⟨#[]⟩,.string ⟨#[]⟩,.string ⟨#[]⟩] (World.laidAll_os _ _ _) (by kernel_rfl) (by kernel_rfl) (by kernel_rfl)
   (OpenSpec.preRow_of_cond 8 hx (by kernel_rfl) (fun k hk=>by cases hk) (by kernel_rfl) (VL os))) ?_
 intro W base args ds gs before hval hW _ _ _ hL _ _
 exact contract H enc W base args ds gs before hval hW hL
set_option maxRecDepth 100000 in
theorem said:Rows.BooleanSaid:=
 OpenClaim.holds_of_cond 6 Tryz.f6 rfl rfl rfl rfl rfl rfl rfl ⟨rfl,rfl,rfl,rfl,rfl⟩ rfl rfl rfl rfl rfl (by kernel_rfl) Tryz.func6 (by exact acn)
  (of_decide_eq_true (by kernel_rfl)) (by unfold Func.isWrapper;first | (rw [if_pos (by decide +kernel)];kernel_rfl) | (rw [if_neg (by decide +kernel)];exact ⟨rfl,rfl⟩))
  (fun os started H enc _ F=>by rw [OpenClaim.pre_eq_preRow];exact lifted os started H enc F)
theorem boolean_card:Rows.BooleanCardSaid:=
 Claim7.holds_tied_plain_at .later [] _ _ _ _ said (fun _ h=>by cases h) Wi (fun _ h=>by cases h) boolean_row_tie rfl ⟨rfl,rfl⟩ Ph rfl plain Pj
#print axioms boolean_card
end Go.Proofs.YtfolanohokflkaaGreatDoor
