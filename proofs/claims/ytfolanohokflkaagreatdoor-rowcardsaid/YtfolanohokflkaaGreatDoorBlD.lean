import Derived.Test.YtfolanohokflkaaGreatDoorProC
import Derived.WalkKit
import Derived.WalkSpells
import Derived.WalkLawsBesides
import Derived.WalkMore
import Derived.Deep.QuietTactic
import Derived.BigQuiet
import Derived.Test.YtfolanohokflkaaGreatDoorBlB
import Derived.Test.YtfolanohokflkaaGreatDoorNdL
namespace Go.Proofs.YtfolanohokflkaaGreatDoor
open Go.RowKit
def XX (s:ByteArray) (n:Nat):ByteArray:=if n<s.size then s.extract 0 n else s
theorem XY (s:ByteArray) (n:Nat):(XX s n).size<=n:=by
 unfold XX
 split
 ·simp [ByteArray.size_extract];omega
 ·omega
set_option maxRecDepth 100000 in
set_option maxHeartbeats 4000000 in
theorem aaP {w:World} {s:ByteArray} {n:Nat} (hn:n<=60) :
  Calls Tryz.prog 18 #[.string s,.int .i64 (n:Int)] w fun x w'=>x=.returned (.string (XX s n))/\w'=w:=by
 unfold XX
 by_cases h:n<s.size
 ·rw [if_pos h]
  have h':(n:Int)<(s.size:Int):=by omega
  go_enter Tryz.func18,Tryz.ntmps18
  go_wp2_with fail
  go_ret
  exact ⟨by simp,rfl⟩
 ·rw [if_neg h]
  have h':¬ (n:Int)<(s.size:Int):=by omega
  go_enter Tryz.func18,Tryz.ntmps18
  go_wp2_with fail
  go_ret
  exact ⟨rfl,rfl⟩
end Go.Proofs.YtfolanohokflkaaGreatDoor
namespace Go.Proofs.YtfolanohokflkaaGreatDoor
open Go.RowKit
theorem aw1:Mk ⟨#[97,42,98]⟩ ⟨#[97,97,98]⟩=1:=by decide +kernel
theorem aw2:Mk ⟨#[126,40,97,42,41]⟩ ⟨#[97,97,98]⟩=1:=by decide +kernel
theorem aw3:Mk ⟨#[46,123,50,125]⟩ ⟨#[195,169]⟩=0:=by decide +kernel
set_option maxRecDepth 100000 in
set_option maxHeartbeats 4000000 in
theorem FQ {w:World} (ht:Hid (Lib.Utf8Tabs 4 5 w)) :
  Calls Tryz.prog 16 #[] w fun x w'=>x=.returned (.bool true)/\Hid (Below w.heap.size w w'):=by
 have H1:=hide (fun (W:World) h=>tC (w:=W) (p:=⟨#[97,42,98]⟩) (u:=⟨#[97,97,98]⟩) (by decide) h)
 have H2:=hide (fun (W:World) h=>tC (w:=W) (p:=⟨#[126,40,97,42,41]⟩) (u:=⟨#[97,97,98]⟩) (by decide) h)
 have H3:=hide (fun (W:World) h=>tC (w:=W) (p:=⟨#[46,123,50,125]⟩) (u:=⟨#[195,169]⟩) (by decide) h)
 rw [aw1] at H1
 rw [aw2] at H2
 rw [aw3] at H3
 go_enter Tryz.func16,Tryz.ntmps16
 go_wp2_with (first
  | (have H1':=H1;clear H1;go_at_call 19;refine (aa H1' w ht).mono ?_;clear H1';rintro x w1 ⟨rfl,B1⟩)
  | (have H2':=H2;clear H2;go_at_call 19;refine (aa H2' w1 (dB ht B1)).mono ?_;clear H2';rintro x w2 ⟨rfl,hb2⟩;have B2:=Dn B1 hb2;clear hb2)
  | (have H3':=H3;clear H3;go_at_call 19;refine (aa H3' w2 (dB ht B2)).mono ?_;clear H3';rintro x w3 ⟨rfl,hb3⟩;have B3:=Dn B2 hb3;clear hb3))
 go_ret
 exact ⟨rfl,B3⟩
end Go.Proofs.YtfolanohokflkaaGreatDoor
namespace Go.Proofs.YtfolanohokflkaaGreatDoor
open Go.RowKit
theorem XZ {p u:ByteArray} {P:Pt} (h:aZ p=.ok P):Mk p u=if qZ P (mE u)=true then 1 else 0:=by
 unfold Mk tu
 rw [h]
 rfl
theorem X0 {p u:ByteArray} {x:Int×Int} (h:aZ p=.error x):Mk p u=-1:=by
 unfold Mk tu
 rw [h]
 dsimp only
 rw [if_neg (GU h)]
theorem L6 (u:ByteArray):dU (mE u):=Hr u
section
variable {p q S u:ByteArray} {P Q:Pt}
end
theorem L8 {p:ByteArray} (h:ow p=true):∃ P,aZ p=.ok P:=by
 unfold ow at h
 cases e:aZ p with
 | error x=>rw [e] at h;cases h
 | ok P=>exact ⟨P,rfl⟩
theorem Ib {p:ByteArray} {P:Pt} (h:aZ p=.ok P):p.size<=60:=by
 unfold aZ at h
 split at h
 ·cases h
 ·omega
end Go.Proofs.YtfolanohokflkaaGreatDoor
