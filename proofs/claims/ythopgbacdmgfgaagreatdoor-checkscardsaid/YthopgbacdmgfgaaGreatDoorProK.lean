import Derived.Test.YthopgbacdmgfgaaGreatDoorProJ
import Derived.WalkKit
import Derived.WalkSpells
import Derived.WalkLawsBesides
import Derived.WalkMore
namespace Go.Proofs.YthopgbacdmgfgaaGreatDoor
open Go.RowKit

section
variable {w0 w : World} {b : Nat} {s : ByteArray} {d : Int} {l : List Sy}

def RowP (R : Res Int) (at_ : List Sy → Res Int) (w0 wr : World) (b : Nat) (s : ByteArray) (d : Int) (z : Int) : Prop :=
  ∃ f l, rowLoopS s.size at_ f z l = R ∧ l.length < f ∧ Hid (PL w0 wr b s d l)
def SepP (R : Res Int) (sub : List Sy → Res Int) (sg : Int) (w0 wr : World) (b : Nat) (s : ByteArray) (d : Int) (z : Int) : Prop :=
  ∃ f l, sepLoopS s.size sub sg f z l = R ∧ l.length < f ∧ Hid (PL w0 wr b s d l)

set_option maxRecDepth 100000 in
set_option maxHeartbeats 8000000 in
theorem qRow {at_ : List Sy → Res Int} (HA : Hid (PartC 111 at_ w0 b s d)) (HB : Hid (Bd at_)) (HT : Hid (Shr at_)) : PartC 93 (rowS s.size at_) w0 b s d := by
  intro w l h
  obtain ⟨R, hR⟩ : ∃ R, rowS s.size at_ l = R := ⟨_, rfl⟩
  rw [hR]
  rw [rowS] at hR
  cases hc : rowEnd (hd l)
  · rw [if_neg (by rw [hc]; decide)] at hR
    have HE := hide hc
    clear hc
    cases hi : itemS s.size at_ (l.length + 1) l with
    | error y =>
      rw [hi] at hR
      have HX : Hid (R = .error y) := hR.symm
      have HI := hide hi
      clear hR hi
      go_enter Tryz.func93, Tryz.ntmps93
      go_wp2_with (first
        | (go_at_call 103; refine (qRowEnd h HE).mono ?_; clear h; rintro x w2 ⟨rfl, HS⟩)
        | (go_at_call 104; refine (out_err (qItem HA HB HS) HI).mono ?_; rintro x w3 ⟨rfl, HU⟩))
      rw [unhide HX]
      exact ⟨rfl, rfl, HU⟩
    | ok y =>
      obtain ⟨z, l1⟩ := y
      rw [hi] at hR
      dsimp only at hR
      have hz := itemS_bd (unhide HB) _ hi
      dsimp only at hz
      obtain ⟨hz0, hz61⟩ := hz
      have HR := hide hR
      have HI := hide hi
      clear hR hi
      go_enter Tryz.func93, Tryz.ntmps93
      go_wp2_with (first
        | (go_at_call 103; refine (qRowEnd h HE).mono ?_; clear h; rintro x w2 ⟨rfl, HS⟩)
        | (go_at_call 104; refine (out_int (qItem HA HB HS) HI).mono ?_; clear HS; rintro x w3 ⟨rfl, HS⟩))
      have HQ : Hid (RowP R at_ w0 w3 b s d z) := ⟨_, l1, unhide HR, Nat.lt_succ_self _, HS⟩
      clear HR HS HI HE
      go_loopw [3] (fun v wr => ∃ z : Int, v = .int .i64 z ∧ 0 ≤ z ∧ z ≤ 61 ∧ Hid (RowP R at_ w0 wr b s d z)) (fun _ wr => left s b wr)
      case atStart => exact ⟨z, rfl, hz0, hz61, HQ⟩
      case round =>
        clear HQ hz0 hz61
        obtain ⟨y, rfl, hy0, hy61, HQ⟩ := hrel
        obtain ⟨f2, l2, hf2, hlt2, HS⟩ := unhide HQ
        obtain ⟨f2, rfl⟩ : ∃ f', f2 = f' + 1 := ⟨f2 - 1, by omega⟩
        have HL := hide (PL.left HS)
        rw [rowLoopS] at hf2
        cases hc : rowEnd (hd l2)
        · rw [if_neg (by rw [hc]; decide)] at hf2
          have HE := hide hc
          clear hc
          cases hi : itemS s.size at_ (l2.length + 1) l2 with
          | error y =>
            rw [hi] at hf2
            have HX : Hid (R = .error y) := hf2.symm
            have HI := hide hi
            clear hf2 hi HQ HL
            go_wp2_with (first
              | (go_at_call 103; refine (qRowEnd HS HE).mono ?_; clear HS; rintro x w2 ⟨rfl, HS⟩)
              | (go_at_call 104; refine (out_err (qItem HA HB HS) HI).mono ?_; rintro x w3 ⟨rfl, HU⟩))
            rw [unhide HX]
            exact ⟨rfl, rfl, HU⟩
          | ok u =>
            obtain ⟨m, l3⟩ := u
            rw [hi] at hf2
            dsimp only at hf2
            have HX := hide hf2
            have hlen := itemS_len (unhide HT) _ hi
            have hbd := itemS_bd (unhide HB) _ hi
            have HI := hide hi
            dsimp only at hlen hbd
            obtain ⟨hm0, hm61⟩ := hbd
            clear hf2 HQ hi
            go_wp2_with (first
              | (go_at_call 103; refine (qRowEnd HS HE).mono ?_; clear HS; rintro x w2 ⟨rfl, HS⟩)
              | (go_at_call 104; refine (out_int (qItem HA HB HS) HI).mono ?_; clear HS; rintro x w3 ⟨rfl, HS⟩)
              | (go_at_call 83; refine (pCapped _ _).mono ?_; rintro x w6 ⟨rfl, rfl⟩))
            go_roundw
            case rel => exact ⟨_, rfl, cap_ge (by omega), cap_le _, f2, l3, unhide HX, by omega, HS⟩
            case measure =>
              have e1 := PL.left HS
              have e2 := unhide HL
              show left s b _ < left s b _
              omega
        · rw [if_pos hc] at hf2
          have HE := hide hc
          have HX : Hid (R = .ok (y, l2)) := hf2.symm
          clear hc hf2 HQ HL
          go_wp2_with (first
            | (go_at_call 103; refine (qRowEnd HS HE).mono ?_; clear HS; rintro x w2 ⟨rfl, HS⟩))
          go_ret
          rw [unhide HX]
          exact ⟨rfl, HS⟩
  · rw [if_pos hc] at hR
    have HX : Hid (R = .ok (1, l)) := hR.symm
    have HE := hide hc
    clear hc hR
    go_enter Tryz.func93, Tryz.ntmps93
    go_wp2_with (first
      | (go_at_call 103; refine (qRowEnd h HE).mono ?_; clear h; rintro x w2 ⟨rfl, HS⟩))
    go_ret
    rw [unhide HX]
    exact ⟨rfl, HS⟩

set_option maxRecDepth 100000 in
set_option maxHeartbeats 8000000 in
theorem qBoth {sub : List Sy → Res Int} (HA : Hid (PartC 93 sub w0 b s d)) (HB : Hid (Bd sub)) (HT : Hid (Shr0 sub)) : PartC 81 (sepS s.size sub 38) w0 b s d := by
  intro w l h
  obtain ⟨R, hR⟩ : ∃ R, sepS s.size sub 38 l = R := ⟨_, rfl⟩
  rw [hR]
  rw [sepS] at hR
  cases hi : sub l with
  | error y =>
    rw [hi] at hR
    have HX : Hid (R = .error y) := hR.symm
    have HI := hide hi
    clear hR hi
    go_enter Tryz.func81, Tryz.ntmps81
    go_wp2_with (first
      | (go_at_call 93; refine (out_err (unhide HA _ _ h) HI).mono ?_; rintro x w3 ⟨rfl, HU⟩))
    rw [unhide HX]
    exact ⟨rfl, rfl, HU⟩
  | ok y =>
    obtain ⟨z, l1⟩ := y
    rw [hi] at hR
    dsimp only at hR
    have hz := unhide HB _ _ hi
    dsimp only at hz
    obtain ⟨hz0, hz61⟩ := hz
    have HR := hide hR
    have HI := hide hi
    clear hR hi
    go_enter Tryz.func81, Tryz.ntmps81
    go_wp2_with (first
      | (go_at_call 93; refine (out_int (unhide HA _ _ h) HI).mono ?_; rintro x w3 ⟨rfl, HS⟩))
    have HQ : Hid (SepP R sub 38 w0 w3 b s d z) := ⟨_, l1, unhide HR, Nat.lt_succ_self _, HS⟩
    clear HR HS HI
    go_loopw [3] (fun v wr => ∃ z : Int, v = .int .i64 z ∧ 0 ≤ z ∧ z ≤ 61 ∧ Hid (SepP R sub 38 w0 wr b s d z)) (fun _ wr => left s b wr)
    case atStart => exact ⟨z, rfl, hz0, hz61, HQ⟩
    case round =>
      clear HQ hz0 hz61 h
      obtain ⟨y, rfl, hy0, hy61, HQ⟩ := hrel
      obtain ⟨f2, l2, hf2, hlt2, HS⟩ := unhide HQ
      obtain ⟨f2, rfl⟩ : ∃ f', f2 = f' + 1 := ⟨f2 - 1, by omega⟩
      have HL := hide (PL.left HS)
      rw [sepLoopS] at hf2
      by_cases hc : hd l2 = 38
      · have hp := hd_pos (l := l2) (by omega)
        rw [if_pos hc] at hf2
        have HE := hide hc
        clear hc
        cases hi : sub l2.tail with
        | error y =>
          rw [hi] at hf2
          have HX : Hid (R = .error y) := hf2.symm
          have HI := hide hi
          clear hf2 hi HQ HL
          go_wp2_with (first
            | (go_at_call 82; refine (qMet_yes HS 38 HE).mono ?_; clear HS; rintro x w2 ⟨rfl, HS⟩)
            | (go_at_call 93; refine (out_err (unhide HA _ _ HS) HI).mono ?_; rintro x w3 ⟨rfl, HU⟩))
          rw [unhide HX]
          exact ⟨rfl, rfl, HU⟩
        | ok u =>
          obtain ⟨m, l3⟩ := u
          rw [hi] at hf2
          dsimp only at hf2
          have HX := hide hf2
          have hlen := unhide HT _ _ hi
          have hbd := unhide HB _ _ hi
          have HI := hide hi
          dsimp only at hlen hbd
          obtain ⟨hm0, hm61⟩ := hbd
          clear hf2 HQ hi
          go_wp2_with (first
            | (go_at_call 82; refine (qMet_yes HS 38 HE).mono ?_; clear HS; rintro x w2 ⟨rfl, HS⟩)
            | (go_at_call 93; refine (out_int (unhide HA _ _ HS) HI).mono ?_; clear HS; rintro x w3 ⟨rfl, HS⟩)
            | (go_at_call 83; refine (pCapped _ _).mono ?_; rintro x w6 ⟨rfl, rfl⟩))
          go_roundw
          case rel => exact ⟨_, rfl, cap_ge (by omega), cap_le _, f2, l3, unhide HX, by omega, HS⟩
          case measure =>
            have e1 := PL.left HS
            have e2 := unhide HL
            show left s b _ < left s b _
            omega
      · rw [if_neg hc] at hf2
        have HE := hide hc
        have HX : Hid (R = .ok (y, l2)) := hf2.symm
        clear hc hf2 HQ HL
        go_wp2_with (first
          | (go_at_call 82; refine (qMet_no HS 38 HE).mono ?_; clear HS; rintro x w2 ⟨rfl, HS⟩))
        go_ret
        rw [unhide HX]
        exact ⟨rfl, HS⟩

set_option maxRecDepth 100000 in
set_option maxHeartbeats 8000000 in
theorem qChoice {sub : List Sy → Res Int} (HA : Hid (PartC 81 sub w0 b s d)) (HB : Hid (Bd sub)) (HT : Hid (Shr0 sub)) : PartC 54 (sepS s.size sub 124) w0 b s d := by
  intro w l h
  obtain ⟨R, hR⟩ : ∃ R, sepS s.size sub 124 l = R := ⟨_, rfl⟩
  rw [hR]
  rw [sepS] at hR
  cases hi : sub l with
  | error y =>
    rw [hi] at hR
    have HX : Hid (R = .error y) := hR.symm
    have HI := hide hi
    clear hR hi
    go_enter Tryz.func54, Tryz.ntmps54
    go_wp2_with (first
      | (go_at_call 81; refine (out_err (unhide HA _ _ h) HI).mono ?_; rintro x w3 ⟨rfl, HU⟩))
    rw [unhide HX]
    exact ⟨rfl, rfl, HU⟩
  | ok y =>
    obtain ⟨z, l1⟩ := y
    rw [hi] at hR
    dsimp only at hR
    have hz := unhide HB _ _ hi
    dsimp only at hz
    obtain ⟨hz0, hz61⟩ := hz
    have HR := hide hR
    have HI := hide hi
    clear hR hi
    go_enter Tryz.func54, Tryz.ntmps54
    go_wp2_with (first
      | (go_at_call 81; refine (out_int (unhide HA _ _ h) HI).mono ?_; rintro x w3 ⟨rfl, HS⟩))
    have HQ : Hid (SepP R sub 124 w0 w3 b s d z) := ⟨_, l1, unhide HR, Nat.lt_succ_self _, HS⟩
    clear HR HS HI
    go_loopw [3] (fun v wr => ∃ z : Int, v = .int .i64 z ∧ 0 ≤ z ∧ z ≤ 61 ∧ Hid (SepP R sub 124 w0 wr b s d z)) (fun _ wr => left s b wr)
    case atStart => exact ⟨z, rfl, hz0, hz61, HQ⟩
    case round =>
      clear HQ hz0 hz61 h
      obtain ⟨y, rfl, hy0, hy61, HQ⟩ := hrel
      obtain ⟨f2, l2, hf2, hlt2, HS⟩ := unhide HQ
      obtain ⟨f2, rfl⟩ : ∃ f', f2 = f' + 1 := ⟨f2 - 1, by omega⟩
      have HL := hide (PL.left HS)
      rw [sepLoopS] at hf2
      by_cases hc : hd l2 = 124
      · have hp := hd_pos (l := l2) (by omega)
        rw [if_pos hc] at hf2
        have HE := hide hc
        clear hc
        cases hi : sub l2.tail with
        | error y =>
          rw [hi] at hf2
          have HX : Hid (R = .error y) := hf2.symm
          have HI := hide hi
          clear hf2 hi HQ HL
          go_wp2_with (first
            | (go_at_call 82; refine (qMet_yes HS 124 HE).mono ?_; clear HS; rintro x w2 ⟨rfl, HS⟩)
            | (go_at_call 81; refine (out_err (unhide HA _ _ HS) HI).mono ?_; rintro x w3 ⟨rfl, HU⟩))
          rw [unhide HX]
          exact ⟨rfl, rfl, HU⟩
        | ok u =>
          obtain ⟨m, l3⟩ := u
          rw [hi] at hf2
          dsimp only at hf2
          have HX := hide hf2
          have hlen := unhide HT _ _ hi
          have hbd := unhide HB _ _ hi
          have HI := hide hi
          dsimp only at hlen hbd
          obtain ⟨hm0, hm61⟩ := hbd
          clear hf2 HQ hi
          go_wp2_with (first
            | (go_at_call 82; refine (qMet_yes HS 124 HE).mono ?_; clear HS; rintro x w2 ⟨rfl, HS⟩)
            | (go_at_call 81; refine (out_int (unhide HA _ _ HS) HI).mono ?_; clear HS; rintro x w3 ⟨rfl, HS⟩)
            | (go_at_call 83; refine (pCapped _ _).mono ?_; rintro x w6 ⟨rfl, rfl⟩))
          go_roundw
          case rel => exact ⟨_, rfl, cap_ge (by omega), cap_le _, f2, l3, unhide HX, by omega, HS⟩
          case measure =>
            have e1 := PL.left HS
            have e2 := unhide HL
            show left s b _ < left s b _
            omega
      · rw [if_neg hc] at hf2
        have HE := hide hc
        have HX : Hid (R = .ok (y, l2)) := hf2.symm
        clear hc hf2 HQ HL
        go_wp2_with (first
          | (go_at_call 82; refine (qMet_no HS 124 HE).mono ?_; clear HS; rintro x w2 ⟨rfl, HS⟩))
        go_ret
        rw [unhide HX]
        exact ⟨rfl, HS⟩

end
end Go.Proofs.YthopgbacdmgfgaaGreatDoor
