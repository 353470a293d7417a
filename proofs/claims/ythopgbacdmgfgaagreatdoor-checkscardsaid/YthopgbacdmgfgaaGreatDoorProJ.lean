import Derived.Test.YthopgbacdmgfgaaGreatDoorProI
import Derived.Test.YthopgbacdmgfgaaGreatDoorBnd
import Derived.WalkKit
import Derived.WalkSpells
import Derived.WalkLawsBesides
import Derived.WalkMore
namespace Go.Proofs.YthopgbacdmgfgaaGreatDoor
open Go.RowKit

section
variable {w0 w : World} {b : Nat} {s : ByteArray} {d : Int} {l : List Sy}

theorem PL.len (h : Hid (PL w0 w b s d l)) : l.length ≤ 60 := by
  obtain ⟨p, h1, rfl⟩ := unhide h
  have := symsFrom_len s p
  have := h1.small
  omega
/-- what calls of a part of the reader answer, from any world. -/
def PartC (f : Nat) (sub : List Sy → Res Int) (w0 : World) (b : Nat) (s : ByteArray) (d : Int) : Prop :=
  ∀ w1 l1, Hid (PL w0 w1 b s d l1) → Calls Tryz.prog f #[.pointer (some ⟨b, 0, none⟩)] w1 (QOut (sub l1) vInt w0 b s d)

def NotP (R : Res Int) (at_ : List Sy → Res Int) (w0 wr : World) (b : Nat) (s : ByteArray) (d : Int) (k : Nat) : Prop :=
  ∃ f l, itemK k (itemS s.size at_ f l) = R ∧ l.length < f ∧ k + l.length ≤ 60 ∧ Hid (PL w0 wr b s d l)
def RepP (R : Res Int) (w0 wr : World) (b : Nat) (s : ByteArray) (d : Int) (k : Nat) (z : Int) : Prop :=
  ∃ f l, itemK k (repsS s.size f z l) = R ∧ l.length < f ∧ Hid (PL w0 wr b s d l)

set_option maxRecDepth 100000 in
set_option maxHeartbeats 8000000 in
theorem qItem {at_ : List Sy → Res Int} (HA : Hid (PartC 111 at_ w0 b s d)) (HB : Hid (Bd at_)) (h : Hid (PL w0 w b s d l)) :
    Calls Tryz.prog 104 #[.pointer (some ⟨b, 0, none⟩)] w (QOut (itemS s.size at_ (l.length + 1) l) vInt w0 b s d) := by
  obtain ⟨R, hR⟩ : ∃ R, itemS s.size at_ (l.length + 1) l = R := ⟨_, rfl⟩
  rw [hR]
  have HP : Hid (NotP R at_ w0 w b s d 0) := ⟨_, l, by rw [itemK_zero (fun y hy => (itemS_bd (unhide HB) _ hy).2)]; exact hR, Nat.lt_succ_self _, by have := PL.len h; omega, h⟩
  clear hR h
  go_enter Tryz.func104, Tryz.ntmps104
  go_wp2_with fail
  go_loopw [3] (fun v wr => ∃ k : Nat, v = .int .i64 k ∧ Hid (NotP R at_ w0 wr b s d k)) (fun _ wr => left s b wr)
  case atStart => exact ⟨0, rfl, HP⟩
  case round =>
    clear HP
    obtain ⟨k, rfl, HP⟩ := hrel
    obtain ⟨f, l', hf, hlt, hk, HS⟩ := unhide HP
    obtain ⟨f, rfl⟩ : ∃ f', f = f' + 1 := ⟨f - 1, by omega⟩
    have HL := hide (PL.left HS)
    have hk60 : (k : Int) ≤ 60 := by omega
    by_cases hn : hd l' = 126
    · have hp := hd_pos (l := l') (by omega)
      rw [itemK_step hn] at hf
      have HF := hide hf
      have HN := hide hn
      clear hf hn HP
      go_wp2_with (first
        | (go_at_call 82; refine (qMet_yes HS 126 HN).mono ?_; clear HS; rintro x w2 ⟨rfl, HS⟩))
      go_roundw
      case rel => exact ⟨k + 1, by go_num, f, _, unhide HF, by omega, by omega, HS⟩
      case measure =>
        have e1 := PL.left HS
        have e2 := unhide HL
        show left s b _ < left s b _
        omega
    · rw [itemS, if_neg hn] at hf
      have HN := hide hn
      clear hn HP HL
      cases ha : at_ l' with
      | error y =>
        rw [ha] at hf
        have HX : Hid (R = .error y) := hf.symm
        have HAT := hide ha
        clear ha hf
        go_wp2_with (first
          | (go_at_call 82; refine (qMet_no HS 126 HN).mono ?_; clear HS; rintro x w2 ⟨rfl, HS⟩)
          | (go_at_call 111; refine (out_err (unhide HA _ _ HS) HAT).mono ?_; rintro x w3 ⟨rfl, HU⟩))
        rw [unhide HX]
        exact ⟨rfl, rfl, HU⟩
      | ok y =>
        obtain ⟨z, l1⟩ := y
        rw [ha] at hf
        dsimp only at hf
        have hz := unhide HB _ _ ha
        dsimp only at hz
        obtain ⟨hz0, hz61⟩ := hz
        have HAT := hide ha
        have HF := hide hf
        clear ha hf
        go_wp2_with (first
          | (go_at_call 82; refine (qMet_no HS 126 HN).mono ?_; clear HS; rintro x w2 ⟨rfl, HS⟩)
          | (go_at_call 111; refine (out_int (unhide HA _ _ HS) HAT).mono ?_; clear HS; rintro x w3 ⟨rfl, HS⟩))
        have HQ : Hid (RepP R w0 w3 b s d k z) := ⟨_, l1, unhide HF, Nat.lt_succ_self _, HS⟩
        clear HF HS HAT HN
        go_loopw [4] (fun v wr => ∃ z : Int, v = .int .i64 z ∧ 0 ≤ z ∧ z ≤ 61 ∧ Hid (RepP R w0 wr b s d k z)) (fun _ wr => left s b wr)
        case atStart => exact ⟨z, rfl, hz0, hz61, HQ⟩
        case round =>
          clear HQ hz0 hz61 hlt hk
          obtain ⟨y, rfl, hy0, hy61, HQ⟩ := hrel
          obtain ⟨f2, l2, hf2, hlt2, HS⟩ := unhide HQ
          obtain ⟨f2, rfl⟩ : ∃ f', f2 = f' + 1 := ⟨f2 - 1, by omega⟩
          have HL := hide (PL.left HS)
          rw [repsS] at hf2
          obtain ⟨c, hcc⟩ : ∃ c, hd l2 = c := ⟨_, rfl⟩
          have HCC := hide hcc
          rw [hcc] at hf2
          cases hr : isRep c
          · rw [if_neg (by rw [hr]; decide)] at hf2
            have HX : Hid (R = .ok (cap61 (y + k), l2)) := hf2.symm
            have HR := hide hr
            clear hr hf2 HQ HL hcc
            go_wp2_with (first
              | (go_at_call 94; refine (qLook HS HCC).mono ?_; clear HS; rintro x w2 ⟨rfl, HS⟩)
              | (go_at_call 112; refine (qCon_rep HS HCC HR).mono ?_; clear HS; rintro x w4 ⟨rfl, HS⟩)
              | (go_at_call 83; refine (pCapped _ _).mono ?_; rintro x w5 ⟨rfl, rfl⟩))
            go_ret
            rw [unhide HX]
            exact ⟨rfl, HS⟩
          · rw [if_pos hr] at hf2
            have HR := hide hr
            cases hm : repeatS s.size l2 with
            | error y =>
              rw [hm] at hf2
              have HX : Hid (R = .error y) := hf2.symm
              have HM := hide hm
              clear hr hf2 HQ HL hm hcc
              go_wp2_with (first
                | (go_at_call 94; refine (qLook HS HCC).mono ?_; clear HS; rintro x w2 ⟨rfl, HS⟩)
                | (go_at_call 112; refine (qCon_rep HS HCC HR).mono ?_; clear HS; rintro x w4 ⟨rfl, HS⟩)
                | (go_at_call 113; refine (out_err (qRepeat HS) HM).mono ?_; rintro x w5 ⟨rfl, HU⟩))
              rw [unhide HX]
              exact ⟨rfl, rfl, HU⟩
            | ok u =>
              obtain ⟨m, l3⟩ := u
              rw [hm] at hf2
              dsimp only at hf2
              have HX := hide hf2
              have hlen := repeatS_len (by rw [hcc]; exact hr) hm
              have hbd := repeatS_bd hm
              have HM := hide hm
              dsimp only at hlen hbd
              obtain ⟨hm0, hm13⟩ := hbd
              have hmul0 : 0 ≤ y * m := Int.mul_nonneg hy0 hm0
              have hmul1 : y * m ≤ 61 * 13 := Int.mul_le_mul hy61 hm13 hm0 (by decide)
              clear hr hf2 HQ hm hcc
              go_wp2_with (first
                | (go_at_call 94; refine (qLook HS HCC).mono ?_; clear HS; rintro x w2 ⟨rfl, HS⟩)
                | (go_at_call 112; refine (qCon_rep HS HCC HR).mono ?_; clear HS; rintro x w4 ⟨rfl, HS⟩)
                | (go_at_call 113; refine (out_int (qRepeat HS) HM).mono ?_; clear HS; rintro x w5 ⟨rfl, HS⟩)
                | (go_at_call 83; refine (pCapped _ _).mono ?_; rintro x w6 ⟨rfl, rfl⟩))
              go_roundw
              case rel => exact ⟨_, rfl, cap_ge hmul0, cap_le _, f2, l3, unhide HX, by omega, HS⟩
              case measure =>
                have e1 := PL.left HS
                have e2 := unhide HL
                show left s b _ < left s b _
                omega
end
end Go.Proofs.YthopgbacdmgfgaaGreatDoor
