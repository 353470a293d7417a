import Derived.Test.YthopgbacdmgfgaaGreatDoorProF
import Derived.WalkKit
import Derived.WalkSpells
import Derived.WalkLawsBesides
import Derived.WalkMore
namespace Go.Proofs.YthopgbacdmgfgaaGreatDoor
open Go.RowKit

theorem decode_lo (s : ByteArray) (p : Nat) (h : (s.get! p).toNat < 128) : Utf8.decode s p = ((s.get! p).toNat, 1) := by
  unfold Utf8.decode
  simp only []
  rw [if_pos (by simpa using h)]
  rfl
theorem decode_hi (s : ByteArray) (p : Nat) (h : ¬ (s.get! p).toNat < 128) : 128 ≤ (Utf8.decode s p).1 := by
  have g0 := (s.get! p).toNat_lt
  have g1 := (s.get! (p + 1)).toNat_lt
  unfold Utf8.decode
  simp only [Utf8.valid, Utf8.runeError, Nat.add_zero, Bool.and_eq_true, Bool.or_eq_true, beq_iff_eq, decide_eq_true_eq, ge_iff_le]
  repeat' split
  all_goals simp only []
  all_goals omega
theorem hd_byte (s : ByteArray) (p : Nat) (h : p < s.size) (x : Nat) (hx : x < 128) : hd (symsFrom s p) = (x : Int) ↔ (s.get! p).toNat = x := by
  rw [hd_syms h]
  by_cases hb : (s.get! p).toNat < 128
  · rw [decode_lo s p hb]; simp only []; omega
  · have := decode_hi s p hb
    constructor <;> intro _ <;> omega
theorem tl_byte (s : ByteArray) (p : Nat) (h : p < s.size) (hx : (s.get! p).toNat < 128) : (symsFrom s p).tail = symsFrom s (p + 1) := by
  rw [tl_syms h, decode_lo s p hx]
theorem data_len (s : ByteArray) : s.data.toList.length = s.size := by rw [Array.length_toList]; rfl
theorem extract_list (s : ByteArray) (p : Nat) : (s.extract p s.size).data.toList = s.data.toList.drop p := by
  rw [ByteArray.data_extract, Array.toList_extract]
  rw [List.extract, List.take_of_length_le (by rw [List.length_drop, data_len]; exact Nat.le_refl _)]
theorem drop_at (s : ByteArray) (p : Nat) (h : p < s.size) : s.data.toList.drop p = s.get! p :: s.data.toList.drop (p + 1) := by
  have h' : p < s.data.toList.length := by rw [data_len]; exact h
  rw [List.drop_eq_getElem_cons h', get_bang s p h]; rfl
theorem prefix_two (s : ByteArray) (p : Nat) (hle : p ≤ s.size) (x : UInt8) (hx : x.toNat < 128) :
    Lib.hasPrefix (s.extract p s.size).data.toList [92, x] = decide (hd (symsFrom s p) = 92 ∧ hd (symsFrom s p).tail = (x.toNat : Int)) := by
  rw [extract_list]
  unfold Lib.hasPrefix
  by_cases hp : p < s.size
  · rw [drop_at s p hp]
    by_cases h92 : hd (symsFrom s p) = 92
    · have e := (hd_byte s p hp 92 (by decide)).1 h92
      have e1 : s.get! p = 92 := UInt8.toNat_inj.1 e
      rw [tl_byte s p hp (by omega), e1]
      by_cases hp1 : p + 1 < s.size
      · rw [drop_at s (p + 1) hp1]
        have e2 := hd_byte s (p + 1) hp1 x.toNat hx
        simp only [List.isPrefixOf, h92, true_and, Bool.and_true, e2, beq_self_eq_true, Bool.true_and]
        rw [Bool.eq_iff_iff]
        simp only [beq_iff_eq, decide_eq_true_eq]
        rw [← UInt8.toNat_inj]
        exact eq_comm
      · obtain e3 : p + 1 = s.size := by omega
        rw [e3, hd_end, List.drop_eq_nil_of_le (by rw [data_len]; exact Nat.le_refl _)]
        simp [List.isPrefixOf]
    · have e1 : ¬ s.get! p = 92 := fun e => h92 ((hd_byte s p hp 92 (by decide)).2 (by rw [e]; rfl))
      have e2 : (92 == s.get! p) = false := by simpa using fun e => e1 e.symm
      simp [List.isPrefixOf, h92, e2]
  · obtain rfl : p = s.size := by omega
    rw [hd_end, List.drop_eq_nil_of_le (by rw [data_len]; exact Nat.le_refl _)]
    simp [List.isPrefixOf]

section
variable {w0 w : World} {b : Nat} {s : ByteArray} {d : Int} {l : List Sy}

theorem pPrefix (t u : ByteArray) (w : World) {v : Bool} (hv : Hid (Lib.hasPrefix t.data.toList u.data.toList = v)) : Calls Tryz.prog 123 #[.string t, .string u] w fun e w' => e = .returned (.bool v) ∧ w = w' := by
  refine (Tryz.strings_HasPrefix t u w).mono ?_
  rintro e w' ⟨rfl, rfl⟩
  exact ⟨by rw [unhide hv], rfl⟩

set_option maxRecDepth 100000 in
set_option maxHeartbeats 4000000 in
theorem qMetSet_no (h : Hid (PL w0 w b s d l)) (hc : Hid (isSet l = false)) :
    Calls Tryz.prog 117 #[.pointer (some ⟨b, 0, none⟩)] w fun x w' => x = .returned (.bool false) ∧ Hid (PL w0 w' b s d l) := by
  obtain ⟨p, h1, rfl⟩ := unhide h
  have q0 := h1.c0
  have q1 := h1.c1
  have hsm := h1.small
  have hle := h1.le
  have hpI : (p : Int) ≤ (s.size : Int) := by omega
  have hcc : ¬ (hd (symsFrom s p) = 92 ∧ (hd (symsFrom s p).tail = 100 ∨ hd (symsFrom s p).tail = 119)) := by have := unhide hc; simpa [isSet] using this
  have A1 := hide (fun w1 => pPrefix (v := false) (s.extract p s.size) ⟨#[92, 100]⟩ w1 (by show Lib.hasPrefix _ [92, 100] = _; rw [prefix_two s p hle 100 (by decide)]; simp; intro e1 e2; exact hcc ⟨e1, .inl e2⟩))
  have A2 := hide (fun w1 => pPrefix (v := false) (s.extract p s.size) ⟨#[92, 119]⟩ w1 (by show Lib.hasPrefix _ [92, 119] = _; rw [prefix_two s p hle 119 (by decide)]; simp; intro e1 e2; exact hcc ⟨e1, .inr e2⟩))
  clear hcc hc h1
  go_enter Tryz.func117, Tryz.ntmps117
  go_wp2_with fail
  go_quiet (fail)
  go_wp2_with (first
    | (go_at_call 123; refine (unhide A1 _).mono ?_; clear A1; rintro e w1 ⟨rfl, rfl⟩)
    | (go_at_call 123; have A3 := A2; clear A2; refine (unhide A3 _).mono ?_; rintro e w1 ⟨rfl, rfl⟩))
  go_ret
  exact ⟨rfl, PL.below h ⟨rfl, rfl, rfl, Nat.le_refl _, fun _ _ => rfl⟩⟩
end
end Go.Proofs.YthopgbacdmgfgaaGreatDoor
