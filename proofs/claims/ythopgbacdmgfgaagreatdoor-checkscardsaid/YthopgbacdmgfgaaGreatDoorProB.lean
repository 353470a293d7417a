import Derived.Test.YthopgbacdmgfgaaGreatDoorProA
import Derived.Laws.RangeString
import Derived.Laws.RangeAny
import Derived.Laws.Runes
import Derived.WalkKit
import Derived.WalkSpells
import Derived.WalkLawsBesides
import Derived.Deep.QuietTactic
import Derived.BigQuiet
import Derived.WalkMore
namespace Go.Proofs.YthopgbacdmgfgaaGreatDoor
open Go.RowKit

theorem pCapped (n : Int) (w : World) :
    Calls Tryz.prog 83 #[.int .i64 n] w fun e w' => e = .returned (.int .i64 (cap61 n)) ∧ w = w' := by
  go_enter Tryz.func83, Tryz.ntmps83
  go_wp2_with fail
  go_ret
  refine ⟨ret_int ?_, rfl⟩
  unfold cap61
  split <;> omega

set_option maxRecDepth 100000 in
theorem indexRune_neg (s : ByteArray) (w : World) :
    Calls Tryz.prog 120 #[.string s, .int .i32 (-1)] w fun e w' => e = .returned (.int .i64 (-1)) ∧ w = w' := by
  have HV := hide (Tryz.utf8_ValidRune (-1) w)
  rw [show Lib.validRune (-1) = false from by decide] at HV
  go_enter Tryz.func120, Tryz.ntmps120
  go_wp2_with (go_at_call 126; refine (unhide HV).mono ?_; clear HV; rintro e w1 ⟨rfl, hw⟩; subst hw)
  go_ret
  exact ⟨rfl, rfl⟩

/-- every byte is below 128. -/
def Asc (s : ByteArray) : Prop := ∀ (i : Nat) (h : i < s.size), (s[i]'h).toNat < 128

theorem iter_below (w : World) (s : ByteArray) (pos : Nat) : Below w.heap.size w (w.iter s pos) := (Below.refl _ w).alloc (Nat.le_refl _) _

set_option maxRecDepth 1000000 in
set_option maxHeartbeats 2000000 in
theorem indexRune_bad (s : ByteArray) (w : World) (ha : Asc s) :
    Calls Tryz.prog 120 #[.string s, .int .i32 65533] w fun e w' => e = .returned (.int .i64 (-1)) ∧ Below w.heap.size w w' := by
  have HA := hide ha
  clear ha
  go_enter Tryz.func120, Tryz.ntmps120
  go_wp2_with fail
  go_loopw [4] (fun v w' => v = .int .i64 0 ∧ ∃ pos : Nat, w' = w.iter s pos) (fun _ w' => s.size - w'.iterPos w.heap.size)
  case atStart => exact ⟨rfl, 0, rfl⟩
  case round =>
    obtain ⟨rfl, pos, rfl⟩ := hrel
    by_cases hp : pos < s.size
    · have hb := unhide HA pos hp
      have hnx : ∀ ty, (Instr.next (.pointer (some ⟨w.heap.size, 0, none⟩)) true ty).run Tryz.prog (w.iter s pos) = _ := fun ty => run_next_ascii w s pos ty hp hb
      have hne : ((s[pos].toNat : Int) == 65533) = false := by simp; omega
      clear HA hb
      go_wp2_with fail
      go_roundw
      case rel => exact ⟨rfl, pos + 1, rfl⟩
      case measure => simp; omega
    · have hnx : ∀ ty, (Instr.next (.pointer (some ⟨w.heap.size, 0, none⟩)) true ty).run Tryz.prog (w.iter s pos) = _ := fun ty => run_next_end w s pos ty hp
      go_wp2_with fail
      go_ret
      exact ⟨rfl, iter_below _ _ _⟩

theorem indexByte_none : ∀ (l : List UInt8) (c : UInt8), (∀ b ∈ l, b ≠ c) → Lib.indexByte l c = -1
  | [], _, _ => rfl
  | b :: l, c, h => by
    have h1 := h b (by simp)
    rw [Lib.indexByte, if_neg (by simpa using h1), indexByte_none l c (fun x hx => h x (by simp [hx]))]; rfl
theorem asc_mem {s : ByteArray} (ha : Asc s) : ∀ b ∈ s.data.toList, b.toNat < 128 := by
  intro b hb
  obtain ⟨i, hi, rfl⟩ := List.getElem_of_mem hb
  exact ha i (by simpa using hi)

set_option maxRecDepth 1000000 in
set_option maxHeartbeats 4000000 in
theorem indexRune_core1 (s : ByteArray) (r : Int) (b0 b1 : UInt8) (w : World) (ha : Asc s) (h4 : 4 ≤ s.size) (h60 : s.size ≤ 60) (hr : 128 ≤ r) (hr2 : ¬ r = 65533) (hv : Lib.validRune r = true) (hE : Utf8.encode r = ⟨#[b0, b1]⟩) (hEm : 128 ≤ b1.toNat) :
    Calls Tryz.prog 120 #[.string s, .int .i32 r] w fun e w' => e = .returned (.int .i64 (-1)) ∧ Below w.heap.size w w' := by
  have HV := hide (fun w1 => Tryz.utf8_ValidRune r w1)
  rw [hv] at HV
  have hmS : 1 < s.size := by omega
  have hEs : 1 < (⟨#[b0, b1]⟩ : ByteArray).size := by show 1 < 2; decide
  have hsm := ha 1 hmS
  have hbne : ((s[1].toNat : Int) != (((⟨#[b0, b1]⟩ : ByteArray)[1]'hEs).toNat : Int)) = true := by show ((s[1].toNat : Int) != (b1.toNat : Int)) = true; simp; omega
  have hr2' : (r == 65533) = false := by simpa using hr2
  have hmI : (2 : Int) ≤ (s.size : Int) := by omega
  have hwm : IntKind.i64.wrap 2 = 2 := by decide
  have hmJ : (1 : Int) < (s.size : Int) := by omega
  have HIX : Hid (∀ (h : 1 < (⟨#[b0, b1]⟩ : ByteArray).size) w1, Calls Tryz.prog 125 #[.string (s.extract 2 s.size), .int .u8 ((⟨#[b0, b1]⟩ : ByteArray)[1]'h).toNat] w1 fun e w' => e = .returned (.int .i64 (-1)) ∧ w' = w1) := by
    intro h w1
    show Calls Tryz.prog 125 #[.string (s.extract 2 s.size), .int .u8 b1.toNat] w1 _
    have := Tryz.strings_IndexByte (s.extract 2 s.size) (b1.toNat : Int) w1
    rw [indexByte_none _ _ (fun b hb hbc => by
      have h1 := asc_mem ha b (mem_extract hb)
      rw [hbc] at h1
      simp at h1
      omega)] at this
    exact this
  clear ha hsm hEm hr2 hv h4
  go_enter Tryz.func120, Tryz.ntmps120
  go_wp2_with (go_at_call 126; refine (unhide HV _).mono ?_; clear HV; rintro e w1 ⟨rfl, hw⟩; subst hw)
  go_wp2_with fail
  go_step3
  go_wp2_with fail
  refine wp_loop_rounds 1 ?_
  rw [rounds_succ]
  go_wp2_with fail
  go_step3
  go_wp2_with fail
  go_quiet (fail)
  go_wp2_with fail
  go_quiet ((go_at_call 125; exact (unhide HIX (by assumption) _).mono (fun e w' h => ⟨h.1, _, h.2⟩)))
  go_wp2_with fail
  simp only [Exit.noGoto_ret, Exit.inBlock, Exit.then]
  go_ret
  exact ⟨rfl, ⟨rfl, rfl, rfl, Nat.le_refl _, fun _ _ => rfl⟩⟩


set_option maxRecDepth 1000000 in
set_option maxHeartbeats 4000000 in
theorem indexRune_core2 (s : ByteArray) (r : Int) (b0 b1 b2 : UInt8) (w : World) (ha : Asc s) (h4 : 4 ≤ s.size) (h60 : s.size ≤ 60) (hr : 128 ≤ r) (hr2 : ¬ r = 65533) (hv : Lib.validRune r = true) (hE : Utf8.encode r = ⟨#[b0, b1, b2]⟩) (hEm : 128 ≤ b2.toNat) :
    Calls Tryz.prog 120 #[.string s, .int .i32 r] w fun e w' => e = .returned (.int .i64 (-1)) ∧ Below w.heap.size w w' := by
  have HV := hide (fun w1 => Tryz.utf8_ValidRune r w1)
  rw [hv] at HV
  have hmS : 2 < s.size := by omega
  have hEs : 2 < (⟨#[b0, b1, b2]⟩ : ByteArray).size := by show 2 < 3; decide
  have hsm := ha 2 hmS
  have hbne : ((s[2].toNat : Int) != (((⟨#[b0, b1, b2]⟩ : ByteArray)[2]'hEs).toNat : Int)) = true := by show ((s[2].toNat : Int) != (b2.toNat : Int)) = true; simp; omega
  have hr2' : (r == 65533) = false := by simpa using hr2
  have hmI : (3 : Int) ≤ (s.size : Int) := by omega
  have hwm : IntKind.i64.wrap 3 = 3 := by decide
  have hmJ : (2 : Int) < (s.size : Int) := by omega
  have HIX : Hid (∀ (h : 2 < (⟨#[b0, b1, b2]⟩ : ByteArray).size) w1, Calls Tryz.prog 125 #[.string (s.extract 3 s.size), .int .u8 ((⟨#[b0, b1, b2]⟩ : ByteArray)[2]'h).toNat] w1 fun e w' => e = .returned (.int .i64 (-1)) ∧ w' = w1) := by
    intro h w1
    show Calls Tryz.prog 125 #[.string (s.extract 3 s.size), .int .u8 b2.toNat] w1 _
    have := Tryz.strings_IndexByte (s.extract 3 s.size) (b2.toNat : Int) w1
    rw [indexByte_none _ _ (fun b hb hbc => by
      have h1 := asc_mem ha b (mem_extract hb)
      rw [hbc] at h1
      simp at h1
      omega)] at this
    exact this
  clear ha hsm hEm hr2 hv h4
  go_enter Tryz.func120, Tryz.ntmps120
  go_wp2_with (go_at_call 126; refine (unhide HV _).mono ?_; clear HV; rintro e w1 ⟨rfl, hw⟩; subst hw)
  go_wp2_with fail
  go_step3
  go_wp2_with fail
  refine wp_loop_rounds 1 ?_
  rw [rounds_succ]
  go_wp2_with fail
  go_step3
  go_wp2_with fail
  go_quiet (fail)
  go_wp2_with fail
  go_quiet ((go_at_call 125; exact (unhide HIX (by assumption) _).mono (fun e w' h => ⟨h.1, _, h.2⟩)))
  go_wp2_with fail
  simp only [Exit.noGoto_ret, Exit.inBlock, Exit.then]
  go_ret
  exact ⟨rfl, ⟨rfl, rfl, rfl, Nat.le_refl _, fun _ _ => rfl⟩⟩


set_option maxRecDepth 1000000 in
set_option maxHeartbeats 4000000 in
theorem indexRune_core3 (s : ByteArray) (r : Int) (b0 b1 b2 b3 : UInt8) (w : World) (ha : Asc s) (h4 : 4 ≤ s.size) (h60 : s.size ≤ 60) (hr : 128 ≤ r) (hr2 : ¬ r = 65533) (hv : Lib.validRune r = true) (hE : Utf8.encode r = ⟨#[b0, b1, b2, b3]⟩) (hEm : 128 ≤ b3.toNat) :
    Calls Tryz.prog 120 #[.string s, .int .i32 r] w fun e w' => e = .returned (.int .i64 (-1)) ∧ Below w.heap.size w w' := by
  have HV := hide (fun w1 => Tryz.utf8_ValidRune r w1)
  rw [hv] at HV
  have hmS : 3 < s.size := by omega
  have hEs : 3 < (⟨#[b0, b1, b2, b3]⟩ : ByteArray).size := by show 3 < 4; decide
  have hsm := ha 3 hmS
  have hbne : ((s[3].toNat : Int) != (((⟨#[b0, b1, b2, b3]⟩ : ByteArray)[3]'hEs).toNat : Int)) = true := by show ((s[3].toNat : Int) != (b3.toNat : Int)) = true; simp; omega
  have hr2' : (r == 65533) = false := by simpa using hr2
  have hmI : (4 : Int) ≤ (s.size : Int) := by omega
  have hwm : IntKind.i64.wrap 4 = 4 := by decide
  have hmJ : (3 : Int) < (s.size : Int) := by omega
  have HIX : Hid (∀ (h : 3 < (⟨#[b0, b1, b2, b3]⟩ : ByteArray).size) w1, Calls Tryz.prog 125 #[.string (s.extract 4 s.size), .int .u8 ((⟨#[b0, b1, b2, b3]⟩ : ByteArray)[3]'h).toNat] w1 fun e w' => e = .returned (.int .i64 (-1)) ∧ w' = w1) := by
    intro h w1
    show Calls Tryz.prog 125 #[.string (s.extract 4 s.size), .int .u8 b3.toNat] w1 _
    have := Tryz.strings_IndexByte (s.extract 4 s.size) (b3.toNat : Int) w1
    rw [indexByte_none _ _ (fun b hb hbc => by
      have h1 := asc_mem ha b (mem_extract hb)
      rw [hbc] at h1
      simp at h1
      omega)] at this
    exact this
  clear ha hsm hEm hr2 hv h4
  go_enter Tryz.func120, Tryz.ntmps120
  go_wp2_with (go_at_call 126; refine (unhide HV _).mono ?_; clear HV; rintro e w1 ⟨rfl, hw⟩; subst hw)
  go_wp2_with fail
  go_step3
  go_wp2_with fail
  refine wp_loop_rounds 1 ?_
  rw [rounds_succ]
  go_wp2_with fail
  go_step3
  go_wp2_with fail
  go_quiet (fail)
  go_wp2_with fail
  go_quiet ((go_at_call 125; exact (unhide HIX (by assumption) _).mono (fun e w' h => ⟨h.1, _, h.2⟩)))
  go_wp2_with fail
  simp only [Exit.noGoto_ret, Exit.inBlock, Exit.then]
  go_ret
  exact ⟨rfl, ⟨rfl, rfl, rfl, Nat.le_refl _, fun _ _ => rfl⟩⟩


/-- a symbol, or -1. -/
def SymOr (c : Int) : Prop := c = -1 ∨ (0 ≤ c ∧ Lib.validRune c = true)
def idxR (s : ByteArray) (c : Int) : Int := if 0 ≤ c ∧ c < 128 then Lib.indexByte s.data.toList c.toNat.toUInt8 else -1

theorem low_byte (n : Nat) : 128 ≤ (UInt8.ofNat (128 + n % 64)).toNat := by simp; omega

theorem indexRune_high (s : ByteArray) (r : Int) (w : World) (ha : Asc s) (h4 : 4 ≤ s.size) (h60 : s.size ≤ 60) (hr : 128 ≤ r) (hr2 : ¬ r = 65533) (hv : Lib.validRune r = true) :
    Calls Tryz.prog 120 #[.string s, .int .i32 r] w fun e w' => e = .returned (.int .i64 (-1)) ∧ Below w.heap.size w w' := by
  have hvv : Utf8.valid r = true := by rw [validRune_eq]; exact hv
  have hE := rfl (a := Utf8.encode r)
  conv at hE => rhs; unfold Utf8.encode
  simp only [hvv, if_true] at hE
  rw [if_neg (by omega)] at hE
  by_cases h1 : r.toNat < 2048
  · rw [if_pos h1] at hE
    exact indexRune_core1 s r _ _ w ha h4 h60 hr hr2 hv hE (low_byte _)
  · rw [if_neg h1] at hE
    by_cases h2 : r.toNat < 65536
    · rw [if_pos h2] at hE
      exact indexRune_core2 s r _ _ _ w ha h4 h60 hr hr2 hv hE (low_byte _)
    · rw [if_neg h2] at hE
      exact indexRune_core3 s r _ _ _ _ w ha h4 h60 hr hr2 hv hE (low_byte _)

theorem indexRune_any (s : ByteArray) (c : Int) (w : World) (ha : Asc s) (h4 : 4 ≤ s.size) (h60 : s.size ≤ 60) (hc : SymOr c) :
    Calls Tryz.prog 120 #[.string s, .int .i32 c] w fun e w' => e = .returned (.int .i64 (idxR s c)) ∧ Below w.heap.size w w' := by
  rcases hc with rfl | ⟨h0, hv⟩
  · refine (indexRune_neg s w).mono ?_
    rintro e w' ⟨rfl, rfl⟩
    exact ⟨rfl, Below.refl _ _⟩
  · by_cases h1 : c < 128
    · refine (Tryz.strings_IndexRune_ascii s c w h0 h1).mono ?_
      rintro e w' ⟨rfl, rfl⟩
      exact ⟨by rw [idxR, if_pos ⟨h0, h1⟩], Below.refl _ _⟩
    · rw [idxR, if_neg (by omega)]
      by_cases h2 : c = 65533
      · subst h2; exact indexRune_bad s w ha
      · exact indexRune_high s c w ha h4 h60 (by omega) h2 hv

set_option maxRecDepth 100000 in
theorem containsRune_any (s : ByteArray) (c : Int) (w : World) (ha : Asc s) (h4 : 4 ≤ s.size) (h60 : s.size ≤ 60) (hc : SymOr c) :
    Calls Tryz.prog 112 #[.string s, .int .i32 c] w fun e w' => e = .returned (.bool (decide (0 ≤ idxR s c))) ∧ Below w.heap.size w w' := by
  have HI := hide (indexRune_any s c w ha h4 h60 hc)
  generalize idxR s c = z at HI
  clear hc ha
  go_enter Tryz.func112, Tryz.ntmps112
  go_wp2_with (go_at_call 120; refine (unhide HI).mono ?_; clear HI; rintro e w1 ⟨rfl, hb⟩; have HB := hide hb; clear hb)
  go_ret
  exact ⟨rfl, unhide HB⟩

theorem decode_valid (s : ByteArray) (i : Nat) : Lib.validRune (Utf8.decode s i).1 = true := by
  have g0 := (s.get! i).toNat_lt
  have g1 := (s.get! (i + 1)).toNat_lt
  unfold Utf8.decode Lib.validRune
  simp only [Utf8.valid, Utf8.runeError, Nat.add_zero, Bool.and_eq_true, Bool.or_eq_true, beq_iff_eq, decide_eq_true_eq, ge_iff_le]
  repeat' split
  all_goals simp only []
  all_goals omega
theorem symOr_hd (s : ByteArray) (p : Nat) (h : p ≤ s.size) : SymOr (hd (symsFrom s p)) := by
  by_cases hp : p < s.size
  · rw [hd_syms hp]
    exact .inr ⟨by omega, decode_valid s p⟩
  · obtain rfl : p = s.size := by omega
    rw [hd_end]; exact .inl rfl
end Go.Proofs.YthopgbacdmgfgaaGreatDoor
