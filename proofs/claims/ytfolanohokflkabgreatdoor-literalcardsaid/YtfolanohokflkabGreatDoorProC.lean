import Derived.Test.YtfolanohokflkabGreatDoorMeetA
import Derived.Laws.RangeString
import Derived.Laws.RangeAny
import Derived.Laws.Runes
import Derived.WalkKit
import Derived.WalkSpells
import Derived.WalkLawsBesides
import Derived.Deep.QuietTactic
import Derived.BigQuiet
import Derived.WalkMore
namespace Go.Proofs.YtfolanohokflkabGreatDoor
open Go.RowKit

theorem pCapped (n : Int) (w : World) :
    Calls Tryz.prog 231 #[.int .i64 n] w fun e w' => e = .returned (.int .i64 (cap61 n)) ∧ w = w' := by
  go_enter Tryz.func231, Tryz.ntmps231
  go_wp2_with fail
  go_ret
  refine ⟨ret_int ?_, rfl⟩
  unfold cap61
  split <;> omega

set_option maxRecDepth 100000 in
theorem indexRune_neg (s : ByteArray) (w : World) :
    Calls Tryz.prog 312 #[.string s, .int .i32 (-1)] w fun e w' => e = .returned (.int .i64 (-1)) ∧ w = w' := by
  have HV := hide (Tryz.utf8_ValidRune (-1) w)
  rw [show Lib.validRune (-1) = false from by decide] at HV
  go_enter Tryz.func312, Tryz.ntmps312
  go_wp2_with (go_at_call 322; refine (unhide HV).mono ?_; clear HV; rintro e w1 ⟨rfl, hw⟩; subst hw)
  go_ret
  exact ⟨rfl, rfl⟩

/-- every byte is below 128. -/
def Asc (s : ByteArray) : Prop := ∀ (i : Nat) (h : i < s.size), (s[i]'h).toNat < 128

theorem iter_below (w : World) (s : ByteArray) (pos : Nat) : Below w.heap.size w (w.iter s pos) := (Below.refl _ w).alloc (Nat.le_refl _) _

set_option maxRecDepth 1000000 in
set_option maxHeartbeats 2000000 in
theorem indexRune_bad (s : ByteArray) (w : World) (ha : Asc s) :
    Calls Tryz.prog 312 #[.string s, .int .i32 65533] w fun e w' => e = .returned (.int .i64 (-1)) ∧ Below w.heap.size w w' := by
  have HA := hide ha
  clear ha
  go_enter Tryz.func312, Tryz.ntmps312
  go_wp2_with fail
  go_loopw [4] (fun v w' => v = .int .i64 0 ∧ ∃ pos : Nat, w' = w.iter s pos) (fun _ w' => s.size - w'.iterPos w.heap.size)
  case atStart => exact ⟨rfl, 0, rfl⟩
  case round =>
    obtain ⟨rfl, pos, rfl⟩ := hrel
    by_cases hp : pos < s.size
    · have hb := unhide HA pos hp
      have hnx : ∀ ty, (Instr.next (.pointer (some ⟨w.heap.size, 0, none⟩)) true ty).run Tryz.prog (w.iter s pos) = _ := fun ty => run_next_ascii w s pos ty hp hb
      have hne : ((s[pos].toNat : Int) == 65533) = false := by simp; omega
      clear HA hb
      go_wp2_with fail
      go_roundw
      case rel => exact ⟨rfl, pos + 1, rfl⟩
      case measure => simp; omega
    · have hnx : ∀ ty, (Instr.next (.pointer (some ⟨w.heap.size, 0, none⟩)) true ty).run Tryz.prog (w.iter s pos) = _ := fun ty => run_next_end w s pos ty hp
      go_wp2_with fail
      go_ret
      exact ⟨rfl, iter_below _ _ _⟩

theorem indexByte_none : ∀ (l : List UInt8) (c : UInt8), (∀ b ∈ l, b ≠ c) → Lib.indexByte l c = -1
  | [], _, _ => rfl
  | b :: l, c, h => by
    have h1 := h b (by simp)
    rw [Lib.indexByte, if_neg (by simpa using h1), indexByte_none l c (fun x hx => h x (by simp [hx]))]; rfl
theorem asc_mem {s : ByteArray} (ha : Asc s) : ∀ b ∈ s.data.toList, b.toNat < 128 := by
  intro b hb
  obtain ⟨i, hi, rfl⟩ := List.getElem_of_mem hb
  exact ha i (by simpa using hi)

set_option maxRecDepth 1000000 in
set_option maxHeartbeats 4000000 in
theorem indexRune_core1 (s : ByteArray) (r : Int) (b0 b1 : UInt8) (w : World) (ha : Asc s) (h4 : 4 ≤ s.size) (h60 : s.size ≤ 60) (hr : 128 ≤ r) (hr2 : ¬ r = 65533) (hv : Lib.validRune r = true) (hE : Utf8.encode r = ⟨#[b0, b1]⟩) (hEm : 128 ≤ b1.toNat) :
    Calls Tryz.prog 312 #[.string s, .int .i32 r] w fun e w' => e = .returned (.int .i64 (-1)) ∧ Below w.heap.size w w' := by
  have HV := hide (fun w1 => Tryz.utf8_ValidRune r w1)
  rw [hv] at HV
  have hmS : 1 < s.size := by omega
  have hEs : 1 < (⟨#[b0, b1]⟩ : ByteArray).size := by show 1 < 2; decide
  have hsm := ha 1 hmS
  have hbne : ((s[1].toNat : Int) != (((⟨#[b0, b1]⟩ : ByteArray)[1]'hEs).toNat : Int)) = true := by show ((s[1].toNat : Int) != (b1.toNat : Int)) = true; simp; omega
  have hr2' : (r == 65533) = false := by simpa using hr2
  have hmI : (2 : Int) ≤ (s.size : Int) := by omega
  have hwm : IntKind.i64.wrap 2 = 2 := by decide
  have hmJ : (1 : Int) < (s.size : Int) := by omega
  have HIX : Hid (∀ (h : 1 < (⟨#[b0, b1]⟩ : ByteArray).size) w1, Calls Tryz.prog 321 #[.string (s.extract 2 s.size), .int .u8 ((⟨#[b0, b1]⟩ : ByteArray)[1]'h).toNat] w1 fun e w' => e = .returned (.int .i64 (-1)) ∧ w' = w1) := by
    intro h w1
    show Calls Tryz.prog 321 #[.string (s.extract 2 s.size), .int .u8 b1.toNat] w1 _
    have := Tryz.strings_IndexByte (s.extract 2 s.size) (b1.toNat : Int) w1
    rw [indexByte_none _ _ (fun b hb hbc => by
      have h1 := asc_mem ha b (mem_extract hb)
      rw [hbc] at h1
      simp at h1
      omega)] at this
    exact this
  clear ha hsm hEm hr2 hv h4
  go_enter Tryz.func312, Tryz.ntmps312
  go_wp2_with (go_at_call 322; refine (unhide HV _).mono ?_; clear HV; rintro e w1 ⟨rfl, hw⟩; subst hw)
  go_wp2_with fail
  go_step3
  go_wp2_with fail
  refine wp_loop_rounds 1 ?_
  rw [rounds_succ]
  go_wp2_with fail
  go_step3
  go_wp2_with fail
  go_quiet (fail)
  go_wp2_with fail
  go_quiet ((go_at_call 321; exact (unhide HIX (by assumption) _).mono (fun e w' h => ⟨h.1, _, h.2⟩)))
  go_wp2_with fail
  simp only [Exit.noGoto_ret, Exit.inBlock, Exit.then]
  go_ret
  exact ⟨rfl, ⟨rfl, rfl, rfl, Nat.le_refl _, fun _ _ => rfl⟩⟩


set_option maxRecDepth 1000000 in
set_option maxHeartbeats 4000000 in
theorem indexRune_core2 (s : ByteArray) (r : Int) (b0 b1 b2 : UInt8) (w : World) (ha : Asc s) (h4 : 4 ≤ s.size) (h60 : s.size ≤ 60) (hr : 128 ≤ r) (hr2 : ¬ r = 65533) (hv : Lib.validRune r = true) (hE : Utf8.encode r = ⟨#[b0, b1, b2]⟩) (hEm : 128 ≤ b2.toNat) :
    Calls Tryz.prog 312 #[.string s, .int .i32 r] w fun e w' => e = .returned (.int .i64 (-1)) ∧ Below w.heap.size w w' := by
  have HV := hide (fun w1 => Tryz.utf8_ValidRune r w1)
  rw [hv] at HV
  have hmS : 2 < s.size := by omega
  have hEs : 2 < (⟨#[b0, b1, b2]⟩ : ByteArray).size := by show 2 < 3; decide
  have hsm := ha 2 hmS
  have hbne : ((s[2].toNat : Int) != (((⟨#[b0, b1, b2]⟩ : ByteArray)[2]'hEs).toNat : Int)) = true := by show ((s[2].toNat : Int) != (b2.toNat : Int)) = true; simp; omega
  have hr2' : (r == 65533) = false := by simpa using hr2
  have hmI : (3 : Int) ≤ (s.size : Int) := by omega
  have hwm : IntKind.i64.wrap 3 = 3 := by decide
  have hmJ : (2 : Int) < (s.size : Int) := by omega
  have HIX : Hid (∀ (h : 2 < (⟨#[b0, b1, b2]⟩ : ByteArray).size) w1, Calls Tryz.prog 321 #[.string (s.extract 3 s.size), .int .u8 ((⟨#[b0, b1, b2]⟩ : ByteArray)[2]'h).toNat] w1 fun e w' => e = .returned (.int .i64 (-1)) ∧ w' = w1) := by
    intro h w1
    show Calls Tryz.prog 321 #[.string (s.extract 3 s.size), .int .u8 b2.toNat] w1 _
    have := Tryz.strings_IndexByte (s.extract 3 s.size) (b2.toNat : Int) w1
    rw [indexByte_none _ _ (fun b hb hbc => by
      have h1 := asc_mem ha b (mem_extract hb)
      rw [hbc] at h1
      simp at h1
      omega)] at this
    exact this
  clear ha hsm hEm hr2 hv h4
  go_enter Tryz.func312, Tryz.ntmps312
  go_wp2_with (go_at_call 322; refine (unhide HV _).mono ?_; clear HV; rintro e w1 ⟨rfl, hw⟩; subst hw)
  go_wp2_with fail
  go_step3
  go_wp2_with fail
  refine wp_loop_rounds 1 ?_
  rw [rounds_succ]
  go_wp2_with fail
  go_step3
  go_wp2_with fail
  go_quiet (fail)
  go_wp2_with fail
  go_quiet ((go_at_call 321; exact (unhide HIX (by assumption) _).mono (fun e w' h => ⟨h.1, _, h.2⟩)))
  go_wp2_with fail
  simp only [Exit.noGoto_ret, Exit.inBlock, Exit.then]
  go_ret
  exact ⟨rfl, ⟨rfl, rfl, rfl, Nat.le_refl _, fun _ _ => rfl⟩⟩


set_option maxRecDepth 1000000 in
set_option maxHeartbeats 4000000 in
theorem indexRune_core3 (s : ByteArray) (r : Int) (b0 b1 b2 b3 : UInt8) (w : World) (ha : Asc s) (h4 : 4 ≤ s.size) (h60 : s.size ≤ 60) (hr : 128 ≤ r) (hr2 : ¬ r = 65533) (hv : Lib.validRune r = true) (hE : Utf8.encode r = ⟨#[b0, b1, b2, b3]⟩) (hEm : 128 ≤ b3.toNat) :
    Calls Tryz.prog 312 #[.string s, .int .i32 r] w fun e w' => e = .returned (.int .i64 (-1)) ∧ Below w.heap.size w w' := by
  have HV := hide (fun w1 => Tryz.utf8_ValidRune r w1)
  rw [hv] at HV
  have hmS : 3 < s.size := by omega
  have hEs : 3 < (⟨#[b0, b1, b2, b3]⟩ : ByteArray).size := by show 3 < 4; decide
  have hsm := ha 3 hmS
  have hbne : ((s[3].toNat : Int) != (((⟨#[b0, b1, b2, b3]⟩ : ByteArray)[3]'hEs).toNat : Int)) = true := by show ((s[3].toNat : Int) != (b3.toNat : Int)) = true; simp; omega
  have hr2' : (r == 65533) = false := by simpa using hr2
  have hmI : (4 : Int) ≤ (s.size : Int) := by omega
  have hwm : IntKind.i64.wrap 4 = 4 := by decide
  have hmJ : (3 : Int) < (s.size : Int) := by omega
  have HIX : Hid (∀ (h : 3 < (⟨#[b0, b1, b2, b3]⟩ : ByteArray).size) w1, Calls Tryz.prog 321 #[.string (s.extract 4 s.size), .int .u8 ((⟨#[b0, b1, b2, b3]⟩ : ByteArray)[3]'h).toNat] w1 fun e w' => e = .returned (.int .i64 (-1)) ∧ w' = w1) := by
    intro h w1
    show Calls Tryz.prog 321 #[.string (s.extract 4 s.size), .int .u8 b3.toNat] w1 _
    have := Tryz.strings_IndexByte (s.extract 4 s.size) (b3.toNat : Int) w1
    rw [indexByte_none _ _ (fun b hb hbc => by
      have h1 := asc_mem ha b (mem_extract hb)
      rw [hbc] at h1
      simp at h1
      omega)] at this
    exact this
  clear ha hsm hEm hr2 hv h4
  go_enter Tryz.func312, Tryz.ntmps312
  go_wp2_with (go_at_call 322; refine (unhide HV _).mono ?_; clear HV; rintro e w1 ⟨rfl, hw⟩; subst hw)
  go_wp2_with fail
  go_step3
  go_wp2_with fail
  refine wp_loop_rounds 1 ?_
  rw [rounds_succ]
  go_wp2_with fail
  go_step3
  go_wp2_with fail
  go_quiet (fail)
  go_wp2_with fail
  go_quiet ((go_at_call 321; exact (unhide HIX (by assumption) _).mono (fun e w' h => ⟨h.1, _, h.2⟩)))
  go_wp2_with fail
  simp only [Exit.noGoto_ret, Exit.inBlock, Exit.then]
  go_ret
  exact ⟨rfl, ⟨rfl, rfl, rfl, Nat.le_refl _, fun _ _ => rfl⟩⟩


/-- a symbol, or -1. -/
def SymOr (c : Int) : Prop := c = -1 ∨ (0 ≤ c ∧ Lib.validRune c = true)
def idxR (s : ByteArray) (c : Int) : Int := if 0 ≤ c ∧ c < 128 then Lib.indexByte s.data.toList c.toNat.toUInt8 else -1

theorem low_byte (n : Nat) : 128 ≤ (UInt8.ofNat (128 + n % 64)).toNat := by simp; omega

theorem indexRune_high (s : ByteArray) (r : Int) (w : World) (ha : Asc s) (h4 : 4 ≤ s.size) (h60 : s.size ≤ 60) (hr : 128 ≤ r) (hr2 : ¬ r = 65533) (hv : Lib.validRune r = true) :
    Calls Tryz.prog 312 #[.string s, .int .i32 r] w fun e w' => e = .returned (.int .i64 (-1)) ∧ Below w.heap.size w w' := by
  have hvv : Utf8.valid r = true := by rw [validRune_eq]; exact hv
  have hE := rfl (a := Utf8.encode r)
  conv at hE => rhs; unfold Utf8.encode
  simp only [hvv, if_true] at hE
  rw [if_neg (by omega)] at hE
  by_cases h1 : r.toNat < 2048
  · rw [if_pos h1] at hE
    exact indexRune_core1 s r _ _ w ha h4 h60 hr hr2 hv hE (low_byte _)
  · rw [if_neg h1] at hE
    by_cases h2 : r.toNat < 65536
    · rw [if_pos h2] at hE
      exact indexRune_core2 s r _ _ _ w ha h4 h60 hr hr2 hv hE (low_byte _)
    · rw [if_neg h2] at hE
      exact indexRune_core3 s r _ _ _ _ w ha h4 h60 hr hr2 hv hE (low_byte _)

theorem indexRune_any (s : ByteArray) (c : Int) (w : World) (ha : Asc s) (h4 : 4 ≤ s.size) (h60 : s.size ≤ 60) (hc : SymOr c) :
    Calls Tryz.prog 312 #[.string s, .int .i32 c] w fun e w' => e = .returned (.int .i64 (idxR s c)) ∧ Below w.heap.size w w' := by
  rcases hc with rfl | ⟨h0, hv⟩
  · refine (indexRune_neg s w).mono ?_
    rintro e w' ⟨rfl, rfl⟩
    exact ⟨rfl, Below.refl _ _⟩
  · by_cases h1 : c < 128
    · refine (Tryz.strings_IndexRune_ascii s c w h0 h1).mono ?_
      rintro e w' ⟨rfl, rfl⟩
      exact ⟨by rw [idxR, if_pos ⟨h0, h1⟩], Below.refl _ _⟩
    · rw [idxR, if_neg (by omega)]
      by_cases h2 : c = 65533
      · subst h2; exact indexRune_bad s w ha
      · exact indexRune_high s c w ha h4 h60 (by omega) h2 hv

set_option maxRecDepth 100000 in
theorem containsRune_any (s : ByteArray) (c : Int) (w : World) (ha : Asc s) (h4 : 4 ≤ s.size) (h60 : s.size ≤ 60) (hc : SymOr c) :
    Calls Tryz.prog 290 #[.string s, .int .i32 c] w fun e w' => e = .returned (.bool (decide (0 ≤ idxR s c))) ∧ Below w.heap.size w w' := by
  have HI := hide (indexRune_any s c w ha h4 h60 hc)
  generalize idxR s c = z at HI
  clear hc ha
  go_enter Tryz.func290, Tryz.ntmps290
  go_wp2_with (go_at_call 312; refine (unhide HI).mono ?_; clear HI; rintro e w1 ⟨rfl, hb⟩; have HB := hide hb; clear hb)
  go_ret
  exact ⟨rfl, unhide HB⟩

theorem decode_valid (s : ByteArray) (i : Nat) : Lib.validRune (Utf8.decode s i).1 = true := by
  have g0 := (s.get! i).toNat_lt
  have g1 := (s.get! (i + 1)).toNat_lt
  unfold Utf8.decode Lib.validRune
  simp only [Utf8.valid, Utf8.runeError, Nat.add_zero, Bool.and_eq_true, Bool.or_eq_true, beq_iff_eq, decide_eq_true_eq, ge_iff_le]
  repeat' split
  all_goals simp only []
  all_goals omega
theorem symOr_hd (s : ByteArray) (p : Nat) (h : p ≤ s.size) : SymOr (hd (symsFrom s p)) := by
  by_cases hp : p < s.size
  · rw [hd_syms hp]
    exact .inr ⟨by omega, decode_valid s p⟩
  · obtain rfl : p = s.size := by omega
    rw [hd_end]; exact .inl rfl
end Go.Proofs.YtfolanohokflkabGreatDoor

namespace Go.Proofs.YtfolanohokflkabGreatDoor
open Go.RowKit

def POut {a : Type} (R : Res a) (val : a → Value) (w0 : World) (b : Nat) (s : ByteArray) (d : Int) (x : Ending) (w' : World) : Prop :=
  match R with
  | .ok y => x = .returned (val y.1) ∧ ∃ p', Hid (PS w0 w' b s p' d) ∧ Hid (symsFrom s p' = y.2)
  | .error y => x = Pan y.1 y.2 ∧ Hid (Up b w0 w')
abbrev vInt (z : Int) : Value := .int .i64 z
abbrev vRune (z : Int) : Value := .int .i32 z
abbrev vUnit (_ : Unit) : Value := .tuple #[]

def decLit : ByteArray := ⟨#[48, 49, 50, 51, 52, 53, 54, 55, 56, 57]⟩
def hexLit : ByteArray := ⟨#[48, 49, 50, 51, 52, 53, 54, 55, 56, 57, 97, 98, 99, 100, 101, 102]⟩
def repLit : ByteArray := ⟨#[42, 43, 63, 123]⟩
def markLit : ByteArray := ⟨#[124, 38, 126, 42, 43, 63, 123, 125, 91, 93, 40, 41, 46, 92]⟩
def escLit : ByteArray := ⟨#[124, 38, 126, 42, 43, 63, 123, 125, 91, 93, 40, 41, 46, 92, 94, 45, 110]⟩
theorem asc_of (s : ByteArray) (h : s.data.toList.all (fun b => decide (b.toNat < 128)) = true) : Asc s := by
  intro i hi
  have := List.all_eq_true.1 h (s[i]) (by exact Array.getElem_mem_toList (xs := s.data) hi)
  simpa using this
theorem nat_of (P : Int → Bool) (h : ∀ n : Fin 128, P ((n.val : Nat) : Int) = true) (c : Int) (h0 : 0 ≤ c) (h1 : c < 128) : P c = true := by
  have := h ⟨c.toNat, by omega⟩
  simpa [Int.toNat_of_nonneg h0] using this
theorem idx_dec (c : Int) : idxR decLit c = if isDig c = true then c - 48 else -1 := by
  unfold idxR
  by_cases h : 0 ≤ c ∧ c < 128
  · rw [if_pos h]
    have := nat_of (fun c => decide (Lib.indexByte decLit.data.toList c.toNat.toUInt8 = if isDig c = true then c - 48 else -1)) (by decide +kernel) c h.1 h.2
    simpa using this
  · rw [if_neg h, if_neg (by simp [isDig]; omega)]
theorem idx_hex (c : Int) : idxR hexLit c = hexv c := by
  unfold idxR
  by_cases h : 0 ≤ c ∧ c < 128
  · rw [if_pos h]
    have := nat_of (fun c => decide (Lib.indexByte hexLit.data.toList c.toNat.toUInt8 = hexv c)) (by decide +kernel) c h.1 h.2
    simpa using this
  · rw [if_neg h, hexv, if_neg (by omega), if_neg (by omega)]
theorem idx_rep (c : Int) : decide (0 ≤ idxR repLit c) = isRep c := by
  unfold idxR
  by_cases h : 0 ≤ c ∧ c < 128
  · rw [if_pos h]
    have := nat_of (fun c => decide (decide (0 ≤ Lib.indexByte repLit.data.toList c.toNat.toUInt8) = isRep c)) (by decide +kernel) c h.1 h.2
    simpa using this
  · rw [if_neg h, isRep]; simp; omega
theorem idx_mark (c : Int) : decide (0 ≤ idxR markLit c) = isMark c := by
  unfold idxR
  by_cases h : 0 ≤ c ∧ c < 128
  · rw [if_pos h]
    have := nat_of (fun c => decide (decide (0 ≤ Lib.indexByte markLit.data.toList c.toNat.toUInt8) = isMark c)) (by decide +kernel) c h.1 h.2
    simpa using this
  · rw [if_neg h]; simp [isMark]; omega
theorem idx_esc (c : Int) : decide (0 ≤ idxR escLit c) = (isEsc c || decide (c = 110)) := by
  unfold idxR
  by_cases h : 0 ≤ c ∧ c < 128
  · rw [if_pos h]
    have := nat_of (fun c => decide (decide (0 ≤ Lib.indexByte escLit.data.toList c.toNat.toUInt8) = (isEsc c || decide (c = 110)))) (by decide +kernel) c h.1 h.2
    simpa using this
  · rw [if_neg h]; simp [isEsc, isMark]; omega

section
variable {w0 w : World} {b : Nat} {s : ByteArray} {p : Nat} {d : Int}

theorem pDigit (h : Hid (PS w0 w b s p d)) (t : ByteArray) (ha : Asc t) (h4 : 4 ≤ t.size) (h60 : t.size ≤ 60) (z : Int) (hz : Hid (idxR t (hd (symsFrom s p)) = z)) :
    Calls Tryz.prog 331 #[.pointer (some ⟨b, 0, none⟩), .string t] w fun x w' => (z < 0 → x = .returned (.tuple #[.int .i64 0, .bool false]) ∧ Hid (PS w0 w' b s p d)) ∧ (0 ≤ z → x = .returned (.tuple #[.int .i64 z, .bool true]) ∧ ∃ p', Hid (PS w0 w' b s p' d) ∧ Hid (symsFrom s p' = (symsFrom s p).tail)) := by
  have HL := hide (pLook h)
  have HX := hide (fun w1 => indexRune_any t (hd (symsFrom s p)) w1 ha h4 h60 (symOr_hd s p (unhide h).le))
  rw [unhide hz] at HX
  generalize hd (symsFrom s p) = c at HL HX
  clear h ha hz
  by_cases hneg : z < 0
  · go_enter Tryz.func331, Tryz.ntmps331
    go_wp2_with (first
      | (go_at_call 233; refine (unhide HL).mono ?_; clear HL; rintro x w1 ⟨rfl, HS⟩)
      | (go_at_call 312; refine (unhide HX _).mono ?_; clear HX; rintro x w2 ⟨rfl, hb⟩; have HS2 := PS.below HS hb; clear hb))
    go_ret2
    exact ⟨fun _ => ⟨rfl, HS2⟩, fun h => absurd h (by omega)⟩
  · go_enter Tryz.func331, Tryz.ntmps331
    go_wp2_with (first
      | (go_at_call 233; refine (unhide HL).mono ?_; clear HL; rintro x w1 ⟨rfl, HS⟩)
      | (go_at_call 312; refine (unhide HX _).mono ?_; clear HX; rintro x w2 ⟨rfl, hb⟩; have HS2 := PS.below HS hb; clear hb)
      | (go_at_call 234; refine (pStep HS2).mono ?_; clear HS2; rintro x w3 ⟨rfl, p', HS3, HY⟩))
    go_ret2
    exact ⟨fun h => absurd h (by omega), fun _ => ⟨rfl, p', HS3, HY⟩⟩

theorem pDig_no (h : Hid (PS w0 w b s p d)) (hc : Hid (isDig (hd (symsFrom s p)) = false)) :
    Calls Tryz.prog 331 #[.pointer (some ⟨b, 0, none⟩), .string decLit] w fun x w' => x = .returned (.tuple #[.int .i64 0, .bool false]) ∧ Hid (PS w0 w' b s p d) := by
  refine (pDigit h decLit (asc_of _ (by decide)) (by decide) (by decide) (-1) (by show _ = _; rw [idx_dec, if_neg (by rw [unhide hc]; decide)])).mono ?_
  intro x w' hh; exact hh.1 (by decide)
theorem pDig_yes (h : Hid (PS w0 w b s p d)) {c : Int} (hcc : Hid (hd (symsFrom s p) = c)) (hc : Hid (isDig c = true)) :
    Calls Tryz.prog 331 #[.pointer (some ⟨b, 0, none⟩), .string decLit] w fun x w' => x = .returned (.tuple #[.int .i64 (c - 48), .bool true]) ∧ ∃ p', Hid (PS w0 w' b s p' d) ∧ Hid (symsFrom s p' = (symsFrom s p).tail) := by
  refine (pDigit h decLit (asc_of _ (by decide)) (by decide) (by decide) (c - 48) (by show _ = _; rw [unhide hcc, idx_dec, if_pos (unhide hc)])).mono ?_
  intro x w' hh
  exact hh.2 (by have := unhide hc; simp [isDig] at this; omega)

set_option maxRecDepth 100000 in
set_option maxHeartbeats 4000000 in
theorem pNumber (h : Hid (PS w0 w b s p d)) (least : Int) :
    Calls Tryz.prog 325 #[.pointer (some ⟨b, 0, none⟩), .int .i64 least] w (POut (numberS s.size least (symsFrom s p)) vInt w0 b s d) := by
  have hle := (unhide h).le
  obtain ⟨R, hR⟩ : ∃ R, numberS s.size least (symsFrom s p) = R := ⟨_, rfl⟩
  rw [hR]
  have HR := hide hR
  clear hR
  cases hc : isDig (hd (symsFrom s p))
  · have HX : Hid (R = .error (2, (p : Int))) := by show _ = _; rw [← unhide HR, numberS, hc, if_neg (by decide), bad, plc_syms hle]
    have HC := hide hc
    clear hc HR
    go_enter Tryz.func325, Tryz.ntmps325
    go_wp2_with (first
      | (go_at_call 331; refine (pDig_no h HC).mono ?_; rintro x w1 ⟨rfl, HS⟩)
      | (go_at_call 184; refine (pRefuse HS 2).mono ?_; rintro x w2 ⟨rfl, HU⟩))
    rw [unhide HX]
    exact ⟨rfl, rfl, HU⟩
  · obtain ⟨c, hcc⟩ : ∃ c, hd (symsFrom s p) = c := ⟨_, rfl⟩
    have HCC := hide hcc
    rw [hcc] at hc
    have hcr : 48 ≤ c ∧ c ≤ 57 := by simpa [isDig] using hc
    have HC := hide hc
    have HN : Hid (R = if (numV (symsFrom s p)).1 < least ∨ 12 < (numV (symsFrom s p)).1 then bad 3 s.size (numV (symsFrom s p)).2 else .ok (numV (symsFrom s p))) := by show _ = _; rw [← unhide HR, numberS, hcc, if_pos hc]
    obtain ⟨hcr1, hcr2⟩ := hcr
    clear hc HR
    by_cases hz : c = 48
    · subst hz
      have hv : numV (symsFrom s p) = (0, (symsFrom s p).tail) := by rw [numV, hcc, if_neg (by omega)]; rfl
      rw [hv] at HN
      have HV := HN
      clear HN hv hcc
      by_cases hbad : (0 : Int) < least ∨ 12 < (0 : Int)
      · have HX := hide ((unhide HV).trans (if_pos hbad))
        have hle1 : Hid (∀ q d', PS w0 w b s q d' → q ≤ s.size) := fun _ _ g => g.le
        rcases hbad with hb | hb
        all_goals
          go_enter Tryz.func325, Tryz.ntmps325
          go_wp2_with (first
          | (go_at_call 331; refine (pDig_yes h HCC HC).mono ?_; clear h; rintro x w1 ⟨rfl, p1, HS, HY1⟩)
          | (go_at_call 184; refine (pRefuse HS 3).mono ?_; rintro x w3 ⟨rfl, HU⟩))
          all_goals (rw [unhide HX, bad, ← unhide HY1, plc_syms (unhide HS).le]; exact ⟨rfl, rfl, HU⟩)
      · have HX := hide ((unhide HV).trans (if_neg hbad))
        have hb1 : ¬ (0 : Int) < least := by omega
        have hb2 : ¬ 12 < (0 : Int) := by omega
        clear hbad
        go_enter Tryz.func325, Tryz.ntmps325
        go_wp2_with (first
          | (go_at_call 331; refine (pDig_yes h HCC HC).mono ?_; clear h; rintro x w1 ⟨rfl, p1, HS, HY1⟩))
        go_ret
        rw [unhide HX]
        exact ⟨rfl, p1, HS, HY1⟩
    · obtain ⟨c2, hcc2⟩ : ∃ c2, hd (symsFrom s p).tail = c2 := ⟨_, rfl⟩
      have HCC2 := hide hcc2
      cases hc2 : isDig c2
      · have hv : numV (symsFrom s p) = (c - 48, (symsFrom s p).tail) := by rw [numV, hcc, hcc2, if_neg (by rw [hc2]; simp)]
        rw [hv] at HN
        have HV := HN
        have HC2 := hide hc2
        clear HN hv hcc hcc2 hc2
        by_cases hbad : c - 48 < least ∨ 12 < c - 48
        · have HX := hide ((unhide HV).trans (if_pos hbad))
          have hle1 : Hid (∀ q d', PS w0 w b s q d' → q ≤ s.size) := fun _ _ g => g.le
          rcases hbad with hb | hb
          all_goals
            go_enter Tryz.func325, Tryz.ntmps325
            go_wp2_with (first
            | (go_at_call 331; refine (pDig_yes h HCC HC).mono ?_; clear h; rintro x w1 ⟨rfl, p1, HS, HY1⟩)
            | (go_at_call 331; refine (pDig_no HS (by show isDig (hd (symsFrom s p1)) = false; rw [unhide HY1, unhide HCC2]; exact unhide HC2)).mono ?_; clear HS; rintro x w2 ⟨rfl, HS⟩)
            | (go_at_call 184; refine (pRefuse HS 3).mono ?_; rintro x w3 ⟨rfl, HU⟩))
            all_goals (rw [unhide HX, bad, ← unhide HY1, plc_syms (unhide HS).le]; exact ⟨rfl, rfl, HU⟩)
        · have HX := hide ((unhide HV).trans (if_neg hbad))
          have hb1 : ¬ c - 48 < least := by omega
          have hb2 : ¬ 12 < c - 48 := by omega
          clear hbad
          go_enter Tryz.func325, Tryz.ntmps325
          go_wp2_with (first
            | (go_at_call 331; refine (pDig_yes h HCC HC).mono ?_; clear h; rintro x w1 ⟨rfl, p1, HS, HY1⟩)
            | (go_at_call 331; refine (pDig_no HS (by show isDig (hd (symsFrom s p1)) = false; rw [unhide HY1, unhide HCC2]; exact unhide HC2)).mono ?_; clear HS; rintro x w2 ⟨rfl, HS⟩))
          go_ret
          rw [unhide HX]
          exact ⟨rfl, p1, HS, HY1⟩
      · have hv : numV (symsFrom s p) = (10 * (c - 48) + (c2 - 48), (symsFrom s p).tail.tail) := by rw [numV, hcc, hcc2, if_pos ⟨by omega, hc2⟩]
        rw [hv] at HN
        have HV := HN
        have HC2 := hide hc2
        have hc2r : 48 ≤ c2 ∧ c2 ≤ 57 := by simpa [isDig] using hc2
        obtain ⟨hc2a, hc2b⟩ := hc2r
        clear HN hv hcc hcc2 hc2
        by_cases hbad : 10 * (c - 48) + (c2 - 48) < least ∨ 12 < 10 * (c - 48) + (c2 - 48)
        · have HX := hide ((unhide HV).trans (if_pos hbad))
          have hle1 : Hid (∀ q d', PS w0 w b s q d' → q ≤ s.size) := fun _ _ g => g.le
          rcases hbad with hb | hb
          all_goals
            go_enter Tryz.func325, Tryz.ntmps325
            go_wp2_with (first
            | (go_at_call 331; refine (pDig_yes h HCC HC).mono ?_; clear h; rintro x w1 ⟨rfl, p1, HS, HY1⟩)
            | (go_at_call 331; refine (pDig_yes HS (by show hd (symsFrom s p1) = c2; rw [unhide HY1]; exact unhide HCC2) HC2).mono ?_; clear HS; rintro x w2 ⟨rfl, p2, HS, HY2'⟩; have HY2 : Hid (symsFrom s p2 = (symsFrom s p).tail.tail) := (by show _ = _; rw [unhide HY2', unhide HY1]))
            | (go_at_call 184; refine (pRefuse HS 3).mono ?_; rintro x w3 ⟨rfl, HU⟩))
            all_goals (rw [unhide HX, bad, ← unhide HY2, plc_syms (unhide HS).le]; exact ⟨rfl, rfl, HU⟩)
        · have HX := hide ((unhide HV).trans (if_neg hbad))
          have hb1 : ¬ 10 * (c - 48) + (c2 - 48) < least := by omega
          have hb2 : ¬ 12 < 10 * (c - 48) + (c2 - 48) := by omega
          clear hbad
          go_enter Tryz.func325, Tryz.ntmps325
          go_wp2_with (first
            | (go_at_call 331; refine (pDig_yes h HCC HC).mono ?_; clear h; rintro x w1 ⟨rfl, p1, HS, HY1⟩)
            | (go_at_call 331; refine (pDig_yes HS (by show hd (symsFrom s p1) = c2; rw [unhide HY1]; exact unhide HCC2) HC2).mono ?_; clear HS; rintro x w2 ⟨rfl, p2, HS, HY2'⟩; have HY2 : Hid (symsFrom s p2 = (symsFrom s p).tail.tail) := (by show _ = _; rw [unhide HY2', unhide HY1])))
          go_ret
          rw [unhide HX]
          exact ⟨rfl, p2, HS, HY2⟩
end
end Go.Proofs.YtfolanohokflkabGreatDoor
