import Derived.Test.YthopgbacdmgfgaaGreatDoorLawA
import Derived.WalkKit
import Derived.WalkSpells
import Derived.WalkLawsBesides
import Derived.WalkMore
namespace Go.Proofs.YthopgbacdmgfgaaGreatDoor
open Go.RowKit

/-- the steps of a script, in memory. -/
def ScriptAt (w : World) (b o len : Nat) (K F B : Nat → Int) (P Q T : Nat → ByteArray) : Prop := ∀ i, i < len →
  w.cell? ⟨b, o + i * 6, none⟩ = some (.int .i64 (K i)) ∧ w.cell? ⟨b, o + i * 6 + 1, none⟩ = some (.int .i64 (F i)) ∧ w.cell? ⟨b, o + i * 6 + 2, none⟩ = some (.int .i64 (B i)) ∧
  w.cell? ⟨b, o + i * 6 + 3, none⟩ = some (.string (P i)) ∧ w.cell? ⟨b, o + i * 6 + 4, none⟩ = some (.string (Q i)) ∧ w.cell? ⟨b, o + i * 6 + 5, none⟩ = some (.string (T i)) ∧ (P i).size ≤ maxLen

set_option maxRecDepth 100000 in
theorem upto_empty (w : World) (a : Option Addr) (cap : Nat) (lo hi : Int) :
    Calls Tryz.prog 4 #[.slice a 0 cap, .int .i64 lo, .int .i64 hi] w fun x w' => x = .returned (.int .i64 (-1)) ∧ Hid (Below w.heap.size w w') := by
  go_enter Tryz.func4, Tryz.ntmps4
  go_wp2_with fail
  refine wp_loop_rounds 1 ?_
  rw [rounds_succ]
  go_wp2_with fail
  go_ret
  exact ⟨rfl, Below.refl _ _⟩

theorem tabs_below {w w' : World} (ht : Hid (Lib.Utf8Tabs 0 1 w)) (hb : Hid (Below w.heap.size w w')) : Hid (Lib.Utf8Tabs 0 1 w') := by
  have hlt := tabs_lt (unhide ht)
  exact tabs_of (unhide ht) ((unhide hb).block 0 (by omega)) ((unhide hb).block 1 (by omega))

set_option maxRecDepth 100000 in
set_option maxHeartbeats 8000000 in
theorem upto_some (w : World) (b o len cap : Nat) (K F B : Nat → Int) (P Q T : Nat → ByteArray) (hs : Hid (ScriptAt w b o len K F B P Q T)) (hl : len ≤ cap) (hcap : cap ≤ maxLen) (hbl : b < w.heap.size) (ht : Hid (Lib.Utf8Tabs 0 1 w)) :
    Calls Tryz.prog 4 #[.slice (some ⟨b, o, none⟩) len cap, .int .i64 1, .int .i64 1] w fun x w' => x = .returned (.int .i64 (-1)) ∧ Hid (Below w.heap.size w w') := by
  have hmax : len ≤ 9223372036854775807 := Nat.le_trans (Nat.le_trans hl hcap) (by unfold maxLen; decide)
  have HB0 : Hid (Below w.heap.size w w) := Below.refl _ _
  go_enter Tryz.func4, Tryz.ntmps4
  go_wp2_with fail
  go_loopw [7] (fun v wr => ∃ i : Nat, i ≤ len ∧ v = .int .i64 i ∧ Hid (Below w.heap.size w wr)) (fun v _ => len - (intOf v).toNat)
  case atStart => exact ⟨0, Nat.zero_le _, rfl, HB0⟩
  case round =>
    clear HB0
    obtain ⟨i, hi, rfl, HB⟩ := hrel
    by_cases hil : i < len
    · obtain ⟨q0, q1, q2, q3, q4, q5, hm⟩ := unhide hs i hil
      rw [← (unhide HB).cell (p := ⟨b, _, none⟩) hbl] at q0 q1 q2 q3 q4 q5
      have ht1 := tabs_below ht HB
      have ht2 := tabs_below ht1 (hide ((Below.refl _ _).alloc (Nat.le_refl _) (.cells #[.int .i64 (K i), .int .i64 (F i), .int .i64 (B i), .string (P i), .string (Q i), .string (T i)] 26)))
      have hilI : (i : Int) < (len : Int) := by omega
      by_cases hk : K i = 1
      · rw [hk] at q0 ht2
        have HP := hide (plays_check _ (F i) (B i) (P i) (Q i) (T i) hm ht2)
        clear ht2 ht1 hm hk
        generalize F i = f at *
        generalize B i = bb at *
        generalize P i = pp at *
        generalize Q i = qq at *
        generalize T i = tt at *
        go_wp2_with (first
          | (go_at_call 5; refine (unhide HP).mono ?_; clear HP; rintro x w1 ⟨rfl, HB1⟩))
        exact ⟨⟨i + 1, by omega, by go_num, below_comp (below_comp HB (hide ((Below.refl _ _).alloc (Nat.le_refl _) _))) HB1⟩, by simp [intOf]; omega⟩
      · clear ht2 ht1 hm
        generalize F i = f at *
        generalize B i = bb at *
        generalize P i = pp at *
        generalize Q i = qq at *
        generalize T i = tt at *
        generalize K i = kk at *
        by_cases hk2 : kk < 1
        · have k1 : decide ((1 : Int) ≤ kk) = false := by simp; omega
          clear hk
          go_wp2_with fail
          exact ⟨⟨i + 1, by omega, by go_num, below_comp HB (hide ((Below.refl _ _).alloc (Nat.le_refl _) _))⟩, by simp [intOf]; omega⟩
        · have k1 : (1 : Int) ≤ kk := by omega
          have k2 : decide (kk ≤ (1 : Int)) = false := by simp; omega
          clear hk hk2
          go_wp2_with fail
          exact ⟨⟨i + 1, by omega, by go_num, below_comp HB (hide ((Below.refl _ _).alloc (Nat.le_refl _) _))⟩, by simp [intOf]; omega⟩
    · have hilI : decide ((i : Int) < (len : Int)) = false := by simp; omega
      go_wp2_with fail
      go_ret
      exact ⟨rfl, HB⟩

theorem checks_empty (w : World) (a : Option Addr) (cap : Nat) :
    Calls Tryz.prog 3 #[.slice a 0 cap] w fun x w' => x = .returned (.bool true) ∧ Hid (Below w.heap.size w w') := by
  go_enter Tryz.func3, Tryz.ntmps3
  go_wp2_with (go_at_call 4; refine (upto_empty w a cap 1 1).mono ?_; rintro x w1 ⟨rfl, HB⟩)
  go_ret
  exact ⟨rfl, HB⟩
theorem checks_some (w : World) (b o len cap : Nat) (K F B : Nat → Int) (P Q T : Nat → ByteArray) (hs : Hid (ScriptAt w b o len K F B P Q T)) (hl : len ≤ cap) (hcap : cap ≤ maxLen) (hbl : b < w.heap.size) (ht : Hid (Lib.Utf8Tabs 0 1 w)) :
    Calls Tryz.prog 3 #[.slice (some ⟨b, o, none⟩) len cap] w fun x w' => x = .returned (.bool true) ∧ Hid (Below w.heap.size w w') := by
  have HU := hide (upto_some w b o len cap K F B P Q T hs hl hcap hbl ht)
  clear hs hl hcap hbl ht
  go_enter Tryz.func3, Tryz.ntmps3
  go_wp2_with (go_at_call 4; refine (unhide HU).mono ?_; rintro x w1 ⟨rfl, HB⟩)
  go_ret
  exact ⟨rfl, HB⟩
end Go.Proofs.YthopgbacdmgfgaaGreatDoor
