import Derived.Test.YtfolanohokflkaaGreatDoorRdB
import Derived.Test.YtfolanohokflkaaGreatDoorRefZ
import Derived.WalkKit
import Derived.WalkSpells
import Derived.WalkLawsBesides
import Derived.WalkMore
namespace Go.Proofs.YtfolanohokflkaaGreatDoor
open Go.RowKit

theorem num_any (e : Int) (w : World) : Calls Tryz.prog 62 #[.int .i64 e] w fun x w' => x = .returned (.int .i64 e) ∧ w = w' := by
  go_enter Tryz.func62, Tryz.ntmps62
  go_wp2_with fail
  go_ret
  exact ⟨rfl, rfl⟩

def opCells (a b c : Int) (P Q T : ByteArray) : Array Value := #[.int .i64 a, .int .i64 b, .int .i64 c, .string P, .string Q, .string T]
abbrev opV (a b c : Int) (P Q T : ByteArray) : Value := .agg #[.int .i64 a, .int .i64 b, .int .i64 c, .string P, .string Q, .string T]

theorem op_cell (w : World) (a b c : Int) (P Q T : ByteArray) : (w.alloc (.cells #[.int .i64 a, .int .i64 b, .int .i64 c, .string P, .string Q, .string T] 52)).cell? ⟨w.heap.size, 3, none⟩ = some (.string P) :=
  cells_new w [.int .i64 a, .int .i64 b, .int .i64 c, .string P, .string Q, .string T] _ 3 _ rfl

set_option maxRecDepth 100000 in
set_option maxHeartbeats 8000000 in
theorem texts_check (w : World) (fr bd : Int) (P Q T : ByteArray) (hm : P.size ≤ maxLen) (ht : Hid (Lib.Utf8Tabs 4 5 w)) :
    Calls Tryz.prog 60 #[opV 1 fr bd P Q T] w fun x w' => x = .returned (.bool true) ∧ Hid (Below w.heap.size w w') := by
  have hlt := tabs_lt (unhide ht)
  have ht1 : Hid (Lib.Utf8Tabs 4 5 (w.alloc (.cells #[.int .i64 1, .int .i64 fr, .int .i64 bd, .string P, .string Q, .string T] 52))) := tabs_of (unhide ht) (Below.heap_alloc w _ 4 (by omega)) (Below.heap_alloc w _ 5 (by omega))
  have HC := hide (check_any _ P ht1)
  have HR := hide (fun w1 => refCheck_any P w1 hm)
  have C3 := hide (op_cell w 1 fr bd P Q T)
  have HN : Hid (w.heap.size < (w.alloc (.cells #[.int .i64 1, .int .i64 fr, .int .i64 bd, .string P, .string Q, .string T] 52)).heap.size) := by show _ < _; simp
  have HB0 : Hid (Below w.heap.size w (w.alloc (.cells #[.int .i64 1, .int .i64 fr, .int .i64 bd, .string P, .string Q, .string T] 52))) := (Below.refl _ _).alloc (Nat.le_refl _) _
  generalize (checkS P).1 = e at HC HR
  generalize (checkS P).2 = p at HC HR
  clear ht ht1 hm hlt
  go_enter Tryz.func60, Tryz.ntmps60
  go_wp2_with (first
    | (go_at_call 36; refine (unhide HC).mono ?_; clear HC; rintro x w1 ⟨rfl, HB1⟩; have q3 : w1.cell? ⟨w.heap.size, 3, none⟩ = some (.string P) := (by rw [(unhide HB1).cell (p := ⟨w.heap.size, 3, none⟩) (unhide HN)]; exact unhide C3))
    | (go_at_call 87; refine (unhide HR _).mono ?_; clear HR; rintro x w2 ⟨rfl, hb⟩; have HB2 := hide hb; clear hb)
    | (go_at_call 62; refine (num_any _ _).mono ?_; rintro x w3 ⟨rfl, rfl⟩))
  go_ret
  exact ⟨rfl, below_comp (below_comp HB0 HB1) HB2⟩

set_option maxRecDepth 100000 in
set_option maxHeartbeats 8000000 in
theorem plays_check (w : World) (fr bd : Int) (P Q T : ByteArray) (hm : P.size ≤ maxLen) (ht : Hid (Lib.Utf8Tabs 4 5 w)) :
    Calls Tryz.prog 35 #[opV 1 fr bd P Q T] w fun x w' => x = .returned (.bool true) ∧ Hid (Below w.heap.size w w') := by
  have hlt := tabs_lt (unhide ht)
  have ht1 : Hid (Lib.Utf8Tabs 4 5 (w.alloc (.cells #[.int .i64 1, .int .i64 fr, .int .i64 bd, .string P, .string Q, .string T] 52))) := tabs_of (unhide ht) (Below.heap_alloc w _ 4 (by omega)) (Below.heap_alloc w _ 5 (by omega))
  have HC := hide (texts_check _ fr bd P Q T hm ht1)
  have HB0 : Hid (Below w.heap.size w (w.alloc (.cells #[.int .i64 1, .int .i64 fr, .int .i64 bd, .string P, .string Q, .string T] 52))) := (Below.refl _ _).alloc (Nat.le_refl _) _
  clear ht ht1 hm hlt
  go_enter Tryz.func35, Tryz.ntmps35
  go_wp2_with (first
    | (go_at_call 60; refine (unhide HC).mono ?_; clear HC; rintro x w1 ⟨rfl, HB1⟩))
  go_ret
  exact ⟨rfl, below_comp HB0 HB1⟩
end Go.Proofs.YtfolanohokflkaaGreatDoor

namespace Go.Proofs.YtfolanohokflkaaGreatDoor
open Go.RowKit

/-- the steps of a script, in memory. -/
def ScriptAt (w : World) (b o len : Nat) (K F B : Nat → Int) (P Q T : Nat → ByteArray) : Prop := ∀ i, i < len →
  w.cell? ⟨b, o + i * 6, none⟩ = some (.int .i64 (K i)) ∧ w.cell? ⟨b, o + i * 6 + 1, none⟩ = some (.int .i64 (F i)) ∧ w.cell? ⟨b, o + i * 6 + 2, none⟩ = some (.int .i64 (B i)) ∧
  w.cell? ⟨b, o + i * 6 + 3, none⟩ = some (.string (P i)) ∧ w.cell? ⟨b, o + i * 6 + 4, none⟩ = some (.string (Q i)) ∧ w.cell? ⟨b, o + i * 6 + 5, none⟩ = some (.string (T i)) ∧ (P i).size ≤ maxLen

set_option maxRecDepth 100000 in
theorem upto_empty (w : World) (a : Option Addr) (cap : Nat) (lo hi : Int) :
    Calls Tryz.prog 15 #[.slice a 0 cap, .int .i64 lo, .int .i64 hi] w fun x w' => x = .returned (.int .i64 (-1)) ∧ Hid (Below w.heap.size w w') := by
  go_enter Tryz.func15, Tryz.ntmps15
  go_wp2_with fail
  refine wp_loop_rounds 1 ?_
  rw [rounds_succ]
  go_wp2_with fail
  go_ret
  exact ⟨rfl, Below.refl _ _⟩

theorem tabs_below {w w' : World} (ht : Hid (Lib.Utf8Tabs 4 5 w)) (hb : Hid (Below w.heap.size w w')) : Hid (Lib.Utf8Tabs 4 5 w') := by
  have hlt := tabs_lt (unhide ht)
  exact tabs_of (unhide ht) ((unhide hb).block 4 (by omega)) ((unhide hb).block 5 (by omega))

set_option maxRecDepth 100000 in
set_option maxHeartbeats 8000000 in
theorem upto_some (w : World) (b o len cap : Nat) (K F B : Nat → Int) (P Q T : Nat → ByteArray) (hs : Hid (ScriptAt w b o len K F B P Q T)) (hl : len ≤ cap) (hcap : cap ≤ maxLen) (hbl : b < w.heap.size) (ht : Hid (Lib.Utf8Tabs 4 5 w)) :
    Calls Tryz.prog 15 #[.slice (some ⟨b, o, none⟩) len cap, .int .i64 1, .int .i64 1] w fun x w' => x = .returned (.int .i64 (-1)) ∧ Hid (Below w.heap.size w w') := by
  have hmax : len ≤ 9223372036854775807 := Nat.le_trans (Nat.le_trans hl hcap) (by unfold maxLen; decide)
  have HB0 : Hid (Below w.heap.size w w) := Below.refl _ _
  go_enter Tryz.func15, Tryz.ntmps15
  go_wp2_with fail
  go_loopw [7] (fun v wr => ∃ i : Nat, i ≤ len ∧ v = .int .i64 i ∧ Hid (Below w.heap.size w wr)) (fun v _ => len - (intOf v).toNat)
  case atStart => exact ⟨0, Nat.zero_le _, rfl, HB0⟩
  case round =>
    clear HB0
    obtain ⟨i, hi, rfl, HB⟩ := hrel
    by_cases hil : i < len
    · obtain ⟨q0, q1, q2, q3, q4, q5, hm⟩ := unhide hs i hil
      rw [← (unhide HB).cell (p := ⟨b, _, none⟩) hbl] at q0 q1 q2 q3 q4 q5
      have ht1 := tabs_below ht HB
      have ht2 := tabs_below ht1 (hide ((Below.refl _ _).alloc (Nat.le_refl _) (.cells #[.int .i64 (K i), .int .i64 (F i), .int .i64 (B i), .string (P i), .string (Q i), .string (T i)] 52)))
      have hilI : (i : Int) < (len : Int) := by omega
      by_cases hk : K i = 1
      · rw [hk] at q0 ht2
        have HP := hide (plays_check _ (F i) (B i) (P i) (Q i) (T i) hm ht2)
        clear ht2 ht1 hm hk
        generalize F i = f at *
        generalize B i = bb at *
        generalize P i = pp at *
        generalize Q i = qq at *
        generalize T i = tt at *
        go_wp2_with (first
          | (go_at_call 35; refine (unhide HP).mono ?_; clear HP; rintro x w1 ⟨rfl, HB1⟩))
        exact ⟨⟨i + 1, by omega, by go_num, below_comp (below_comp HB (hide ((Below.refl _ _).alloc (Nat.le_refl _) _))) HB1⟩, by simp [intOf]; omega⟩
      · clear ht2 ht1 hm
        generalize F i = f at *
        generalize B i = bb at *
        generalize P i = pp at *
        generalize Q i = qq at *
        generalize T i = tt at *
        generalize K i = kk at *
        by_cases hk2 : kk < 1
        · have k1 : decide ((1 : Int) ≤ kk) = false := by simp; omega
          clear hk
          go_wp2_with fail
          exact ⟨⟨i + 1, by omega, by go_num, below_comp HB (hide ((Below.refl _ _).alloc (Nat.le_refl _) _))⟩, by simp [intOf]; omega⟩
        · have k1 : (1 : Int) ≤ kk := by omega
          have k2 : decide (kk ≤ (1 : Int)) = false := by simp; omega
          clear hk hk2
          go_wp2_with fail
          exact ⟨⟨i + 1, by omega, by go_num, below_comp HB (hide ((Below.refl _ _).alloc (Nat.le_refl _) _))⟩, by simp [intOf]; omega⟩
    · have hilI : decide ((i : Int) < (len : Int)) = false := by simp; omega
      go_wp2_with fail
      go_ret
      exact ⟨rfl, HB⟩

theorem checks_empty (w : World) (a : Option Addr) (cap : Nat) :
    Calls Tryz.prog 3 #[.slice a 0 cap] w fun x w' => x = .returned (.bool true) ∧ Hid (Below w.heap.size w w') := by
  go_enter Tryz.func3, Tryz.ntmps3
  go_wp2_with (go_at_call 15; refine (upto_empty w a cap 1 1).mono ?_; rintro x w1 ⟨rfl, HB⟩)
  go_ret
  exact ⟨rfl, HB⟩
theorem checks_some (w : World) (b o len cap : Nat) (K F B : Nat → Int) (P Q T : Nat → ByteArray) (hs : Hid (ScriptAt w b o len K F B P Q T)) (hl : len ≤ cap) (hcap : cap ≤ maxLen) (hbl : b < w.heap.size) (ht : Hid (Lib.Utf8Tabs 4 5 w)) :
    Calls Tryz.prog 3 #[.slice (some ⟨b, o, none⟩) len cap] w fun x w' => x = .returned (.bool true) ∧ Hid (Below w.heap.size w w') := by
  have HU := hide (upto_some w b o len cap K F B P Q T hs hl hcap hbl ht)
  clear hs hl hcap hbl ht
  go_enter Tryz.func3, Tryz.ntmps3
  go_wp2_with (go_at_call 15; refine (unhide HU).mono ?_; rintro x w1 ⟨rfl, HB⟩)
  go_ret
  exact ⟨rfl, HB⟩
end Go.Proofs.YtfolanohokflkaaGreatDoor
