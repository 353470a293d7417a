import Derived.Test.YthopgbacdmgfgaaGreatDoorProP
import Derived.Test.YthopgbacdmgfgaaGreatDoorRefZ
import Derived.WalkKit
import Derived.WalkSpells
import Derived.WalkLawsBesides
import Derived.WalkMore
namespace Go.Proofs.YthopgbacdmgfgaaGreatDoor
open Go.RowKit

theorem num_any (e : Int) (w : World) : Calls Tryz.prog 9 #[.int .i64 e] w fun x w' => x = .returned (.int .i64 e) ∧ w = w' := by
  go_enter Tryz.func9, Tryz.ntmps9
  go_wp2_with fail
  go_ret
  exact ⟨rfl, rfl⟩

def opCells (a b c : Int) (P Q T : ByteArray) : Array Value := #[.int .i64 a, .int .i64 b, .int .i64 c, .string P, .string Q, .string T]
abbrev opV (a b c : Int) (P Q T : ByteArray) : Value := .agg #[.int .i64 a, .int .i64 b, .int .i64 c, .string P, .string Q, .string T]

theorem op_cell (w : World) (a b c : Int) (P Q T : ByteArray) : (w.alloc (.cells #[.int .i64 a, .int .i64 b, .int .i64 c, .string P, .string Q, .string T] 26)).cell? ⟨w.heap.size, 3, none⟩ = some (.string P) :=
  cells_new w [.int .i64 a, .int .i64 b, .int .i64 c, .string P, .string Q, .string T] _ 3 _ rfl

set_option maxRecDepth 100000 in
set_option maxHeartbeats 8000000 in
theorem texts_check (w : World) (fr bd : Int) (P Q T : ByteArray) (hm : P.size ≤ maxLen) (ht : Hid (Lib.Utf8Tabs 0 1 w)) :
    Calls Tryz.prog 6 #[opV 1 fr bd P Q T] w fun x w' => x = .returned (.bool true) ∧ Hid (Below w.heap.size w w') := by
  have hlt := tabs_lt (unhide ht)
  have ht1 : Hid (Lib.Utf8Tabs 0 1 (w.alloc (.cells #[.int .i64 1, .int .i64 fr, .int .i64 bd, .string P, .string Q, .string T] 26))) := tabs_of (unhide ht) (Below.heap_alloc w _ 0 (by omega)) (Below.heap_alloc w _ 1 (by omega))
  have HC := hide (check_any _ P ht1)
  have HR := hide (fun w1 => refCheck_any P w1 hm)
  have C3 := hide (op_cell w 1 fr bd P Q T)
  have HN : Hid (w.heap.size < (w.alloc (.cells #[.int .i64 1, .int .i64 fr, .int .i64 bd, .string P, .string Q, .string T] 26)).heap.size) := by show _ < _; simp
  have HB0 : Hid (Below w.heap.size w (w.alloc (.cells #[.int .i64 1, .int .i64 fr, .int .i64 bd, .string P, .string Q, .string T] 26))) := (Below.refl _ _).alloc (Nat.le_refl _) _
  generalize (checkS P).1 = e at HC HR
  generalize (checkS P).2 = p at HC HR
  clear ht ht1 hm hlt
  go_enter Tryz.func6, Tryz.ntmps6
  go_wp2_with (first
    | (go_at_call 14; refine (unhide HC).mono ?_; clear HC; rintro x w1 ⟨rfl, HB1⟩; have q3 : w1.cell? ⟨w.heap.size, 3, none⟩ = some (.string P) := (by rw [(unhide HB1).cell (p := ⟨w.heap.size, 3, none⟩) (unhide HN)]; exact unhide C3))
    | (go_at_call 15; refine (unhide HR _).mono ?_; clear HR; rintro x w2 ⟨rfl, hb⟩; have HB2 := hide hb; clear hb)
    | (go_at_call 9; refine (num_any _ _).mono ?_; rintro x w3 ⟨rfl, rfl⟩))
  go_ret
  exact ⟨rfl, below_comp (below_comp HB0 HB1) HB2⟩

set_option maxRecDepth 100000 in
set_option maxHeartbeats 8000000 in
theorem plays_check (w : World) (fr bd : Int) (P Q T : ByteArray) (hm : P.size ≤ maxLen) (ht : Hid (Lib.Utf8Tabs 0 1 w)) :
    Calls Tryz.prog 5 #[opV 1 fr bd P Q T] w fun x w' => x = .returned (.bool true) ∧ Hid (Below w.heap.size w w') := by
  have hlt := tabs_lt (unhide ht)
  have ht1 : Hid (Lib.Utf8Tabs 0 1 (w.alloc (.cells #[.int .i64 1, .int .i64 fr, .int .i64 bd, .string P, .string Q, .string T] 26))) := tabs_of (unhide ht) (Below.heap_alloc w _ 0 (by omega)) (Below.heap_alloc w _ 1 (by omega))
  have HC := hide (texts_check _ fr bd P Q T hm ht1)
  have HB0 : Hid (Below w.heap.size w (w.alloc (.cells #[.int .i64 1, .int .i64 fr, .int .i64 bd, .string P, .string Q, .string T] 26))) := (Below.refl _ _).alloc (Nat.le_refl _) _
  clear ht ht1 hm hlt
  go_enter Tryz.func5, Tryz.ntmps5
  go_wp2_with (first
    | (go_at_call 6; refine (unhide HC).mono ?_; clear HC; rintro x w1 ⟨rfl, HB1⟩))
  go_ret
  exact ⟨rfl, below_comp HB0 HB1⟩
end Go.Proofs.YthopgbacdmgfgaaGreatDoor
