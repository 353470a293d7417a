import Derived.Test.YthopgbacdmgfgaaGreatDoorProO
import Derived.WalkKit
import Derived.WalkSpells
import Derived.WalkLawsBesides
import Derived.WalkMore
import Derived.Deep.QuietTactic
import Derived.BigQuiet
namespace Go.Proofs.YthopgbacdmgfgaaGreatDoor
open Go.RowKit

theorem tabs_two {w : World} {o o' : Obj} (ht : Hid (Lib.Utf8Tabs 0 1 w)) : Hid (Lib.Utf8Tabs 0 1 ((w.alloc o).alloc o')) := by
  have hlt := tabs_lt (unhide ht)
  exact tabs_of (unhide ht) ((Below.heap_alloc _ o' 0 (by simp)).trans (Below.heap_alloc w o 0 (by omega))) ((Below.heap_alloc _ o' 1 (by simp; omega)).trans (Below.heap_alloc w o 1 (by omega)))
theorem below_comp {w w1 w2 : World} (h : Hid (Below w.heap.size w w1)) (k : Hid (Below w1.heap.size w1 w2)) : Hid (Below w.heap.size w w2) :=
  ⟨(unhide k).os.trans (unhide h).os, (unhide k).tape.trans (unhide h).tape, (unhide k).output.trans (unhide h).output, Nat.le_trans (unhide h).size (unhide k).size, fun i hi => ((unhide k).block i (Nat.lt_of_lt_of_le hi (unhide h).size)).trans ((unhide h).block i hi)⟩
theorem below_drawn (w : World) (o : Obj) (n : Nat) : Hid (Below w.heap.size w ((w.alloc o).drewN n)) := by
  have h : Below w.heap.size w (w.alloc o) := (Below.refl _ _).alloc (Nat.le_refl _) _
  exact ⟨h.os, h.tape, h.output, h.size, h.block⟩
theorem cell_first (w : World) (s : ByteArray) (o' : Obj) : ((w.alloc (.cells #[.string s] 9)).alloc o').cell? ⟨w.heap.size, 0, none⟩ = some (.string s) := by
  rw [World.cell?_alloc_past _ _ _ (by simp)]
  exact cells_new w [.string s] _ 0 _ rfl
theorem cell_second (w : World) (o : Obj) (u : Value) (t : TypeId) : ((w.alloc o).alloc (.cells #[u] t)).cell? ⟨w.heap.size + 1, 0, none⟩ = some u := by
  have h := cells_new (w.alloc o) [u] t 0 _ rfl
  rw [show (w.alloc o).heap.size = w.heap.size + 1 from by simp] at h
  exact h
theorem frozen_second (w : World) (o : Obj) (u : Value) (t : TypeId) : ((w.alloc o).alloc (.cells #[u] t)).frozen? ⟨w.heap.size + 1, 0, none⟩ = false :=
  World.frozen?_alloc_at _ _ _ _ (by simp)

set_option maxRecDepth 100000 in
set_option maxHeartbeats 4000000 in
theorem check_err {w : World} {s : ByteArray} (hs : s.size ≤ 60) (ht : Hid (Lib.Utf8Tabs 0 1 w)) {y : Int × Int} (hR : Hid (plainR s = .error y)) :
    Calls Tryz.prog 14 #[.string s] w fun x w' => x = .returned (.tuple #[.int .i64 y.1, .int .i64 y.2]) ∧ Hid (Below w.heap.size w w') := by
  have hmf : ∀ (fn : Fn) (first cap : Array Value) (w : World), (Instr.makeFunc fn first cap).run Tryz.prog w = .ok (.func fn first cap) w := fun _ _ _ _ => rfl
  have hs' : (s.size : Int) ≤ 60 := by omega
  have HA := hide (attempt_err (j := w.heap.size + 1) hs (tabs_two (o := .cells #[.string s] 9) (o' := .cells #[.int .i64 0] 3) ht) (cell_first w s _) hR)
  have C2 := hide (cell_second w (.cells #[.string s] 9) (.int .i64 0) 3)
  have HN : Hid (w.heap.size + 1 < ((w.alloc (.cells #[.string s] 9)).alloc (.cells #[.int .i64 0] 3)).heap.size) := by show _ < _; simp
  obtain ⟨e, p⟩ := y
  have HB0 : Hid (Below w.heap.size w ((w.alloc (.cells #[.string s] 9)).alloc (.cells #[.int .i64 0] 3))) := ((Below.refl _ _).alloc (Nat.le_refl _) _).alloc (by simp) _
  clear ht hR hs
  by_cases he : e = 0
  · subst he
    go_enter Tryz.func14, Tryz.ntmps14
    go_wp2_with (go_at_call 30; refine (unhide HA).mono ?_; clear HA; rintro x w2 ⟨rfl, HB⟩; have qj : w2.cell? ⟨w.heap.size + 1, 0, none⟩ = some (.int .i64 0) := (by rw [(unhide HB).cell (p := ⟨w.heap.size + 1, 0, none⟩) (unhide HN)]; exact unhide C2); have hlt2 := World.block_lt_of_cell? w2 _ qj)
    go_quiet (fail)
    go_wp2_with fail
    go_ret2
    exact ⟨rfl, below_comp (below_comp HB0 HB) (below_drawn _ _ _)⟩
  · have he' : (e == 0) = false := by simpa using he
    clear he
    go_enter Tryz.func14, Tryz.ntmps14
    go_wp2_with (go_at_call 30; refine (unhide HA).mono ?_; clear HA; rintro x w2 ⟨rfl, HB⟩)
    go_quiet (fail)
    go_wp2_with fail
    go_ret2
    exact ⟨rfl, below_comp (below_comp HB0 HB) (below_drawn _ _ _)⟩

set_option maxRecDepth 100000 in
set_option maxHeartbeats 4000000 in
theorem check_ok {w : World} {s : ByteArray} (hs : s.size ≤ 60) (ht : Hid (Lib.Utf8Tabs 0 1 w)) {z : Int} (hR : Hid (plainR s = .ok z)) :
    Calls Tryz.prog 14 #[.string s] w fun x w' => x = .returned (.tuple #[.int .i64 (if 60 < z then 5 else 0), .int .i64 0]) ∧ Hid (Below w.heap.size w w') := by
  have hmf : ∀ (fn : Fn) (first cap : Array Value) (w : World), (Instr.makeFunc fn first cap).run Tryz.prog w = .ok (.func fn first cap) w := fun _ _ _ _ => rfl
  have hs' : (s.size : Int) ≤ 60 := by omega
  have HA := hide (attempt_ok hs (tabs_two (o := .cells #[.string s] 9) (o' := .cells #[.int .i64 0] 3) ht) (cell_first w s _) (cell_second w (.cells #[.string s] 9) (.int .i64 0) 3) (frozen_second _ _ _ _) hR)
  have HB0 : Hid (Below w.heap.size w ((w.alloc (.cells #[.string s] 9)).alloc (.cells #[.int .i64 0] 3))) := ((Below.refl _ _).alloc (Nat.le_refl _) _).alloc (by simp) _
  have HUp : Hid (∀ w2, Up (w.heap.size + 1) ((w.alloc (.cells #[.string s] 9)).alloc (.cells #[.int .i64 0] 3)) w2 → Below w.heap.size w w2) := by
    intro w2 hu
    have h := unhide HB0
    exact ⟨hu.os.trans h.os, hu.tape.trans h.tape, hu.output.trans h.output, Nat.le_trans h.size hu.size, fun i hi => (hu.block i (Nat.lt_of_lt_of_le hi h.size) (by omega)).trans (h.block i hi)⟩
  clear ht hR hs
  by_cases hz : 60 < z
  · rw [if_pos hz]
    go_enter Tryz.func14, Tryz.ntmps14
    go_wp2_with (go_at_call 30; refine (unhide HA).mono ?_; clear HA; rintro x w2 ⟨rfl, HU, HJ⟩; have qj := unhide HJ; have hlt2 := World.block_lt_of_cell? w2 _ qj)
    go_ret2
    exact ⟨rfl, below_comp (unhide HUp _ (unhide HU)) ((Below.refl _ _).alloc (Nat.le_refl _) _)⟩
  · rw [if_neg hz]
    go_enter Tryz.func14, Tryz.ntmps14
    go_wp2_with (go_at_call 30; refine (unhide HA).mono ?_; clear HA; rintro x w2 ⟨rfl, HU, HJ⟩; have qj := unhide HJ; have hlt2 := World.block_lt_of_cell? w2 _ qj)
    go_quiet (fail)
    go_wp2_with fail
    go_ret2
    exact ⟨rfl, below_comp (unhide HUp _ (unhide HU)) (below_drawn _ _ _)⟩

/-- the program's Check answers the plain function. -/
theorem check_any (w : World) (s : ByteArray) (ht : Hid (Lib.Utf8Tabs 0 1 w)) :
    Calls Tryz.prog 14 #[.string s] w fun x w' => x = .returned (.tuple #[.int .i64 (checkS s).1, .int .i64 (checkS s).2]) ∧ Hid (Below w.heap.size w w') := by
  by_cases hl : 60 < s.size
  · rw [checkS, if_pos hl]
    exact check_long (by omega)
  · have e := plainR_check s hl
    cases hR : plainR s with
    | error y =>
      rw [hR] at e
      rw [e]
      exact check_err (by omega) ht hR
    | ok z =>
      rw [hR] at e
      dsimp only at e
      have h := check_ok (w := w) (by omega) ht (hide hR)
      rw [e]
      by_cases hz : 60 < z
      · rw [if_pos hz] at h ⊢; exact h
      · rw [if_neg hz] at h ⊢; exact h
end Go.Proofs.YthopgbacdmgfgaaGreatDoor
