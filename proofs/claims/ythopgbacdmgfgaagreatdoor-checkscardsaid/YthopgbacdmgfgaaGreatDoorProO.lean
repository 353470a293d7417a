import Derived.Test.YthopgbacdmgfgaaGreatDoorProN
import Derived.WalkKit
import Derived.WalkSpells
import Derived.WalkLawsBesides
import Derived.WalkMore
import Derived.Defers
import Derived.Recover
namespace Go.Proofs.YthopgbacdmgfgaaGreatDoor
open Go.RowKit

set_option maxRecDepth 100000 in
set_option maxHeartbeats 4000000 in
theorem attempt_err {w : World} {s : ByteArray} {k j : Nat} (hs : s.size ≤ 60) (ht : Hid (Lib.Utf8Tabs 0 1 w)) (hk : w.cell? ⟨k, 0, none⟩ = some (.string s)) {y : Int × Int} (hR : Hid (plainR s = .error y)) :
    Calls Tryz.prog 30 #[.func (.func 31) #[] #[.pointer (some ⟨k, 0, none⟩), .pointer (some ⟨j, 0, none⟩)]] w fun x w' => x = .returned (.agg #[.int .i64 y.1, .int .i64 y.2]) ∧ Hid (Below w.heap.size w w') := by
  have hmf : ∀ (fn : Fn) (first cap : Array Value) (w : World), (Instr.makeFunc fn first cap).run Tryz.prog w = .ok (.func fn first cap) w := fun _ _ _ _ => rfl
  have hkl := World.block_lt_of_cell? w _ hk
  have hk1 : (w.alloc (.cells #[.int .i64 0, .int .i64 0] 64)).cell? ⟨k, 0, none⟩ = some (.string s) := by rw [World.cell?_alloc_past _ _ _ hkl]; exact hk
  have hlt := tabs_lt (unhide ht)
  have ht1 : Hid (Lib.Utf8Tabs 0 1 (w.alloc (.cells #[.int .i64 0, .int .i64 0] 64))) := tabs_of (unhide ht) (Below.heap_alloc w _ 0 (by omega)) (Below.heap_alloc w _ 1 (by omega))
  have HW := hide (work_err (j := j) hs ht1 hk1 hR)
  clear hk hkl hR ht hk1 ht1
  go_enter_defers Tryz.func30, Tryz.ntmps30
  go_wp2_with (go_at_call 31; refine (unhide HW).mono ?_; clear HW; rintro x w1 ⟨rfl, HB⟩)
  have hn : w.heap.size < (w.alloc (.cells #[.int .i64 0, .int .i64 0] 64)).heap.size := by simp
  have q0 : w1.cell? ⟨w.heap.size, 0, none⟩ = some (.int .i64 0) := by rw [(unhide HB).cell (p := ⟨w.heap.size, 0, none⟩) hn]; exact cells_new w [.int .i64 0, .int .i64 0] _ 0 _ rfl
  have q1 : w1.cell? ⟨w.heap.size, 1, none⟩ = some (.int .i64 0) := by rw [(unhide HB).cell (p := ⟨w.heap.size, 1, none⟩) hn]; exact cells_new w [.int .i64 0, .int .i64 0] _ 1 _ rfl
  have fz : ∀ k, w1.frozen? ⟨w.heap.size, k, none⟩ = false := fun k => by rw [(unhide HB).frozen (p := ⟨w.heap.size, k, none⟩) hn]; exact World.frozen?_alloc_at _ _ _ _ rfl
  have hl1 := World.block_lt_of_cell? w1 _ q0
  refine leaves_cons (f := 53) (args := #[.pointer (some ⟨w.heap.size, 0, none⟩)]) (by simp) (by simp [go_sem]) ?_
  refine (catch_own w.heap.size y.1 y.2 (.int .i64 0) (.int .i64 0) [] w1 q0 q1 fz).mono ?_
  rintro x u' w'' ⟨rfl, rfl, rfl⟩
  show Leaves _ _ _ _ [] .returning _
  refine ⟨.agg #[.int .i64 y.1, .int .i64 y.2], ?_, rfl, ?_⟩
  · simp [results, Tryz.results30, go_sem, q0, q1, hl1]
  · exact below_up (((((Up.below ((Below.refl _ _).alloc (Nat.le_refl _) _)).trans (Up.below (unhide HB))).trans (Up.set _ _ _ _)).trans (Up.set _ _ _ _)).trans (Up.below ((Below.refl _ _).alloc (Nat.le_refl _) _)))

theorem Up.setNew {j : Nat} {w w1 : World} (h : Up j w w1) (n k : Nat) (u : Value) (hn : w.heap.size ≤ n) : Up j w (w1.setCell ⟨n, k, none⟩ u) :=
  ⟨h.os, h.tape, h.output, by have := h.size; simpa [World.setCell] using this, fun i hi hij => (Below.heap_setCell w1 ⟨n, k, none⟩ u i (by show i ≠ n; omega)).trans (h.block i hi hij)⟩
set_option maxRecDepth 100000 in
set_option maxHeartbeats 4000000 in
theorem attempt_ok {w : World} {s : ByteArray} {k j : Nat} (hs : s.size ≤ 60) (ht : Hid (Lib.Utf8Tabs 0 1 w)) (hk : w.cell? ⟨k, 0, none⟩ = some (.string s)) {u : Value} (hj : w.cell? ⟨j, 0, none⟩ = some u) (hf : w.frozen? ⟨j, 0, none⟩ = false) {z : Int} (hR : Hid (plainR s = .ok z)) :
    Calls Tryz.prog 30 #[.func (.func 31) #[] #[.pointer (some ⟨k, 0, none⟩), .pointer (some ⟨j, 0, none⟩)]] w fun x w' => x = .returned (.agg #[.int .i64 0, .int .i64 0]) ∧ Hid (Up j w w') ∧ Hid (w'.cell? ⟨j, 0, none⟩ = some (.int .i64 z)) := by
  have hmf : ∀ (fn : Fn) (first cap : Array Value) (w : World), (Instr.makeFunc fn first cap).run Tryz.prog w = .ok (.func fn first cap) w := fun _ _ _ _ => rfl
  have hkl := World.block_lt_of_cell? w _ hk
  have hjl : j < w.heap.size := World.block_lt_of_cell? w _ hj
  have hk1 : (w.alloc (.cells #[.int .i64 0, .int .i64 0] 64)).cell? ⟨k, 0, none⟩ = some (.string s) := by rw [World.cell?_alloc_past _ _ _ hkl]; exact hk
  have hj1 : (w.alloc (.cells #[.int .i64 0, .int .i64 0] 64)).cell? ⟨j, 0, none⟩ = some u := by rw [World.cell?_alloc_past _ _ _ hjl]; exact hj
  have hf1 : (w.alloc (.cells #[.int .i64 0, .int .i64 0] 64)).frozen? ⟨j, 0, none⟩ = false := by rw [World.frozen?_alloc_past _ _ _ hjl]; exact hf
  have hlt := tabs_lt (unhide ht)
  have ht1 : Hid (Lib.Utf8Tabs 0 1 (w.alloc (.cells #[.int .i64 0, .int .i64 0] 64))) := tabs_of (unhide ht) (Below.heap_alloc w _ 0 (by omega)) (Below.heap_alloc w _ 1 (by omega))
  have HW := hide (work_ok hs ht1 hk1 hj1 hf1 hR)
  have hnew : w.heap.size < (w.alloc (.cells #[.int .i64 0, .int .i64 0] 64)).heap.size := by simp
  have c0 := cells_new w [.int .i64 0, .int .i64 0] 64 0 _ rfl
  have c1 := cells_new w [.int .i64 0, .int .i64 0] 64 1 _ rfl
  have hne : w.heap.size ≠ j := by omega
  have HN := hide hnew
  have C0 := hide c0
  have C1 := hide c1
  clear hk hkl hR ht hk1 ht1 hj1 hf1 hj hf hnew c0 c1
  go_enter_defers Tryz.func30, Tryz.ntmps30
  go_wp2_with (go_at_call 31; refine (unhide HW).mono ?_; clear HW; rintro x w1 ⟨rfl, HU, HJ⟩; have q0 : w1.cell? ⟨w.heap.size, 0, none⟩ = some (.int .i64 0) := (by rw [World.cell?_of_block (a := ⟨w.heap.size, 0, none⟩) ((unhide HU).block _ (unhide HN) hne)]; exact unhide C0); have q1 : w1.cell? ⟨w.heap.size, 1, none⟩ = some (.int .i64 0) := (by rw [World.cell?_of_block (a := ⟨w.heap.size, 1, none⟩) ((unhide HU).block _ (unhide HN) hne)]; exact unhide C1); have z0 : w1.frozen? ⟨w.heap.size, 0, none⟩ = false := (by rw [World.frozen?_of_block (a := ⟨w.heap.size, 0, none⟩) ((unhide HU).block _ (unhide HN) hne)]; exact World.frozen?_alloc_at _ _ _ _ rfl); have z1 : w1.frozen? ⟨w.heap.size, 1, none⟩ = false := (by rw [World.frozen?_of_block (a := ⟨w.heap.size, 1, none⟩) ((unhide HU).block _ (unhide HN) hne)]; exact World.frozen?_alloc_at _ _ _ _ rfl))
  have hl1 := World.block_lt_of_cell? w1 _ q0
  refine leaves_cons (f := 53) (args := #[.pointer (some ⟨w.heap.size, 0, none⟩)]) (by simp) (by simp [go_sem]) ?_
  refine (catch_idle ⟨w.heap.size, 0, none⟩ _).mono ?_
  rintro x u' w'' ⟨rfl, rfl, rfl⟩
  show Leaves _ _ _ _ [] .returning _
  refine ⟨.agg #[.int .i64 0, .int .i64 0], ?_, rfl, ?_, ?_⟩
  · simp [results, Tryz.results30, go_sem, q0, q1]
  · exact Up.setNew (Up.setNew ((Up.below ((Below.refl _ _).alloc (Nat.le_refl _) _)).trans (unhide HU)) _ _ _ (Nat.le_refl _)) _ _ _ (Nat.le_refl _)
  · show _ = _
    rw [World.cell?_of_block (a := ⟨j, 0, none⟩) (Below.heap_setCell _ ⟨w.heap.size, 1, none⟩ _ j (Ne.symm hne)), World.cell?_of_block (a := ⟨j, 0, none⟩) (Below.heap_setCell _ ⟨w.heap.size, 0, none⟩ _ j (Ne.symm hne))]
    exact unhide HJ

set_option maxRecDepth 100000 in
set_option maxHeartbeats 4000000 in
theorem check_long {w : World} {s : ByteArray} (hs : (60 : Int) < (s.size : Int)) :
    Calls Tryz.prog 14 #[.string s] w fun x w' => x = .returned (.tuple #[.int .i64 1, .int .i64 0]) ∧ Hid (Below w.heap.size w w') := by
  go_enter Tryz.func14, Tryz.ntmps14
  go_wp2_with fail
  go_ret2
  exact ⟨rfl, (Below.refl _ _).alloc (Nat.le_refl _) _⟩
end Go.Proofs.YthopgbacdmgfgaaGreatDoor
