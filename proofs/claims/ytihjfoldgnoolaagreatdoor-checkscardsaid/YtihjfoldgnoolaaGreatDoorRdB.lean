import Derived.Test.YtihjfoldgnoolaaGreatDoorRdA
import Derived.Test.YtihjfoldgnoolaaGreatDoorPSame
import Derived.WalkKit
import Derived.WalkSpells
import Derived.WalkLawsBesides
import Derived.WalkMore
import Derived.Deep.QuietTactic
import Derived.BigQuiet
namespace Go.Proofs.YtihjfoldgnoolaaGreatDoor
open Go.RowKit
theorem below_comp {w w1 w2 : World} (h : Hid (Below w.heap.size w w1)) (k : Hid (Below w1.heap.size w1 w2)) : Hid (Below w.heap.size w w2) :=
  ⟨(unhide k).os.trans (unhide h).os, (unhide k).tape.trans (unhide h).tape, (unhide k).output.trans (unhide h).output, Nat.le_trans (unhide h).size (unhide k).size, fun i hi => ((unhide k).block i (Nat.lt_of_lt_of_le hi (unhide h).size)).trans ((unhide h).block i hi)⟩
theorem below_drew {w w1 w2 : World} {o o' : Obj} {n : Nat} (h : Hid (Below w.heap.size w w1)) (e : w2 = ((w1.alloc o).alloc o').drewN n) : Hid (Below w.heap.size w w2) := by
  have h1 := unhide h
  have h2 : Below w.heap.size w ((w1.alloc o).alloc o') := (h1.alloc h1.size _).alloc (by have := h1.size; simp; omega) _
  subst e
  exact ⟨h2.os, h2.tape, h2.output, h2.size, h2.block⟩

set_option maxRecDepth 100000 in
set_option maxHeartbeats 4000000 in
theorem check_of {w : World} {s : ByteArray} {e p : Int} (HA : Hid (Calls Tryz.prog 59 #[.string s] w fun x w' => ∃ m, x = .returned (.tuple #[vNd m, .agg #[.int .i64 e, .int .i64 p]]) ∧ Hid (Below w.heap.size w w'))) :
    Calls Tryz.prog 33 #[.string s] w fun x w' => x = .returned (.tuple #[.int .i64 e, .int .i64 p]) ∧ Hid (Below w.heap.size w w') := by
  go_enter Tryz.func33, Tryz.ntmps33
  go_wp2_with (go_at_call 59; refine (unhide HA).mono ?_; clear HA; rintro x w2 ⟨m, hx, HB⟩; rw [vNd] at hx; subst hx)
  go_quiet (fail)
  go_wp2_with fail
  go_ret2
  exact ⟨rfl, below_drew HB rfl⟩

theorem tabs_rd4 {w : World} {s : ByteArray} (ht : Hid (Lib.Utf8Tabs 4 5 w)) : Hid (Lib.Utf8Tabs 4 5 (rd4 w s)) := by
  have hlt := tabs_lt (unhide ht)
  have hb := rd4_below w s
  exact tabs_of (unhide ht) (hb.block _ (by omega)) (hb.block _ (by omega))

/-- what read answers of a text that is no pattern. -/
theorem readAll_err {w : World} {s : ByteArray} (hs : s.size ≤ 60) (ht : Hid (Lib.Utf8Tabs 4 5 w)) {y : Int × Int} (hR : Hid (treeR s = .error y)) :
    Calls Tryz.prog 59 #[.string s] w fun x w' => ∃ m, x = .returned (.tuple #[vNd m, .agg #[.int .i64 y.1, .int .i64 y.2]]) ∧ Hid (Below w.heap.size w w') := by
  have hsz := rd4_size w s
  refine (read_go (K := fun _ m => m = nd0) hs (hide ((attempt_err (j := w.heap.size + 1 + 1 + 1) hs (tabs_rd4 ht) (rd4_str w s) hR).mono fun x w' h => ⟨h.1, nd0, hide ((rd4_ok w s).below (unhide h.2) hsz), hide ((rd4_below w s).trans ((unhide h.2).mono (rd4_below w s).size)), rd_size (unhide h.2) hsz, rfl⟩))).mono ?_
  rintro x w' ⟨m, w2, hx, hb, hk, -⟩
  have hm : m = nd0 := unhide hk
  subst hm
  have hn : ¬ (y.1 = 0 ∧ 60 < nd0.sz) := fun h => absurd h.2 (by decide)
  rw [if_neg hn, if_neg hn] at hx
  exact ⟨nd0, hx, hb⟩

/-- what read answers of a text that can be read: its node, and whether it is too big. -/
theorem readAll_ok {w : World} {s : ByteArray} (hs : s.size ≤ 60) (ht : Hid (Lib.Utf8Tabs 4 5 w)) {z : Pn} (hR : Hid (treeR s = .ok z)) :
    Calls Tryz.prog 59 #[.string s] w fun x w' => ∃ m, x = .returned (.tuple #[vNd m, .agg #[.int .i64 (if 60 < z.2 then 5 else 0), .int .i64 0]]) ∧ Hid (Below w.heap.size w w') ∧ Hid (NodeOK w' (fun k => w.heap.size ≤ k) m z) := by
  have hsz := rd4_size w s
  have h4 := rd4_ok w s
  have hb4 := rd4_below w s
  have hA := attempt_ok (j := w.heap.size + 1 + 1 + 1) hs (tabs_rd4 ht) (rd4_str w s) (hide h4.v) hR
  refine (read_go (e := 0) (p := 0) (K := fun w' m => NodeOK w' (fun k => w.heap.size + 4 < k) m z) hs (hide (hA.mono ?_))).mono ?_
  · rintro x w' ⟨hx, m, HU, HJ, HN⟩
    have hu := unhide HU
    refine ⟨hx, m, hide ⟨(hu.block _ (by omega) (by omega)).trans h4.r, (hu.block _ (by omega) (by omega)).trans h4.g, unhide HJ⟩, hide ⟨hu.os.trans hb4.os, hu.tape.trans hb4.tape, hu.output.trans hb4.output, Nat.le_trans hb4.size hu.size, fun k hk => (hu.block k (by omega) (by omega)).trans (hb4.block k hk)⟩, by have := hu.size; omega, NodeOK.move HN fun k hk _ => ⟨rfl, by omega⟩⟩
  · rintro x w' ⟨m, w2, hx, hb, hk, h4', hle, ho⟩
    have hm : m.sz = z.2 := (unhide hk).1
    have he : (0 : Int) = 0 ∧ 60 < m.sz ↔ 60 < z.2 := by rw [hm]; exact ⟨fun h => h.2, fun h => ⟨rfl, h⟩⟩
    refine ⟨m, ?_, hb, NodeOK.move hk fun k h1 h2 => ⟨ho k h2 (by omega) (by omega), by omega⟩⟩
    rw [hx]
    by_cases hz : 60 < z.2
    · rw [if_pos (he.2 hz), if_pos (he.2 hz), if_pos hz]
    · rw [if_neg (fun h => hz (he.1 h)), if_neg (fun h => hz (he.1 h)), if_neg hz]

/-- the program's Check answers the plain function. -/
theorem check_any (w : World) (s : ByteArray) (ht : Hid (Lib.Utf8Tabs 4 5 w)) :
    Calls Tryz.prog 33 #[.string s] w fun x w' => x = .returned (.tuple #[.int .i64 (checkS s).1, .int .i64 (checkS s).2]) ∧ Hid (Below w.heap.size w w') := by
  rw [check_same]
  by_cases hl : 60 < s.size
  · rw [parseS, if_pos hl]
    exact check_of (hide ((read_long (w := w) (by omega)).mono fun x w' h => ⟨nd0, h.1, h.2⟩))
  · rw [treeR_parse s hl]
    cases hR : treeR s with
    | error y => exact check_of (hide (readAll_err (by omega) ht (hide hR)))
    | ok z =>
      dsimp only
      have h := check_of (hide ((readAll_ok (w := w) (by omega) ht (hide hR)).mono fun x w' ⟨m, a, b, _⟩ => ⟨m, a, b⟩))
      by_cases hz : 60 < z.2
      · rw [if_pos hz] at h ⊢; exact h
      · rw [if_neg hz] at h ⊢; exact h
end Go.Proofs.YtihjfoldgnoolaaGreatDoor
