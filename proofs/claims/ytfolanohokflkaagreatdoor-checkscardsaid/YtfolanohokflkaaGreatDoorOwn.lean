import Derived.WalkKit
/-
  Small laws on slices of the call's own: no program.
-/
namespace Go.Proofs.YtfolanohokflkaaGreatDoor
open Go.RowKit

theorem own_view {w : World} {base e size : Nat} {v : Value} {n : Nat} {xs : List Value} (h : w.ownsRow base e size v n xs) :
    ∃ ao cap, v = .slice ao n cap ∧ (0 < n → ∃ g, ao = some ⟨g, 0, none⟩ ∧ base ≤ g ∧ g < w.heap.size ∧ (∀ j, j < n * size → w.cell? ⟨g, j, none⟩ = xs[j]?) ∧ ∀ j, w.frozen? ⟨g, j, none⟩ = false) := by
  obtain ⟨hl, ⟨rfl, rfl⟩ | ⟨g, cap, cur, rfl, hb, hg, hn, hm, hs, ht⟩⟩ := h
  · exact ⟨_, _, rfl, fun h => absurd h (Nat.lt_irrefl 0)⟩
  · refine ⟨_, _, rfl, fun _ => ⟨g, rfl, hb, ?_, fun j hj => ?_, fun j => ?_⟩⟩
    · exact (Array.getElem?_eq_some_iff.1 hg).1
    · rw [← ht, List.getElem?_take_of_lt hj]
      simp [World.cell?, hg]
    · simp [World.frozen?, hg]

theorem own_base {w : World} {base base' e size : Nat} {v : Value} {n : Nat} {xs : List Value} (h : w.ownsRow base e size v n xs) (hb : base' ≤ base) : w.ownsRow base' e size v n xs := by
  obtain ⟨hl, hx | ⟨g, cap, cur, hv, hb', rest⟩⟩ := h
  · exact ⟨hl, .inl hx⟩
  · exact ⟨hl, .inr ⟨g, cap, cur, hv, Nat.le_trans hb hb', rest⟩⟩

/-- what was owned below stays owned. -/
theorem own_below {w w' : World} {B base e size : Nat} {v : Value} {n : Nat} {xs : List Value} (h : w.ownsRow base e size v n xs) (hb : Below B w w') (hB : w.heap.size ≤ B) : w'.ownsRow base e size v n xs := by
  obtain ⟨hl, hx | ⟨g, cap, cur, hv, hb', hg, rest⟩⟩ := h
  · exact ⟨hl, .inl hx⟩
  · have hlt : g < w.heap.size := (Array.getElem?_eq_some_iff.1 hg).1
    exact ⟨hl, .inr ⟨g, cap, cur, hv, hb', by rw [hb.block g (by omega)]; exact hg, rest⟩⟩

/-- what is owned in a block other than the one that was turned. -/
theorem own_grown {w w' : World} {row : Option Nat} {base e size : Nat} {v : Value} {n : Nat} {xs : List Value} (h : w.ownsRow base e size v n xs) (hg : w.grownBy w' row) (hne : ∀ k, v.ownBlock = some k → row ≠ some k) : w'.ownsRow base e size v n xs := by
  obtain ⟨hl, hx | ⟨g, cap, cur, hv, hb', hgr, rest⟩⟩ := h
  · exact ⟨hl, .inl hx⟩
  · have hlt : g < w.heap.size := (Array.getElem?_eq_some_iff.1 hgr).1
    exact ⟨hl, .inr ⟨g, cap, cur, hv, hb', by rw [hg.block g hlt (fun e => hne g (by rw [hv]; rfl) e.symm)]; exact hgr, rest⟩⟩

theorem own_set {w : World} {base e size : Nat} {v : Value} {n : Nat} {xs : List Value} (h : w.ownsRow base e size v n xs) {g j : Nat} (hg : v.ownBlock = some g) (hj : j < n * size) (u : Value) :
    (w.setCell ⟨g, j, none⟩ u).ownsRow base e size v n (xs.set j u) := by
  obtain ⟨hl, ⟨rfl, rfl⟩ | ⟨g', cap, cur, rfl, hb, hgr, hn, hm, hs, ht⟩⟩ := h
  · cases hg
  · obtain rfl : g' = g := by simpa [Value.ownBlock] using hg
    refine ⟨by simpa using hl, .inr ⟨g', cap, cur.setIfInBounds j u, rfl, hb, ?_, hn, hm, by simpa using hs, ?_⟩⟩
    · obtain ⟨hlt, hge⟩ := Array.getElem?_eq_some_iff.1 hgr
      simp [World.setCell, hlt, Array.getElem_modify, hge]
    · rw [← ht]; simp [List.take_set]


def spanCells : List (Int × Int) → List Value
  | [] => []
  | x :: r => .int .i64 x.1 :: .int .i64 x.2 :: spanCells r
theorem spanCells_length (a : List (Int × Int)) : (spanCells a).length = a.length * 2 := by
  induction a with
  | nil => rfl
  | cons x a ih => simp [spanCells, ih]; omega
theorem spanCells_append (a b : List (Int × Int)) : spanCells (a ++ b) = spanCells a ++ spanCells b := by
  induction a with
  | nil => rfl
  | cons x a ih => simp [spanCells, ih]
theorem spanCells_lo : ∀ (l : List (Int × Int)) (i : Nat), i < l.length → (spanCells l)[i * 2]? = some (.int .i64 (l.getD i (0, 0)).1)
  | [], _, h => by simp at h
  | x :: l, 0, _ => rfl
  | x :: l, i + 1, h => by
    have := spanCells_lo l i (by simpa using h)
    rw [show (i + 1) * 2 = i * 2 + 1 + 1 from by omega]
    simpa [spanCells] using this
theorem spanCells_hi : ∀ (l : List (Int × Int)) (i : Nat), i < l.length → (spanCells l)[i * 2 + 1]? = some (.int .i64 (l.getD i (0, 0)).2)
  | [], _, h => by simp at h
  | x :: l, 0, _ => rfl
  | x :: l, i + 1, h => by
    have := spanCells_hi l i (by simpa using h)
    rw [show (i + 1) * 2 + 1 = i * 2 + 1 + 1 + 1 from by omega]
    simpa [spanCells] using this
end Go.Proofs.YtfolanohokflkaaGreatDoor
