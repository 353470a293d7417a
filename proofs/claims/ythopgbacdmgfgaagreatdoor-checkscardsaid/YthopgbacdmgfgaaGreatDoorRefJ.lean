import Derived.Test.YthopgbacdmgfgaaGreatDoorRefI
import Derived.Test.YthopgbacdmgfgaaGreatDoorSpec
import Derived.WalkKit
import Derived.WalkSpells
import Derived.WalkLawsBesides
import Derived.Deep.QuietTactic
import Derived.BigQuiet
namespace Go.Proofs.YthopgbacdmgfgaaGreatDoor
open Go.RowKit

/-- the worlds differ in nothing but how often the tape was asked. -/
structure Same (w w' : World) : Prop where
  os : w'.os = w.os
  tape : w'.tape = w.tape
  output : w'.output = w.output
  heap : w'.heap = w.heap
theorem Same.refl (w : World) : Same w w := ⟨rfl, rfl, rfl, rfl⟩
theorem Same.drewN (w : World) (n : Nat) : Same w (w.drewN n) := ⟨rfl, rfl, rfl, rfl⟩
theorem Same.trans {a b c : World} (h : Same a b) (k : Same b c) : Same a c := ⟨k.os.trans h.os, k.tape.trans h.tape, k.output.trans h.output, k.heap.trans h.heap⟩

/-- the slice of parts: of each its size is known. -/
def NodesAt (w : World) (v : Value) (szs : List Int) : Prop := ∃ xs, w.ownsRow 0 97 6 v szs.length xs ∧ ∀ i, i < szs.length → xs[i * 6 + 5]? = some (.int .i64 (szs.getD i 0))

/-- the document's reader in memory. -/
structure RS (w : World) (b : Nat) (s : ByteArray) (L : List Sy) (vs vn : Value) (i : Nat) (d : Int) (szs : List Int) (e p : Int) : Prop where
  c0 : w.cell? ⟨b, 0, none⟩ = some (.string s)
  c1 : w.cell? ⟨b, 1, none⟩ = some vs
  c2 : w.cell? ⟨b, 2, none⟩ = some (.int .i64 i)
  c3 : w.cell? ⟨b, 3, none⟩ = some (.int .i64 d)
  c4 : w.cell? ⟨b, 4, none⟩ = some vn
  c5 : w.cell? ⟨b, 5, none⟩ = some (.int .i64 e)
  c6 : w.cell? ⟨b, 6, none⟩ = some (.int .i64 p)
  fz : ∀ k, w.frozen? ⟨b, k, none⟩ = false
  syms : w.ownsRow 0 113 3 vs L.length (symCells L)
  symsNe : vs.ownBlock ≠ some b
  nodes : NodesAt w vn szs
  nodesNe : vn.ownBlock ≠ some b
  apart : ∀ k, vn.ownBlock = some k → vs.ownBlock ≠ some k
  len : L.length ≤ 100
  small : s.size ≤ 1000

theorem cell_heap {w w' : World} (h : w'.heap = w.heap) (a : Addr) : w'.cell? a = w.cell? a := World.cell?_of_block (by rw [h])
theorem frozen_heap {w w' : World} (h : w'.heap = w.heap) (a : Addr) : w'.frozen? a = w.frozen? a := World.frozen?_of_block (by rw [h])
theorem own_heap {w w' : World} (hh : w'.heap = w.heap) {base e size n : Nat} {v : Value} {xs : List Value} (h : w.ownsRow base e size v n xs) : w'.ownsRow base e size v n xs := by
  unfold World.ownsRow at *; rw [hh]; exact h
theorem RS.same {w w' : World} {b : Nat} {s : ByteArray} {L : List Sy} {vs vn : Value} {i : Nat} {d : Int} {szs : List Int} {e p : Int} (h : RS w b s L vs vn i d szs e p) (k : Same w w') : RS w' b s L vs vn i d szs e p := by
  obtain ⟨xs, h1, h2⟩ := h.nodes
  exact ⟨by rw [cell_heap k.heap]; exact h.c0, by rw [cell_heap k.heap]; exact h.c1, by rw [cell_heap k.heap]; exact h.c2, by rw [cell_heap k.heap]; exact h.c3, by rw [cell_heap k.heap]; exact h.c4, by rw [cell_heap k.heap]; exact h.c5, by rw [cell_heap k.heap]; exact h.c6,
    fun j => by rw [frozen_heap k.heap]; exact h.fz j, own_heap k.heap h.syms, h.symsNe, ⟨xs, own_heap k.heap h1, h2⟩, h.nodesNe, h.apart, h.len, h.small⟩

theorem symCells_at : ∀ (L : List Sy) (i : Nat) (x : Sy) (r : List Sy), L.drop i = x :: r → (symCells L)[i * 3]? = some (.int .i64 x.c) ∧ (symCells L)[i * 3 + 1]? = some (.int .i64 x.fr)
  | [], i, x, r, h => by simp at h
  | y :: L, 0, x, r, h => by
    obtain ⟨rfl, rfl⟩ := List.cons.inj (show y :: L = x :: r from h)
    exact ⟨rfl, rfl⟩
  | y :: L, i + 1, x, r, h => by
    have := symCells_at L i x r h
    rw [show (i + 1) * 3 = i * 3 + 1 + 1 + 1 from by omega, show i * 3 + 1 + 1 + 1 + 1 = (i * 3 + 1) + 1 + 1 + 1 from by omega]
    simpa [symCells] using this

set_option maxRecDepth 100000 in
set_option maxHeartbeats 1000000 in
theorem refHere_any (w : World) (b : Nat) (s : ByteArray) (L : List Sy) (vs vn : Value) (i : Nat) (d : Int) (szs : List Int) (e p : Int) (hi : i ≤ L.length) (h : RS w b s L vs vn i d szs e p) :
    Calls Tryz.prog 75 #[.pointer (some ⟨b, 0, none⟩)] w fun e w' => e = .returned (.int .i64 (plc s.size (L.drop i))) ∧ Same w w' := by
  obtain ⟨av, cv, rfl, hv⟩ := own_view h.syms
  have q0 := h.c0
  have q1 := h.c1
  have q2 := h.c2
  have hs := h.small
  have hl := h.len
  cases hd : L.drop i with
  | nil =>
    have hi' : L.length ≤ i := by simpa using hd
    have ht : decide ((i : Int) < (L.length : Int)) = false := by simp; omega
    clear hv h hd
    go_enter Tryz.func75, Tryz.ntmps75
    go_wp2_with fail
    go_quiet (fail)
    go_wp2_with fail
    go_ret
    exact ⟨rfl, rfl, rfl, rfl, rfl⟩
  | cons x r =>
    have hi' : i < L.length := by
      rcases Nat.lt_or_ge i L.length with h | h
      · exact h
      · rw [List.drop_eq_nil_of_le h] at hd; cases hd
    obtain ⟨g, rfl, -, hg, hc, -⟩ := hv (by omega)
    obtain ⟨e1, e2⟩ := symCells_at L i x r hd
    have hc1 := hc (i * 3 + 1) (by omega)
    rw [e2] at hc1
    clear hv h hd hc e1 e2
    go_enter Tryz.func75, Tryz.ntmps75
    go_wp2_with fail
    go_quiet (fail)
    go_wp2_with fail
    go_quiet (fail)
    go_wp2_with fail
    go_ret
    exact ⟨rfl, rfl, rfl, rfl, rfl⟩

def lookV (e : Int) (l : List Sy) : Int := if e = 0 then hd l else -1

set_option maxRecDepth 100000 in
set_option maxHeartbeats 1000000 in
theorem refLook_any (w : World) (b : Nat) (s : ByteArray) (L : List Sy) (vs vn : Value) (i : Nat) (d : Int) (szs : List Int) (e p : Int) (_hi : i ≤ L.length) (h : RS w b s L vs vn i d szs e p) :
    Calls Tryz.prog 70 #[.pointer (some ⟨b, 0, none⟩)] w fun x w' => x = .returned (.int .i64 (lookV e (L.drop i))) ∧ Same w w' := by
  obtain ⟨av, cv, rfl, hv⟩ := own_view h.syms
  have q0 := h.c0
  have q1 := h.c1
  have q2 := h.c2
  have q5 := h.c5
  have hs := h.small
  have hl := h.len
  by_cases he : e = 0
  · subst he
    have hfin : lookV 0 (L.drop i) = hd (L.drop i) := rfl
    rw [hfin]
    clear hfin
    cases hd : L.drop i with
    | nil =>
      have hi' : L.length ≤ i := by simpa using hd
      have ht : decide ((L.length : Int) ≤ (i : Int)) = true := by simp; omega
      clear hv h hd
      go_enter Tryz.func70, Tryz.ntmps70
      go_wp2_with fail
      go_quiet (fail)
      go_wp2_with fail
      go_ret
      exact ⟨rfl, rfl, rfl, rfl, rfl⟩
    | cons x r =>
      have hi' : i < L.length := by
        rcases Nat.lt_or_ge i L.length with h | h
        · exact h
        · rw [List.drop_eq_nil_of_le h] at hd; cases hd
      obtain ⟨g, rfl, -, hg, hc, -⟩ := hv (by omega)
      obtain ⟨e1, e2⟩ := symCells_at L i x r hd
      have hc1 := hc (i * 3) (by omega)
      rw [e1] at hc1
      have ht : decide ((L.length : Int) ≤ (i : Int)) = false := by simp; omega
      clear hv h hd hc e1 e2
      go_enter Tryz.func70, Tryz.ntmps70
      go_wp2_with fail
      go_quiet (fail)
      go_wp2_with fail
      go_quiet (fail)
      go_wp2_with fail
      go_ret
      exact ⟨rfl, rfl, rfl, rfl, rfl⟩
  · have hfin : lookV e (L.drop i) = -1 := by rw [lookV, if_neg he]
    rw [hfin]
    have he' : (e != 0) = true := by simp [he]
    clear hfin he h hv
    go_enter Tryz.func70, Tryz.ntmps70
    go_wp2_with fail
    go_quiet (fail)
    go_wp2_with fail
    go_ret
    exact ⟨rfl, rfl, rfl, rfl, rfl⟩
end Go.Proofs.YthopgbacdmgfgaaGreatDoor
