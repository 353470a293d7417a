import Derived.Test.YtfolanohokflkaaGreatDoorRefI
import Derived.Test.YtfolanohokflkaaGreatDoorSpec
import Derived.WalkKit
import Derived.WalkSpells
import Derived.WalkLawsBesides
import Derived.Deep.QuietTactic
import Derived.BigQuiet
namespace Go.Proofs.YtfolanohokflkaaGreatDoor
open Go.RowKit

/-- the worlds differ in nothing but how often the tape was asked. -/
structure Same (w w' : World) : Prop where
  os : w'.os = w.os
  tape : w'.tape = w.tape
  output : w'.output = w.output
  heap : w'.heap = w.heap
theorem Same.refl (w : World) : Same w w := ⟨rfl, rfl, rfl, rfl⟩
theorem Same.drewN (w : World) (n : Nat) : Same w (w.drewN n) := ⟨rfl, rfl, rfl, rfl⟩
theorem Same.trans {a b c : World} (h : Same a b) (k : Same b c) : Same a c := ⟨k.os.trans h.os, k.tape.trans h.tape, k.output.trans h.output, k.heap.trans h.heap⟩

/-- the slice of parts: of each its size is known. -/
def NodesAt (w : World) (v : Value) (szs : List Int) : Prop := ∃ xs, w.ownsRow 0 212 6 v szs.length xs ∧ ∀ i, i < szs.length → xs[i * 6 + 5]? = some (.int .i64 (szs.getD i 0))

/-- the document's reader in memory. -/
structure RS (w : World) (b : Nat) (s : ByteArray) (L : List Sy) (vs vn : Value) (i : Nat) (d : Int) (szs : List Int) (e p : Int) : Prop where
  c0 : w.cell? ⟨b, 0, none⟩ = some (.string s)
  c1 : w.cell? ⟨b, 1, none⟩ = some vs
  c2 : w.cell? ⟨b, 2, none⟩ = some (.int .i64 i)
  c3 : w.cell? ⟨b, 3, none⟩ = some (.int .i64 d)
  c4 : w.cell? ⟨b, 4, none⟩ = some vn
  c5 : w.cell? ⟨b, 5, none⟩ = some (.int .i64 e)
  c6 : w.cell? ⟨b, 6, none⟩ = some (.int .i64 p)
  fz : ∀ k, w.frozen? ⟨b, k, none⟩ = false
  syms : w.ownsRow 0 253 3 vs L.length (symCells L)
  symsNe : vs.ownBlock ≠ some b
  nodes : NodesAt w vn szs
  nodesNe : vn.ownBlock ≠ some b
  apart : ∀ k, vn.ownBlock = some k → vs.ownBlock ≠ some k
  len : L.length ≤ 100
  small : s.size ≤ 1000

theorem cell_heap {w w' : World} (h : w'.heap = w.heap) (a : Addr) : w'.cell? a = w.cell? a := World.cell?_of_block (by rw [h])
theorem frozen_heap {w w' : World} (h : w'.heap = w.heap) (a : Addr) : w'.frozen? a = w.frozen? a := World.frozen?_of_block (by rw [h])
theorem own_heap {w w' : World} (hh : w'.heap = w.heap) {base e size n : Nat} {v : Value} {xs : List Value} (h : w.ownsRow base e size v n xs) : w'.ownsRow base e size v n xs := by
  unfold World.ownsRow at *; rw [hh]; exact h
theorem RS.same {w w' : World} {b : Nat} {s : ByteArray} {L : List Sy} {vs vn : Value} {i : Nat} {d : Int} {szs : List Int} {e p : Int} (h : RS w b s L vs vn i d szs e p) (k : Same w w') : RS w' b s L vs vn i d szs e p := by
  obtain ⟨xs, h1, h2⟩ := h.nodes
  exact ⟨by rw [cell_heap k.heap]; exact h.c0, by rw [cell_heap k.heap]; exact h.c1, by rw [cell_heap k.heap]; exact h.c2, by rw [cell_heap k.heap]; exact h.c3, by rw [cell_heap k.heap]; exact h.c4, by rw [cell_heap k.heap]; exact h.c5, by rw [cell_heap k.heap]; exact h.c6,
    fun j => by rw [frozen_heap k.heap]; exact h.fz j, own_heap k.heap h.syms, h.symsNe, ⟨xs, own_heap k.heap h1, h2⟩, h.nodesNe, h.apart, h.len, h.small⟩

theorem symCells_at : ∀ (L : List Sy) (i : Nat) (x : Sy) (r : List Sy), L.drop i = x :: r → (symCells L)[i * 3]? = some (.int .i64 x.c) ∧ (symCells L)[i * 3 + 1]? = some (.int .i64 x.fr)
  | [], i, x, r, h => by simp at h
  | y :: L, 0, x, r, h => by
    obtain ⟨rfl, rfl⟩ := List.cons.inj (show y :: L = x :: r from h)
    exact ⟨rfl, rfl⟩
  | y :: L, i + 1, x, r, h => by
    have := symCells_at L i x r h
    rw [show (i + 1) * 3 = i * 3 + 1 + 1 + 1 from by omega, show i * 3 + 1 + 1 + 1 + 1 = (i * 3 + 1) + 1 + 1 + 1 from by omega]
    simpa [symCells] using this

set_option maxRecDepth 100000 in
set_option maxHeartbeats 1000000 in
theorem refHere_any (w : World) (b : Nat) (s : ByteArray) (L : List Sy) (vs vn : Value) (i : Nat) (d : Int) (szs : List Int) (e p : Int) (hi : i ≤ L.length) (h : RS w b s L vs vn i d szs e p) :
    Calls Tryz.prog 210 #[.pointer (some ⟨b, 0, none⟩)] w fun e w' => e = .returned (.int .i64 (plc s.size (L.drop i))) ∧ Same w w' := by
  obtain ⟨av, cv, rfl, hv⟩ := own_view h.syms
  have q0 := h.c0
  have q1 := h.c1
  have q2 := h.c2
  have hs := h.small
  have hl := h.len
  cases hd : L.drop i with
  | nil =>
    have hi' : L.length ≤ i := by simpa using hd
    have ht : decide ((i : Int) < (L.length : Int)) = false := by simp; omega
    clear hv h hd
    go_enter Tryz.func210, Tryz.ntmps210
    go_wp2_with fail
    go_quiet (fail)
    go_wp2_with fail
    go_ret
    exact ⟨rfl, rfl, rfl, rfl, rfl⟩
  | cons x r =>
    have hi' : i < L.length := by
      rcases Nat.lt_or_ge i L.length with h | h
      · exact h
      · rw [List.drop_eq_nil_of_le h] at hd; cases hd
    obtain ⟨g, rfl, -, hg, hc, -⟩ := hv (by omega)
    obtain ⟨e1, e2⟩ := symCells_at L i x r hd
    have hc1 := hc (i * 3 + 1) (by omega)
    rw [e2] at hc1
    clear hv h hd hc e1 e2
    go_enter Tryz.func210, Tryz.ntmps210
    go_wp2_with fail
    go_quiet (fail)
    go_wp2_with fail
    go_quiet (fail)
    go_wp2_with fail
    go_ret
    exact ⟨rfl, rfl, rfl, rfl, rfl⟩

def lookV (e : Int) (l : List Sy) : Int := if e = 0 then hd l else -1

set_option maxRecDepth 100000 in
set_option maxHeartbeats 1000000 in
theorem refLook_any (w : World) (b : Nat) (s : ByteArray) (L : List Sy) (vs vn : Value) (i : Nat) (d : Int) (szs : List Int) (e p : Int) (_hi : i ≤ L.length) (h : RS w b s L vs vn i d szs e p) :
    Calls Tryz.prog 205 #[.pointer (some ⟨b, 0, none⟩)] w fun x w' => x = .returned (.int .i64 (lookV e (L.drop i))) ∧ Same w w' := by
  obtain ⟨av, cv, rfl, hv⟩ := own_view h.syms
  have q0 := h.c0
  have q1 := h.c1
  have q2 := h.c2
  have q5 := h.c5
  have hs := h.small
  have hl := h.len
  by_cases he : e = 0
  · subst he
    have hfin : lookV 0 (L.drop i) = hd (L.drop i) := rfl
    rw [hfin]
    clear hfin
    cases hd : L.drop i with
    | nil =>
      have hi' : L.length ≤ i := by simpa using hd
      have ht : decide ((L.length : Int) ≤ (i : Int)) = true := by simp; omega
      clear hv h hd
      go_enter Tryz.func205, Tryz.ntmps205
      go_wp2_with fail
      go_quiet (fail)
      go_wp2_with fail
      go_ret
      exact ⟨rfl, rfl, rfl, rfl, rfl⟩
    | cons x r =>
      have hi' : i < L.length := by
        rcases Nat.lt_or_ge i L.length with h | h
        · exact h
        · rw [List.drop_eq_nil_of_le h] at hd; cases hd
      obtain ⟨g, rfl, -, hg, hc, -⟩ := hv (by omega)
      obtain ⟨e1, e2⟩ := symCells_at L i x r hd
      have hc1 := hc (i * 3) (by omega)
      rw [e1] at hc1
      have ht : decide ((L.length : Int) ≤ (i : Int)) = false := by simp; omega
      clear hv h hd hc e1 e2
      go_enter Tryz.func205, Tryz.ntmps205
      go_wp2_with fail
      go_quiet (fail)
      go_wp2_with fail
      go_quiet (fail)
      go_wp2_with fail
      go_ret
      exact ⟨rfl, rfl, rfl, rfl, rfl⟩
  · have hfin : lookV e (L.drop i) = -1 := by rw [lookV, if_neg he]
    rw [hfin]
    have he' : (e != 0) = true := by simp [he]
    clear hfin he h hv
    go_enter Tryz.func205, Tryz.ntmps205
    go_wp2_with fail
    go_quiet (fail)
    go_wp2_with fail
    go_ret
    exact ⟨rfl, rfl, rfl, rfl, rfl⟩
end Go.Proofs.YtfolanohokflkaaGreatDoor

namespace Go.Proofs.YtfolanohokflkaaGreatDoor
open Go.RowKit

/-- what a method of the reader leaves alone: every block but the reader's own and the parts'. -/
structure Fr (b : Nat) (vn : Value) (w w' : World) (vn' : Value) : Prop where
  os : w'.os = w.os
  tape : w'.tape = w.tape
  output : w'.output = w.output
  size : w.heap.size ≤ w'.heap.size
  block : ∀ k, k < w.heap.size → k ≠ b → vn.ownBlock ≠ some k → w'.heap[k]? = w.heap[k]?
  nb : ∀ k, vn'.ownBlock = some k → vn.ownBlock = some k ∨ w.heap.size ≤ k

theorem Fr.refl (b : Nat) (vn : Value) (w : World) : Fr b vn w w vn := ⟨rfl, rfl, rfl, Nat.le_refl _, fun _ _ _ _ => rfl, fun _ h => .inl h⟩
theorem Fr.same {b : Nat} {vn : Value} {w w' : World} (h : Same w w') : Fr b vn w w' vn := ⟨h.os, h.tape, h.output, by rw [h.heap]; exact Nat.le_refl _, fun _ _ _ _ => by rw [h.heap], fun _ h => .inl h⟩
theorem Fr.trans {b : Nat} {v1 v2 v3 : Value} {w1 w2 w3 : World} (h : Fr b v1 w1 w2 v2) (k : Fr b v2 w2 w3 v3) : Fr b v1 w1 w3 v3 := by
  refine ⟨k.os.trans h.os, k.tape.trans h.tape, k.output.trans h.output, Nat.le_trans h.size k.size, fun j hj hb hv => ?_, fun j hj => ?_⟩
  · have hj2 := Nat.lt_of_lt_of_le hj h.size
    rw [k.block j hj2 hb ?_, h.block j hj hb hv]
    intro e
    rcases h.nb j e with h1 | h1
    · exact hv h1
    · omega
  · rcases k.nb j hj with h1 | h1
    · exact h.nb j h1
    · exact .inr (Nat.le_trans h.size h1)
theorem Fr.of_below {b : Nat} {vn : Value} {w w' : World} (h : Below w.heap.size w w') : Fr b vn w w' vn := ⟨h.os, h.tape, h.output, h.size, fun k hk _ _ => h.block k hk, fun _ h => .inl h⟩
/-- a slice that lies elsewhere stays, and stays elsewhere. -/
theorem Fr.own {b : Nat} {vn vn' : Value} {w w' : World} (h : Fr b vn w w' vn') {base e size n : Nat} {v : Value} {xs : List Value} (ho : w.ownsRow base e size v n xs) (hb : v.ownBlock ≠ some b) (hn : ∀ k, v.ownBlock = some k → vn.ownBlock ≠ some k) :
    w'.ownsRow base e size v n xs ∧ ∀ k, v.ownBlock = some k → vn'.ownBlock ≠ some k := by
  obtain ⟨hl, hx | ⟨g, cap, cur, rfl, hb', hg, rest⟩⟩ := ho
  · refine ⟨⟨hl, .inl hx⟩, fun k hk => ?_⟩
    rw [hx.1] at hk; cases hk
  · have hlt : g < w.heap.size := (Array.getElem?_eq_some_iff.1 hg).1
    have hgb : g ≠ b := fun e => hb (by rw [e]; rfl)
    have hgn : vn.ownBlock ≠ some g := hn g rfl
    refine ⟨⟨hl, .inr ⟨g, cap, cur, rfl, hb', by rw [h.block g hlt hgb hgn]; exact hg, rest⟩⟩, fun k hk e => ?_⟩
    have hkg : g = k := by simpa [Value.ownBlock] using hk
    subst hkg
    rcases h.nb g e with h1 | h1
    · exact hgn h1
    · omega

section
variable {w : World} {b : Nat} {s : ByteArray} {L : List Sy} {vs vn : Value} {i : Nat} {d : Int} {szs : List Int} {e p : Int}

theorem own_setb {w : World} {base e size n : Nat} {v : Value} {xs : List Value} (h : w.ownsRow base e size v n xs) {b k : Nat} (hb : v.ownBlock ≠ some b) (u : Value) : (w.setCell ⟨b, k, none⟩ u).ownsRow base e size v n xs :=
  ownsRow_setCell_other h (a := ⟨b, k, none⟩) hb u
theorem Fr.set (b k : Nat) (vn : Value) (w : World) (u : Value) : Fr b vn w (w.setCell ⟨b, k, none⟩ u) vn :=
  ⟨rfl, rfl, rfl, by simp [World.setCell], fun j _ hb _ => Below.heap_setCell w ⟨b, k, none⟩ u j hb, fun _ h => .inl h⟩
theorem RS.lt (h : RS w b s L vs vn i d szs e p) : b < w.heap.size := World.block_lt_of_cell? w _ h.c0

theorem cs_same {w : World} {b k : Nat} {u v : Value} (h : w.cell? ⟨b, k, none⟩ = some v) : (w.setCell ⟨b, k, none⟩ u).cell? ⟨b, k, none⟩ = some u :=
  by rw [World.cell?_setCell_same _ _ _ h]
theorem cs_other {w : World} {b k j : Nat} {u v : Value} (h : w.cell? ⟨b, j, none⟩ = some v) (hk : k ≠ j) : (w.setCell ⟨b, k, none⟩ u).cell? ⟨b, j, none⟩ = some v := by
  have e : (w.setCell ⟨b, k, none⟩ u).cell? ⟨b, j, none⟩ = w.cell? ⟨b, j, none⟩ := by
    apply World.cell?_setCell_other
    intro e; apply hk; simp at e
  rw [e]; exact h
theorem RS.setAt (h : RS w b s L vs vn i d szs e p) (i' : Nat) : RS (w.setCell ⟨b, 2, none⟩ (.int .i64 i')) b s L vs vn i' d szs e p :=
  ⟨cs_other h.c0 (by decide), cs_other h.c1 (by decide), cs_same h.c2, cs_other h.c3 (by decide), cs_other h.c4 (by decide), cs_other h.c5 (by decide), cs_other h.c6 (by decide), fun j => by rw [World.frozen?_setCell]; exact h.fz j, own_setb h.syms h.symsNe _, h.symsNe, by obtain ⟨xs, h1, h2⟩ := h.nodes; exact ⟨xs, own_setb h1 h.nodesNe _, h2⟩, h.nodesNe, h.apart, h.len, h.small⟩
theorem RS.setDepth (h : RS w b s L vs vn i d szs e p) (d' : Int) : RS (w.setCell ⟨b, 3, none⟩ (.int .i64 d')) b s L vs vn i d' szs e p :=
  ⟨cs_other h.c0 (by decide), cs_other h.c1 (by decide), cs_other h.c2 (by decide), cs_same h.c3, cs_other h.c4 (by decide), cs_other h.c5 (by decide), cs_other h.c6 (by decide), fun j => by rw [World.frozen?_setCell]; exact h.fz j, own_setb h.syms h.symsNe _, h.symsNe, by obtain ⟨xs, h1, h2⟩ := h.nodes; exact ⟨xs, own_setb h1 h.nodesNe _, h2⟩, h.nodesNe, h.apart, h.len, h.small⟩
theorem RS.setE (h : RS w b s L vs vn i d szs e p) (e' : Int) : RS (w.setCell ⟨b, 5, none⟩ (.int .i64 e')) b s L vs vn i d szs e' p :=
  ⟨cs_other h.c0 (by decide), cs_other h.c1 (by decide), cs_other h.c2 (by decide), cs_other h.c3 (by decide), cs_other h.c4 (by decide), cs_same h.c5, cs_other h.c6 (by decide), fun j => by rw [World.frozen?_setCell]; exact h.fz j, own_setb h.syms h.symsNe _, h.symsNe, by obtain ⟨xs, h1, h2⟩ := h.nodes; exact ⟨xs, own_setb h1 h.nodesNe _, h2⟩, h.nodesNe, h.apart, h.len, h.small⟩
theorem RS.setPlace (h : RS w b s L vs vn i d szs e p) (p' : Int) : RS (w.setCell ⟨b, 6, none⟩ (.int .i64 p')) b s L vs vn i d szs e p' :=
  ⟨cs_other h.c0 (by decide), cs_other h.c1 (by decide), cs_other h.c2 (by decide), cs_other h.c3 (by decide), cs_other h.c4 (by decide), cs_other h.c5 (by decide), cs_same h.c6, fun j => by rw [World.frozen?_setCell]; exact h.fz j, own_setb h.syms h.symsNe _, h.symsNe, by obtain ⟨xs, h1, h2⟩ := h.nodes; exact ⟨xs, own_setb h1 h.nodesNe _, h2⟩, h.nodesNe, h.apart, h.len, h.small⟩
end

theorem hd_lookV {e : Int} {l : List Sy} {c : Int} (h : lookV e l = c) (hc : 0 ≤ c) : e = 0 ∧ hd l = c ∧ l ≠ [] := by
  unfold lookV at h
  split at h
  · refine ⟨by assumption, h, ?_⟩
    rintro rfl; simp [hd] at h; omega
  · omega

set_option maxRecDepth 100000 in
set_option maxHeartbeats 1000000 in
theorem refIs_yes (w : World) (b : Nat) (s : ByteArray) (L : List Sy) (vs vn : Value) (i : Nat) (d : Int) (szs : List Int) (e p c : Int) (hi : i ≤ L.length) (h : RS w b s L vs vn i d szs e p) (hc : 0 ≤ c) (hc' : c < 256) (hl : lookV e (L.drop i) = c) :
    Calls Tryz.prog 209 #[.pointer (some ⟨b, 0, none⟩), .int .u8 c] w fun x w' => x = .returned (.bool true) ∧ RS w' b s L vs vn (i + 1) d szs e p ∧ Fr b vn w w' vn ∧ i + 1 ≤ L.length := by
  have HK := hide (refLook_any w b s L vs vn i d szs e p hi h)
  rw [hl] at HK
  have hne := (hd_lookV hl hc).2.2
  have hi' : i + 1 ≤ L.length := by
    rcases Nat.lt_or_ge i L.length with h | h
    · exact h
    · exact absurd (List.drop_eq_nil_of_le h) hne
  have hlen := h.len
  have H := hide h
  clear h hl hne
  go_enter Tryz.func209, Tryz.ntmps209
  go_wp2_with (go_at_call 205; refine (unhide HK).mono ?_; clear HK; rintro x w1 ⟨rfl, hs⟩; have q2 := ((unhide H).same hs).c2; have f2 := ((unhide H).same hs).fz 2; have HS := hide hs; clear hs)
  go_ret
  exact ⟨rfl, ((unhide H).same (unhide HS)).setAt (i + 1), (Fr.same (unhide HS)).trans (Fr.set _ _ _ _ _), hi'⟩

set_option maxRecDepth 100000 in
set_option maxHeartbeats 1000000 in
theorem refIs_no (w : World) (b : Nat) (s : ByteArray) (L : List Sy) (vs vn : Value) (i : Nat) (d : Int) (szs : List Int) (e p c : Int) (hi : i ≤ L.length) (h : RS w b s L vs vn i d szs e p) (hc : 0 ≤ c) (hc' : c < 256) (hl : ¬ lookV e (L.drop i) = c) :
    Calls Tryz.prog 209 #[.pointer (some ⟨b, 0, none⟩), .int .u8 c] w fun x w' => x = .returned (.bool false) ∧ Same w w' := by
  have HK := hide (refLook_any w b s L vs vn i d szs e p hi h)
  have hl' : (lookV e (L.drop i) != c) = true := by simpa using hl
  generalize lookV e (L.drop i) = z at HK hl'
  clear h hl
  go_enter Tryz.func209, Tryz.ntmps209
  go_wp2_with (go_at_call 205; refine (unhide HK).mono ?_; clear HK; rintro x w1 ⟨rfl, hs⟩; have HS := hide hs; clear hs)
  go_ret
  exact ⟨rfl, unhide HS⟩

set_option maxRecDepth 100000 in
set_option maxHeartbeats 1000000 in
theorem refWrong_new (w : World) (b : Nat) (s : ByteArray) (L : List Sy) (vs vn : Value) (i : Nat) (d : Int) (szs : List Int) (p err : Int) (hi : i ≤ L.length) (h : RS w b s L vs vn i d szs 0 p) :
    Calls Tryz.prog 140 #[.pointer (some ⟨b, 0, none⟩), .int .i64 err] w fun x w' => x = .returned (.tuple #[]) ∧ RS w' b s L vs vn i d szs err (plc s.size (L.drop i)) ∧ Fr b vn w w' vn := by
  have HK := hide (refHere_any (w.setCell ⟨b, 5, none⟩ (.int .i64 err)) b s L vs vn i d szs err p hi (h.setE err))
  have q5 := h.c5
  have f5 := h.fz 5
  have H := hide (h.setE err)
  clear h
  generalize plc s.size (L.drop i) = z at HK
  go_enter Tryz.func140, Tryz.ntmps140
  go_wp2_with (go_at_call 210; refine (unhide HK).mono ?_; clear HK; rintro x w1 ⟨rfl, hs⟩; have q6 := ((unhide H).same hs).c6; have f6 := ((unhide H).same hs).fz 6; have HS := hide hs; clear hs)
  go_end0
  exact ⟨rfl, ((unhide H).same (unhide HS)).setPlace z, ((Fr.set _ _ _ _ _).trans (Fr.same (unhide HS))).trans (Fr.set _ _ _ _ _)⟩

set_option maxRecDepth 100000 in
set_option maxHeartbeats 1000000 in
theorem refWrong_old (w : World) (b : Nat) (s : ByteArray) (L : List Sy) (vs vn : Value) (i : Nat) (d : Int) (szs : List Int) (e p err : Int) (he : ¬ e = 0) (h : RS w b s L vs vn i d szs e p) :
    Calls Tryz.prog 140 #[.pointer (some ⟨b, 0, none⟩), .int .i64 err] w fun x w' => x = .returned (.tuple #[]) ∧ w = w' := by
  have q5 := h.c5
  have he' : (e == 0) = false := by simpa using he
  clear h he
  go_enter Tryz.func140, Tryz.ntmps140
  go_wp2_with fail
  go_end0
  exact ⟨rfl, rfl⟩
end Go.Proofs.YtfolanohokflkaaGreatDoor
