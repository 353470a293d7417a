import Derived.Test.YtihjfoldgnoolaaGreatDoorRefK
import Derived.WalkKit
import Derived.WalkSpells
import Derived.WalkLawsBesides
import Derived.Deep.RegionLaw
import Derived.Deep.AppendLies
namespace Go.Proofs.YtihjfoldgnoolaaGreatDoor
open Go.RowKit

theorem infoNode : (Tryz.prog.info? 204).map (fun i => (i.zero, i.size, i.bytes)) = some (some (.agg #[.int .i64 0, .slice none 0 0, .slice none 0 0, .int .i64 0, .int .i64 0, .int .i64 0]), 6, 80) := by kernel_rfl

theorem szs_snoc {szs : List Int} {xs : List Value} {z : Int} {a0 a1 a2 a3 a4 : Value} (hl : xs.length = szs.length * 6) (h : ∀ i, i < szs.length → xs[i * 6 + 5]? = some (.int .i64 (szs.getD i 0))) :
    ∀ i, i < (szs ++ [z]).length → (xs ++ [a0, a1, a2, a3, a4, .int .i64 z])[i * 6 + 5]? = some (.int .i64 ((szs ++ [z]).getD i 0)) := by
  intro i hi
  simp only [List.length_append, List.length_cons, List.length_nil] at hi
  by_cases hlt : i < szs.length
  · rw [List.getElem?_append_left (by omega), h i hlt]; simp [List.getElem?_append_left hlt]
  · obtain rfl : i = szs.length := by omega
    rw [List.getElem?_append_right (by omega), show szs.length * 6 + 5 - xs.length = 5 from by omega]
    simp

theorem heap_two (w : World) (o o' : Obj) : ((w.alloc o).alloc o').drew.heap[w.heap.size + 1]? = some o' := by
  have h := heap_alloc_new (w.alloc o) o'
  rw [show (w.alloc o).heap.size = w.heap.size + 1 from by simp] at h
  exact h
theorem size_two (w : World) (o o' : Obj) : ((w.alloc o).alloc o').drew.heap.size = w.heap.size + 2 := by
  show ((w.alloc o).alloc o').heap.size = _
  simp
theorem grown_two {w w1 : World} {o o' : Obj} {row : Option Nat} (hg : ((w.alloc o).alloc o').drew.grownBy w1 row) (k : Nat) (hk : k < w.heap.size) (hne : some k ≠ row) : w1.heap[k]? = w.heap[k]? := by
  have h1 := hg.block k (by rw [size_two]; omega) hne
  rw [h1]
  show ((w.alloc o).alloc o').heap[k]? = _
  rw [Below.heap_alloc _ _ _ (by simp; omega), Below.heap_alloc _ _ _ hk]
theorem node_one {v1 v2 : Value} {kd ls ms z : Int} (o1 : v1.oneCell' = true) (o2 : v2.oneCell' = true) : ∀ u ∈ [.int .i64 kd, v1, v2, .int .i64 ls, .int .i64 ms, .int .i64 z], u.oneCell' = true := by
  intro u hu
  simp only [List.mem_cons, List.not_mem_nil, or_false] at hu
  rcases hu with rfl | rfl | rfl | rfl | rfl | rfl
  · rfl
  · exact o1
  · exact o2
  · rfl
  · rfl
  · rfl

theorem own_block {w w' : World} {base e size n : Nat} {v : Value} {xs : List Value} (h : w.ownsRow base e size v n xs) (hb : ∀ k, k < w.heap.size → v.ownBlock = some k → w'.heap[k]? = w.heap[k]?) : w'.ownsRow base e size v n xs := by
  obtain ⟨hl, hx | ⟨g, cap, cur, rfl, hb', hg, rest⟩⟩ := h
  · exact ⟨hl, .inl hx⟩
  · have hlt : g < w.heap.size := (Array.getElem?_eq_some_iff.1 hg).1
    exact ⟨hl, .inr ⟨g, cap, cur, rfl, hb', by rw [hb g hlt rfl]; exact hg, rest⟩⟩

theorem add_done {w w1 : World} {b : Nat} {s : ByteArray} {L : List Sy} {vs vn : Value} {i : Nat} {d : Int} {szs : List Int} {e p : Int} {o o' : Obj} {gg cap : Nat} {xs : List Value} {z : Int} {a0 a1 a2 a3 a4 : Value}
    (h : RS w b s L vs vn i d szs e p) (hg : ((w.alloc o).alloc o').drew.grownBy w1 vn.ownBlock) (ho : w1.ownsRow 0 204 6 (.slice (some ⟨gg, 0, none⟩) (szs.length + 1) cap) (szs.length + 1) (xs ++ [a0, a1, a2, a3, a4, .int .i64 z]))
    (hat : vn.ownBlock = some gg ∨ gg = w.heap.size + 2) (hx : ∀ i, i < szs.length → xs[i * 6 + 5]? = some (.int .i64 (szs.getD i 0))) :
    RS (w1.setCell ⟨b, 4, none⟩ (.slice (some ⟨gg, 0, none⟩) (szs.length + 1) cap)) b s L vs (.slice (some ⟨gg, 0, none⟩) (szs.length + 1) cap) i d (szs ++ [z]) e p ∧ Fr b vn w (w1.setCell ⟨b, 4, none⟩ (.slice (some ⟨gg, 0, none⟩) (szs.length + 1) cap)) (.slice (some ⟨gg, 0, none⟩) (szs.length + 1) cap) := by
  have hb := h.lt
  have hbb := grown_two hg b hb (Ne.symm h.nodesNe)
  have hc : ∀ k v, w.cell? ⟨b, k, none⟩ = some v → w1.cell? ⟨b, k, none⟩ = some v := fun k v q => (World.cell?_of_block hbb).trans q
  have hgb : gg ≠ b := by
    rintro rfl
    rcases hat with h1 | h1
    · exact h.nodesNe h1
    · omega
  have hvs : ∀ k, k < w.heap.size → vs.ownBlock = some k → w1.heap[k]? = w.heap[k]? := fun k hk hv => grown_two hg k hk (fun e => h.apart k e.symm hv)
  have hsz := hg.size
  rw [size_two] at hsz
  constructor
  · refine ⟨cs_other (hc _ _ h.c0) (by decide), cs_other (hc _ _ h.c1) (by decide), cs_other (hc _ _ h.c2) (by decide), cs_other (hc _ _ h.c3) (by decide), cs_same (hc _ _ h.c4), cs_other (hc _ _ h.c5) (by decide), cs_other (hc _ _ h.c6) (by decide),
      fun j => ?_, own_setb (own_block h.syms hvs) h.symsNe _, h.symsNe, ⟨xs ++ [a0, a1, a2, a3, a4, .int .i64 z], ?_, szs_snoc ?_ hx⟩, ?_, ?_, h.len, h.small⟩
    · rw [World.frozen?_setCell, World.frozen?_of_block hbb]; exact h.fz j
    · rw [List.length_append]
      exact own_setb ho (by simpa [Value.ownBlock] using hgb) _
    · have := ho.1
      simp only [List.length_append, List.length_cons, List.length_nil] at this
      omega
    · simpa [Value.ownBlock] using hgb
    · intro k hk
      have hkg : gg = k := by simpa [Value.ownBlock] using hk
      subst hkg
      rcases hat with h1 | h1
      · exact h.apart gg h1
      · intro e
        have := (h.syms.lt gg e).2
        omega
  · refine ⟨hg.os, hg.tape, hg.output, by simp [World.setCell]; omega, fun k hk hkb hkv => ?_, fun k hk => ?_⟩
    · rw [Below.heap_setCell _ _ _ _ hkb]; exact grown_two hg k hk (Ne.symm hkv)
    · have hkg : gg = k := by simpa [Value.ownBlock] using hk
      subst hkg
      rcases hat with h1 | h1
      · exact .inl h1
      · exact .inr (by omega)

set_option maxRecDepth 100000 in
set_option maxHeartbeats 3200000 in
theorem refAdd_any (w : World) (b : Nat) (s : ByteArray) (L : List Sy) (vs vn : Value) (i : Nat) (d : Int) (szs : List Int) (e p : Int) (h : RS w b s L vs vn i d szs e p) (hsz : szs.length ≤ 10000)
    (kd ls ms z : Int) (v1 v2 : Value) (o1 : v1.oneCell' = true) (o2 : v2.oneCell' = true) :
    Calls Tryz.prog 233 #[.pointer (some ⟨b, 0, none⟩), .agg #[.int .i64 kd, v1, v2, .int .i64 ls, .int .i64 ms, .int .i64 z]] w fun x w' =>
      x = .returned (.int .i64 szs.length) ∧ ∃ vn', RS w' b s L vs vn' i d (szs ++ [z]) e p ∧ Fr b vn w w' vn' := by
  obtain ⟨i0, hi0, hz0, hz1, hz2⟩ := info_parts infoNode
  obtain ⟨xs, hown, hsx⟩ := h.nodes
  have hlt := h.lt
  have q4 := h.c4
  have f4 := h.fz 4
  have ag := h.nodesNe
  have f4a : ∀ o, (w.alloc o).frozen? ⟨b, 4, none⟩ = false := fun o => by rw [World.frozen?_of_block (w := w) (Below.heap_alloc w o b hlt)]; exact f4
  have f4b : ∀ o o', ((w.alloc o).alloc o').frozen? ⟨b, 4, none⟩ = false := fun o o' => by rw [World.frozen?_of_block (w := w.alloc o) (Below.heap_alloc (w.alloc o) o' b (by simp; omega))]; exact f4a o
  have an : vn.ownBlock ≠ some w.heap.size := fun hx => by have := (hown.lt _ hx).2; omega
  have H := hide h
  have HX := hide hsx
  clear h hsx
  go_enter Tryz.func233, Tryz.ntmps233
  go_wp2_with fail
  go_region_law
    ((refine step_append_lies _ (by rfl) _ _ _ (by rfl) 0 204 i0 _ 6 80 Tryz.underlying128 hi0 hz0 hz1 hz2 rfl (by omega) vn szs.length xs (by rfl) (((hown.alloc _).alloc _).drew)
        ⟨w.heap.size + 1, 0, none⟩ 1 1 [.int .i64 kd, v1, v2, .int .i64 ls, .int .i64 ms, .int .i64 z] (by rfl) (by rfl) (World.news_of_block (cs := #[.int .i64 kd, v1, v2, .int .i64 ls, .int .i64 ms, .int .i64 z]) (t := 204) (fr := (0, 0)) (heap_two _ _ _)) (node_one o1 o2)
        (by omega) (by unfold maxLen; omega) (by omega) (Nat.zero_le _) (w.heap.size + 2) (size_two _ _ _) ?_; intro gg cap w1 hown1 hgrow hat hlt1; have c4' : w1.cell? ⟨b, 4, none⟩ = some vn := (World.cell?_of_block (grown_two hgrow b hlt (Ne.symm ag))).trans q4; have f4' : w1.frozen? ⟨b, 4, none⟩ = false := (World.frozen?_of_block (grown_two hgrow b hlt (Ne.symm ag))).trans f4))
  all_goals have HG := hide hgrow
  all_goals have HO1 := hide hown1
  all_goals clear hgrow hown1 f4a f4b hown
  all_goals go_wp2_with fail
  all_goals go_ret
  all_goals exact ⟨ret_int (by omega), _, add_done (unhide H) (unhide HG) (unhide HO1) hat (unhide HX)⟩
end Go.Proofs.YtihjfoldgnoolaaGreatDoor
