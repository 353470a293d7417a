import Derived.Test.YtfolanohokflkabGreatDoorSrC
/-
  The symbols of a text, as newSearch takes them.
-/
namespace Go.Proofs.YtfolanohokflkabGreatDoor
open Go.RowKit
theorem runes_text {cs : List Int} (h : ∀ c ∈ cs, isSym c = true) : Conv.runesFrom (runesBytes cs) (runesBytes cs).size 0 #[] = (cs.map (Value.int .i32)).toArray := by
  have := runesFrom_bytes cs ByteArray.empty (runesBytes cs).size #[] h (Nat.le_refl _)
  simpa using this
theorem conv_text (w : World) (cs : List Int) (hl : cs.length ≤ 1000) (hg : ∀ c ∈ cs, isSym c = true) : ∃ cap w1, (convert 9 114 (.string (runesBytes cs))).run Tryz.prog w = .ok (.slice (some ⟨w.heap.size, 0, none⟩) cs.length cap) w1 ∧ Below w.heap.size w w1 ∧ w.heap.size < w1.heap.size ∧ ∀ j, j < cs.length → w1.cell? ⟨w.heap.size, j, none⟩ = some (.int .i32 (cs.getD j 0)) := by
  have hr := runes_text hg
  have hsz : (Conv.runesFrom (runesBytes cs) (runesBytes cs).size 0 #[]).size = cs.length := by rw [hr, List.size_toArray, List.length_map]
  have h := run_runes_of_string (P := Tryz.prog) w 9 114 21 (runesBytes cs) Tryz.underlying9 Tryz.underlying114 Tryz.underlying21 (by rw [hsz]; omega)
  rw [hsz, hr] at h
  refine ⟨_, _, h, ?_, by rw [World.size_alloc]; exact Nat.lt_succ_self _, fun j hj => ?_⟩
  · have hb := (Below.refl w.heap.size w).alloc (Nat.le_refl _) (.cells ((cs.map (Value.int .i32)).toArray ++ Array.replicate (grownCap w cs.length 0 21 - cs.length) (.int .i32 0)) 21)
    exact ⟨hb.os, hb.tape, hb.output, hb.size, hb.block⟩
  · have hn := heap_alloc_new w.drew (.cells ((cs.map (Value.int .i32)).toArray ++ Array.replicate (grownCap w cs.length 0 21 - cs.length) (.int .i32 0)) 21)
    have hn' : (w.drew.alloc (.cells ((cs.map (Value.int .i32)).toArray ++ Array.replicate (grownCap w cs.length 0 21 - cs.length) (.int .i32 0)) 21)).heap[w.heap.size]? = _ := hn
    simp only [World.cell?, hn']
    simp only [Option.isSome_none, Bool.false_eq_true, if_false]
    rw [Array.getElem?_append_left (by simpa using hj)]
    simp [List.getD, hj]
end Go.Proofs.YtfolanohokflkabGreatDoor
