import Derived.Test.YtfolanohokflkabGreatDoorTxtA
import Derived.Test.YtfolanohokflkabGreatDoorTabI
import Derived.Test.YtfolanohokflkabGreatDoorNdP
import Derived.Test.YtfolanohokflkabGreatDoorBgB
import Derived.Deep.RegionHeld3
/-
  newSearch, over what ofNode keeps.
-/
namespace Go.Proofs.YtfolanohokflkabGreatDoor
open Go.RowKit
/-- on the way to a search: the pattern in its block, the new table. -/
structure NS (w X : World) (pb : Nat) (m : Nd) (t1 : TB) : Prop where
  nd : NdAt X pb m
  bl : Below w.heap.size w X
  tb : Tab X t1 tab0 (numPairs tab0) [] []
theorem NS.under {w X Y : World} {pb : Nat} {m : Nd} {t1 : TB} (hb : Hid (Below X.heap.size X Y)) (h : Hid (NS w X pb m t1)) : Hid (NS w Y pb m t1) :=
  ⟨((unhide hb).block _ (Array.getElem?_eq_some_iff.1 (unhide h).nd).1).trans (unhide h).nd, (unhide h).bl.trans ((unhide hb).mono (unhide h).bl.size), unhide (Tab.below (hide (unhide h).tb) (unhide hb))⟩
theorem NS.cells {w X : World} {pb : Nat} {m : Nd} {t1 : TB} (h : Hid (NS w X pb m t1)) : X.cell? ⟨pb, 0, none⟩ = some (.int .i64 m.sh) ∧ X.cell? ⟨pb, 1, none⟩ = some (.slice m.pa m.pn m.pc) ∧ X.cell? ⟨pb, 2, none⟩ = some (.string m.ss) ∧ X.cell? ⟨pb, 3, none⟩ = some (.int .i64 m.le) ∧ X.cell? ⟨pb, 4, none⟩ = some (.int .i64 m.mo) ∧ X.cell? ⟨pb, 5, none⟩ = some (.int .i64 m.fa) ∧ X.cell? ⟨pb, 6, none⟩ = some (.int .i64 m.sz) := NdAt.cells (unhide h).nd
theorem NS.after {w X Y : World} {pb : Nat} {m : Nd} {t1 t' : TB} (h : Hid (NS w X pb m t1)) (hf : Hid (TFr t1 t' X Y)) (hp : ¬ TF t1 pb) : Hid (NdAt Y pb m) := ((unhide hf).block pb (Array.getElem?_eq_some_iff.1 (unhide h).nd).1 hp).trans (unhide h).nd
theorem NdAt.under {W W' : World} {pb : Nat} {m : Nd} (hb : Hid (Below W.heap.size W W')) (h : Hid (NdAt W pb m)) : Hid (NdAt W' pb m) :=
  ((unhide hb).block _ (Array.getElem?_eq_some_iff.1 (unhide h)).1).trans (unhide h)
/-- what newSearch leaves. -/
def NSOut (w : World) (B : Int) (cs : List Int) (R : Nat → List Te → Prop) (e : Ending) (w' : World) : Prop :=
  ∃ (sb mb cb cap n : Nat) (t : TB) (T : List Te), e = .returned (.pointer (some ⟨sb, 0, none⟩)) ∧ Hid (Sr w' w' w.heap.size mb t.tb t T [] [] [] (fun k => k = sb ∨ k = cb)) ∧ Hid (SrAt w' sb mb t.tb B n cs (some ⟨cb, 0, none⟩) cap (fun k => k = sb ∨ k = cb)) ∧ Hid (R n T) ∧ Hid (Below w.heap.size w w')
theorem ns_end {w W : World} {t : TB} {T : List Te} {tb mb cb cap n : Nat} {B : Int} {cs : List Int} {R : Nat → List Te → Prop} (htb : t.tb = tb) (hT : Hid (Tab W t T (numPairs T) [] [])) (hM : Hid (Met W mb [])) (hr : Hid (∀ j, j < cs.length → W.cell? ⟨cb, j, none⟩ = some (.int .i32 (cs.getD j 0)))) (hcb : cb < W.heap.size) (hcm : cb ≠ mb) (hct : ¬ TF t cb) (hmt : ¬ TF t mb) (hf : ∀ k, TF t k → w.heap.size ≤ k) (hm0 : w.heap.size ≤ mb) (hb : Hid (Below w.heap.size w W)) (hR : Hid (R n T)) :
    NSOut w B cs R (.returned (.pointer (some ⟨W.heap.size, 0, none⟩))) (W.alloc (.cells #[.pointer (some ⟨tb, 0, none⟩), .int .i64 B, .map (some mb), .int .i64 n, .slice (some ⟨cb, 0, none⟩) cs.length cap] 116)) := by
  subst htb
  have hmlt : mb < W.heap.size := (Array.getElem?_eq_some_iff.1 (unhide hM).at_).1
  have hsz : (W.alloc (.cells #[.pointer (some ⟨t.tb, 0, none⟩), .int .i64 B, .map (some mb), .int .i64 n, .slice (some ⟨cb, 0, none⟩) cs.length cap] 116)).heap.size = W.heap.size + 1 := by simp
  refine ⟨W.heap.size, mb, cb, cap, n, t, T, rfl, ?_, ?_, hR, (unhide hb).alloc (unhide hb).size _⟩
  · refine ⟨Tab.alloc hT _, ⟨List.nodup_nil, fun p hp => by cases hp⟩, ⟨List.nodup_nil, fun p hp => by cases hp⟩, (unhide hM).move (Below.heap_alloc _ _ _ hmlt), rfl, hmt, fun k hk => ?_, fun _ _ => rfl, hf, hm0, by rw [hsz]; have := (unhide hb).size; omega, Below.refl _ _⟩
    rcases hk with rfl | rfl
    · exact ⟨by rw [hsz]; omega, fun h => by have := (unhide hT).foot h; omega, by omega⟩
    · exact ⟨by rw [hsz]; omega, hct, hcm⟩
  · refine ⟨cells_at rfl 0 rfl, cells_at rfl 1 rfl, cells_at rfl 2 rfl, cells_at rfl 3 rfl, cells_at rfl 4 rfl, .inl rfl, fun k hk => ⟨cb, rfl, .inr rfl, ?_⟩⟩
    rw [World.cell?_of_block (a := ⟨cb, k, none⟩) (Below.heap_alloc _ _ cb hcb)]
    exact unhide hr k hk
end Go.Proofs.YtfolanohokflkabGreatDoor
