import Derived.Test.YtfolanohokflkaaGreatDoorLawC
import Derived.Lay
/-
  The closed facts of the card of Checks.
-/
namespace Go.Proofs.YtfolanohokflkaaGreatDoor
open Go.ChangeShapes Go.WideShapes Go.ChangeAt Go.RowKit

theorem face_inPlace : (Rows.checksRow.inPlace == Tryz.prog.inPlace 3) = true := by kernel_rfl
theorem face_unfollowed : (Rows.checksRow.unfollowed == Tryz.prog.unfollowed 3) = true := by kernel_rfl
theorem face_recurses : (Rows.checksRow.recurses == Tryz.prog.recurses 3) = true := by kernel_rfl
theorem face_named : (Rows.checksRow.named == Tryz.prog.varsNamed 3) = true := by kernel_rfl
theorem face_laid : laidOutB Tryz.prog = true := laidOut
theorem face_maps : mapsRowed Tryz.prog = true := by kernel_rfl
theorem face : joinedFacts Tryz.prog 3 Tryz.f3 Rows.checksSpec Rows.checksRow = true := by
  unfold joinedFacts
  simp only [Bool.and_eq_true]
  refine ⟨⟨⟨⟨⟨⟨⟨⟨⟨⟨⟨⟨⟨⟨⟨⟨⟨⟨⟨⟨⟨⟨⟨⟨⟨⟨⟨⟨⟨⟨⟨?_, ?_⟩, ?_⟩, ?_⟩, ?_⟩, ?_⟩, ?_⟩, ?_⟩, ?_⟩, ?_⟩, ?_⟩, ?_⟩, ?_⟩, ?_⟩, ?_⟩, ?_⟩, ?_⟩, ?_⟩, ?_⟩, ?_⟩, ?_⟩, ?_⟩, ?_⟩, ?_⟩, ?_⟩, ?_⟩, ?_⟩, ?_⟩, ?_⟩, ?_⟩, ?_⟩, ?_⟩
  · kernel_rfl
  · exact face_laid
  · exact face_maps
  · kernel_rfl
  · kernel_rfl
  · kernel_rfl
  · kernel_rfl
  · kernel_rfl
  · kernel_rfl
  · exact face_inPlace
  · exact face_unfollowed
  · exact face_recurses
  · exact face_named
  · kernel_rfl
  · kernel_rfl
  · kernel_rfl
  · kernel_rfl
  · kernel_rfl
  · kernel_rfl
  · kernel_rfl
  · kernel_rfl
  · kernel_rfl
  · kernel_rfl
  · kernel_rfl
  · kernel_rfl
  · kernel_rfl
  · kernel_rfl
  · kernel_rfl
  · kernel_rfl
  · kernel_rfl
  · kernel_rfl
  · kernel_rfl

theorem plain (f : FuncId) (fn : Func) (hf : Tryz.pinned.checked.prog.funcNamed "motif/motiflaw.Checks" = some f) (hfn : Tryz.pinned.checked.prog.funcs[f]? = some fn) :
    true = Tryz.pinned.checked.prog.looks [] ∧ ∀ (j : Nat) t, fn.params[j]? = some t → Tryz.pinned.checked.prog.wantsStandIn t = false := by
  obtain rfl : f = 3 := Option.some.inj ((show Tryz.prog.funcNamed "motif/motiflaw.Checks" = some 3 by kernel_rfl).symm.trans hf) |>.symm
  obtain rfl : fn = Tryz.f3 := (Option.some.inj (Tryz.func3.symm.trans hfn)).symm
  refine ⟨by kernel_rfl, fun j t ht => ?_⟩
  rw [Tryz.params3] at ht
  obtain rfl : t = 22 := by simpa using Array.mem_of_getElem? ht
  exact (show Tryz.prog.wantsStandIn 22 = false by kernel_rfl)

theorem card_wf : Rows.checksRow.wfByText (OpenSpec.ofChange Rows.checksSpec) = true := by kernel_rfl
theorem card_main : Tryz.pinned.checked.prog.mainIs = some (Rows.checksCard.stood.harness.1, Rows.checksCard.stood.harness.2.toList) := by kernel_rfl
theorem card_goes : false = Rows.checksRow.goesBy Tryz.pinned.checked.prog := by kernel_rfl
end Go.Proofs.YtfolanohokflkaaGreatDoor
