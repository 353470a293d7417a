import Derived.Test.YtfolanohokflkaaGreatDoorCards
import Derived.Test.YtfolanohokflkaaGreatDoorTie
import Derived.Test.YtfolanohokflkaaGreatDoorLawB
import Derived.WalkKit
import Derived.ProofKit
import Derived.OpenShut
import Derived.Carry
import Derived.ChangeOld
import Derived.Deep.Slices
import Derived.Deep.DeepHandedRow
import Derived.Lib.LaidTab
import Derived.Lib.LaidU8
namespace Go.Proofs.YtfolanohokflkaaGreatDoor
open Go.ChangeShapes Go.WideShapes Go.ChangeAt Go.RowKit

theorem own : ownKnob Tryz.prog.godebug = none := by kernel_rfl
theorem laidOut : laidOutB Tryz.prog = true := by kernel_rfl
theorem cellsInt : Tryz.prog.cellsOf 3 = 1 := by kernel_rfl
theorem cellsString : Tryz.prog.cellsOf 9 = 1 := by kernel_rfl
theorem cellsOp : Tryz.prog.cellsOf 52 = 6 := by kernel_rfl
theorem first_is : Rows.laid_unicode_utf8_first = Lib.firstData := by kernel_rfl
theorem accept_is : (Rows.laid_unicode_utf8_acceptRanges : DataW Unit) = Lib.acceptData := by kernel_rfl
theorem u8extra : U8Extra Tryz.prog Tryz.lays260_ren := ⟨by kernel_rfl, by kernel_rfl, by kernel_rfl, by kernel_rfl, by kernel_rfl, by kernel_rfl, by kernel_rfl⟩

/-- what the row's list gives. -/
theorem tabs_laid {W : World} (h : laidMetH Tryz.prog Rows.checksRow.laid W) : Lib.Utf8Tabs 4 5 W := by
  have h1 : laidMet Tryz.prog Rows.checksRow.laid W := h
  exact utf8Tabs_of_reads Tryz.lays260 u8extra (Lib.laidMet.reads h1 (by rw [← first_is]; simp [Rows.checksRow])) (Lib.laidMet.reads h1 (by rw [← accept_is]; simp [Rows.checksRow]))

section
variable {H : Type} {enc : TypeId × Value → H} {w : World} {sp : Nat → Bool} {held : Bool}

set_option maxRecDepth 100000 in
/-- one step, from its reading. -/
theorem op_open {a : Addr} {i n : Nat} {cs : List Value} {x : DataW H × List MemPlace} (h1 : w.cells? 0 (a.add (i * 6)) 6 = some cs) (h2 : DataW.trod enc Tryz.prog w 0 sp held n 52 cs = some x) :
    ∃ q : Int × Int × Int × ByteArray × ByteArray × ByteArray, w.cell? (a.add (i * 6)) = some (.int .i64 q.1) ∧ w.cell? (a.add (i * 6 + 1)) = some (.int .i64 q.2.1) ∧ w.cell? (a.add (i * 6 + 2)) = some (.int .i64 q.2.2.1) ∧
      w.cell? (a.add (i * 6 + 3)) = some (.string q.2.2.2.1) ∧ w.cell? (a.add (i * 6 + 4)) = some (.string q.2.2.2.2.1) ∧ w.cell? (a.add (i * 6 + 5)) = some (.string q.2.2.2.2.2) ∧ q.2.2.2.1.size ≤ maxLen := by
  obtain ⟨_, hlen, hcell⟩ := World.cells?_some h1
  obtain ⟨xs, k, hk, hxy, hl, hxl, hf⟩ := DataW.trod_struct Tryz.underlying52 h2
  match xs, hxl, cs, hlen with
  | [y0, y1, y2, y3, y4, y5], _, [c0, c1, c2, c3, c4, c5], _ =>
    have g0 := hf 0 _ rfl
    have g1 := hf 1 _ rfl
    have g2 := hf 2 _ rfl
    have g3 := hf 3 _ rfl
    have g4 := hf 4 _ rfl
    have g5 := hf 5 _ rfl
    simp [cellsInt, cellsString] at g0 g1 g2 g3 g4 g5
    obtain ⟨z0, e0, -, -⟩ := DataW.trod_int Tryz.underlying3 g0
    obtain ⟨z1, e1, -, -⟩ := DataW.trod_int Tryz.underlying3 g1
    obtain ⟨z2, e2, -, -⟩ := DataW.trod_int Tryz.underlying3 g2
    obtain ⟨s3, e3, -, m3⟩ := DataW.trod_string Tryz.underlying9 g3
    obtain ⟨s4, e4, -, -⟩ := DataW.trod_string Tryz.underlying9 g4
    obtain ⟨s5, e5, -, -⟩ := DataW.trod_string Tryz.underlying9 g5
    have k0 := hcell 0 (by omega)
    have k1 := hcell 1 (by omega)
    have k2 := hcell 2 (by omega)
    have k3 := hcell 3 (by omega)
    have k4 := hcell 4 (by omega)
    have k5 := hcell 5 (by omega)
    rw [Deep.add_add] at k0 k1 k2 k3 k4 k5
    simp only [List.cons.injEq, and_true] at e0 e1 e2 e3 e4 e5
    subst e0; subst e1; subst e2; subst e3; subst e4; subst e5
    exact ⟨(z0, z1, z2, s3, s4, s5), by simpa using k0, by simpa using k1, by simpa using k2, by simpa using k3, by simpa using k4, by simpa using k5, m3⟩
end
end Go.Proofs.YtfolanohokflkaaGreatDoor
