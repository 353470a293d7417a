import Derived.Test.YtihjfoldgnoolaaGreatDoorCards
import Derived.Test.YtihjfoldgnoolaaGreatDoorTie
import Derived.Test.YtihjfoldgnoolaaGreatDoorLawB
import Derived.WalkKit
import Derived.ProofKit
import Derived.OpenShut
import Derived.Carry
import Derived.ChangeOld
import Derived.Deep.Slices
import Derived.Deep.DeepHandedRow
import Derived.Lib.LaidTab
import Derived.Lib.LaidU8
import Derived.Lay
namespace Go.Proofs.YtihjfoldgnoolaaGreatDoor
open Go.ChangeShapes Go.WideShapes Go.ChangeAt Go.RowKit

theorem own : ownKnob Tryz.prog.godebug = none := by kernel_rfl
theorem laidOut : laidOutB Tryz.prog = true := by kernel_rfl
theorem cellsInt : Tryz.prog.cellsOf 3 = 1 := by kernel_rfl
theorem cellsString : Tryz.prog.cellsOf 9 = 1 := by kernel_rfl
theorem cellsOp : Tryz.prog.cellsOf 51 = 6 := by kernel_rfl
theorem first_is : Rows.laid_unicode_utf8_first = Lib.firstData := by kernel_rfl
theorem accept_is : (Rows.laid_unicode_utf8_acceptRanges : DataW Unit) = Lib.acceptData := by kernel_rfl
theorem u8extra : U8Extra Tryz.prog Tryz.lays260_ren := ⟨by kernel_rfl, by kernel_rfl, by kernel_rfl, by kernel_rfl, by kernel_rfl, by kernel_rfl, by kernel_rfl⟩

/-- what the row's list gives. -/
theorem tabs_laid {W : World} (h : laidMetH Tryz.prog Rows.checksRow.laid W) : Lib.Utf8Tabs 4 5 W := by
  have h1 : laidMet Tryz.prog Rows.checksRow.laid W := h
  exact utf8Tabs_of_reads Tryz.lays260 u8extra (Lib.laidMet.reads h1 (by rw [← first_is]; simp [Rows.checksRow])) (Lib.laidMet.reads h1 (by rw [← accept_is]; simp [Rows.checksRow]))

section
variable {H : Type} {enc : TypeId × Value → H} {w : World} {sp : Nat → Bool} {held : Bool}

set_option maxRecDepth 100000 in
/-- one step, from its reading. -/
theorem op_open {a : Addr} {i n : Nat} {cs : List Value} {x : DataW H × List MemPlace} (h1 : w.cells? 0 (a.add (i * 6)) 6 = some cs) (h2 : DataW.trod enc Tryz.prog w 0 sp held n 51 cs = some x) :
    ∃ q : Int × Int × Int × ByteArray × ByteArray × ByteArray, w.cell? (a.add (i * 6)) = some (.int .i64 q.1) ∧ w.cell? (a.add (i * 6 + 1)) = some (.int .i64 q.2.1) ∧ w.cell? (a.add (i * 6 + 2)) = some (.int .i64 q.2.2.1) ∧
      w.cell? (a.add (i * 6 + 3)) = some (.string q.2.2.2.1) ∧ w.cell? (a.add (i * 6 + 4)) = some (.string q.2.2.2.2.1) ∧ w.cell? (a.add (i * 6 + 5)) = some (.string q.2.2.2.2.2) ∧ q.2.2.2.1.size ≤ maxLen := by
  obtain ⟨_, hlen, hcell⟩ := World.cells?_some h1
  obtain ⟨xs, k, hk, hxy, hl, hxl, hf⟩ := DataW.trod_struct Tryz.underlying51 h2
  match xs, hxl, cs, hlen with
  | [y0, y1, y2, y3, y4, y5], _, [c0, c1, c2, c3, c4, c5], _ =>
    have g0 := hf 0 _ rfl
    have g1 := hf 1 _ rfl
    have g2 := hf 2 _ rfl
    have g3 := hf 3 _ rfl
    have g4 := hf 4 _ rfl
    have g5 := hf 5 _ rfl
    simp [cellsInt, cellsString] at g0 g1 g2 g3 g4 g5
    obtain ⟨z0, e0, -, -⟩ := DataW.trod_int Tryz.underlying3 g0
    obtain ⟨z1, e1, -, -⟩ := DataW.trod_int Tryz.underlying3 g1
    obtain ⟨z2, e2, -, -⟩ := DataW.trod_int Tryz.underlying3 g2
    obtain ⟨s3, e3, -, m3⟩ := DataW.trod_string Tryz.underlying9 g3
    obtain ⟨s4, e4, -, -⟩ := DataW.trod_string Tryz.underlying9 g4
    obtain ⟨s5, e5, -, -⟩ := DataW.trod_string Tryz.underlying9 g5
    have k0 := hcell 0 (by omega)
    have k1 := hcell 1 (by omega)
    have k2 := hcell 2 (by omega)
    have k3 := hcell 3 (by omega)
    have k4 := hcell 4 (by omega)
    have k5 := hcell 5 (by omega)
    rw [Deep.add_add] at k0 k1 k2 k3 k4 k5
    simp only [List.cons.injEq, and_true] at e0 e1 e2 e3 e4 e5
    subst e0; subst e1; subst e2; subst e3; subst e4; subst e5
    exact ⟨(z0, z1, z2, s3, s4, s5), by simpa using k0, by simpa using k1, by simpa using k2, by simpa using k3, by simpa using k4, by simpa using k5, m3⟩
end
end Go.Proofs.YtihjfoldgnoolaaGreatDoor

namespace Go.Proofs.YtihjfoldgnoolaaGreatDoor
open Go.ChangeShapes Go.WideShapes Go.ChangeAt Go.RowKit

set_option maxRecDepth 100000 in
theorem contract (H : Type) (enc : TypeId × Value → H) (W : World) (base : Nat) (args : Array Value) (ds gs : List (DataW H)) (before : List MemPlace)
    (hval : ∀ (j : Nat) t v, Tryz.f3.params[j]? = some t → args[j]? = some v → Value.okWide Tryz.prog W .any base t v)
    (hW : DataW.Whole enc Tryz.prog Tryz.f3.params.toList Rows.checksSpec.vars false W args.toList ds gs before) (hL : laidMetH Tryz.prog Rows.checksRow.laid W) :
    Calls Tryz.prog 3 args W fun e W' => ∃ v, e = .returned v ∧ Rows.checksSpec.post enc Tryz.prog Tryz.f3 false true false false W args v W' := by
  have hW' := hW
  obtain ⟨p, q, hA0, hV, rfl, hfz, hnd⟩ := hW
  have hA : DataW.TrodAll enc Tryz.prog W 0 (fun _ => true) true Tryz.f3.params.toList args.toList ds p := hA0
  rw [Tryz.params3] at hA hval
  obtain ⟨v0, vs0, d0, ds0, p0, q0, hargs, rfl, rfl, h0, r0⟩ := trodAll_cons hA
  obtain ⟨rfl, rfl, rfl⟩ := trodAll_nil r0
  obtain rfl : args = #[v0] := by cases args; simp_all
  obtain ⟨rfl, rfl⟩ := trodVars_none hV
  obtain ⟨a0, len, cap, rfl⟩ := okWide_slice Tryz.underlying22 (hval 0 22 v0 rfl rfl)
  clear hA0
  simp only [List.append_nil] at hW'
  have h0k := h0
  obtain ⟨fuel, hf⟩ := h0
  have hlt : ∀ x ∈ p0, x.block < W.heap.size := fun x hx => by simpa using hW'.lt x hx
  have ht : Lib.Utf8Tabs 4 5 W := tabs_laid hL
  have walk : Calls Tryz.prog 3 #[.slice a0 len cap] W fun e w' => e = .returned (.bool true) ∧ Hid (Below W.heap.size W w') := by
    rcases Deep.open_slice Tryz.underlying22 hf with ⟨hc, _⟩ | ⟨a, len', cap', m, n, D, Pl, hc, _, hl, hm, hmm, _, hx⟩
    · simp [Value.cells] at hc
      obtain ⟨rfl, rfl, rfl⟩ := hc
      exact checks_empty W _ _
    · simp [Value.cells] at hc
      obtain ⟨rfl, rfl, rfl⟩ := hc
      simp only [if_true] at hmm
      subst hmm
      by_cases hl0 : len = 0
      · subst hl0; exact checks_empty W _ _
      · rw [cellsOp] at hx
        obtain ⟨f, hfq⟩ := Deep.choose_lt (fun i hi => by
          obtain ⟨cs', h1, h2⟩ := hx i hi
          exact op_open h1 h2)
        have k0 := (hfq 0 (by omega)).1
        have hsp : a.spot = none := by
          have : a.add (0 * 6) = a := by simp [Addr.add]
          rw [this] at k0
          exact World.cell?_spot k0
        obtain ⟨b, o, sp⟩ := a
        dsimp only at hsp
        subst hsp
        have hs : ScriptAt W b o len (fun i => (f i).1) (fun i => (f i).2.1) (fun i => (f i).2.2.1) (fun i => (f i).2.2.2.1) (fun i => (f i).2.2.2.2.1) (fun i => (f i).2.2.2.2.2) := by
          intro i hi
          have := hfq i (by omega)
          simp only [Addr.add_lit] at this
          simpa [Nat.add_assoc] using this
        have hbl : b < W.heap.size := World.block_lt_of_cell? W _ (hs 0 (by omega)).1
        exact checks_some W b o len _ _ _ _ _ _ _ hs hl hm hbl ht
  refine walk.mono fun e W' ⟨he, hb⟩ => ?_
  subst he
  refine ⟨_, rfl, ⟨_, _, _, [], p0 ++ [], [], hW', ?_, ?_, rfl, (unhide hb).frame _, fun h => by cases h⟩⟩
  · exact trodAll_cons_mk (shut_bool Tryz.underlying4 _) trodAll_mk0
  · exact trodAll_cons_mk (Below.trod laidOut (by kernel_rfl) (of_decide_eq_true (by kernel_rfl)) h0k (unhide hb) hlt) trodAll_mk0

/-- a world for the witness: the tables hold what they are listed with. -/
noncomputable def laidWorld (os : Os) : World := World.laidAll Tryz.prog os Rows.checksRow.laid
theorem laid_met (os : Os) : laidMet Tryz.prog Rows.checksRow.laid ((laidWorld os).forCall (fun _ _ => 0) ⟨#[], #[.slice none 0 0], []⟩).memory :=
  laidMet_laidAll #[.slice none 0 0] (by kernel_rfl) (by kernel_rfl)
theorem reads (os : Os) {H : Type} (enc : TypeId × Value → H) : ∃ places, DataW.whole enc Tryz.prog ((laidWorld os).forCall (fun _ _ => 0) ⟨#[], #[.slice none 0 0], []⟩).memory Tryz.f3.params.toList Rows.checksSpec.vars false #[Value.slice none 0 0].toList 8 = some ([.nil], [], places) :=
  ⟨[], by kernel_rfl⟩

set_option maxRecDepth 100000 in
theorem lifted (os : Os) (started : os.Started) (H : Type) (enc : TypeId × Value → H) (F : Stop.Interp) :
    ReturnsInHanded {} Tryz.checked os 3 .any ((OpenSpec.ofChange Rows.checksSpec).preRow enc Tryz.prog Tryz.f3 Rows.checksRow.domain false Rows.checksRow.laid) (((OpenSpec.ofChange Rows.checksSpec).at F).post enc Tryz.prog Tryz.f3 false true false false) := by
  obtain ⟨places, hx⟩ := reads os enc
  refine returnsInHanded_of_row (C := Tryz.checked) (s := OpenSpec.ofChange Rows.checksSpec) own started (by kernel_rfl) Tryz.func3
    (witness_row_at (enc := enc) (C := Tryz.checked) false (laidWorld os) #[.slice none 0 0] (World.laidAll_os _ _ _) (by kernel_rfl) (by kernel_rfl) (by kernel_rfl)
      (OpenSpec.preRow_of_cond 8 hx (by kernel_rfl) (fun k hk => by cases hk) (by kernel_rfl) (laid_met os))) ?_
  intro W base args ds gs before hval hW _ _ _ hL _ _
  exact contract H enc W base args ds gs before hval hW hL

theorem face_inPlace : (Rows.checksRow.inPlace == Tryz.prog.inPlace 3) = true := by kernel_rfl
theorem face_unfollowed : (Rows.checksRow.unfollowed == Tryz.prog.unfollowed 3) = true := by kernel_rfl
theorem face_recurses : (Rows.checksRow.recurses == Tryz.prog.recurses 3) = true := by kernel_rfl
theorem face_named : (Rows.checksRow.named == Tryz.prog.varsNamed 3) = true := by kernel_rfl
theorem face_laid : laidOutB Tryz.prog = true := laidOut
theorem face_maps : mapsRowed Tryz.prog = true := by kernel_rfl
theorem face : joinedFacts Tryz.prog 3 Tryz.f3 Rows.checksSpec Rows.checksRow = true := by
  unfold joinedFacts
  simp only [Bool.and_eq_true]
  refine ⟨⟨⟨⟨⟨⟨⟨⟨⟨⟨⟨⟨⟨⟨⟨⟨⟨⟨⟨⟨⟨⟨⟨⟨⟨⟨⟨⟨⟨⟨⟨?_, ?_⟩, ?_⟩, ?_⟩, ?_⟩, ?_⟩, ?_⟩, ?_⟩, ?_⟩, ?_⟩, ?_⟩, ?_⟩, ?_⟩, ?_⟩, ?_⟩, ?_⟩, ?_⟩, ?_⟩, ?_⟩, ?_⟩, ?_⟩, ?_⟩, ?_⟩, ?_⟩, ?_⟩, ?_⟩, ?_⟩, ?_⟩, ?_⟩, ?_⟩, ?_⟩, ?_⟩
  · kernel_rfl
  · exact face_laid
  · exact face_maps
  · kernel_rfl
  · kernel_rfl
  · kernel_rfl
  · kernel_rfl
  · kernel_rfl
  · kernel_rfl
  · exact face_inPlace
  · exact face_unfollowed
  · exact face_recurses
  · exact face_named
  · kernel_rfl
  · kernel_rfl
  · kernel_rfl
  · kernel_rfl
  · kernel_rfl
  · kernel_rfl
  · kernel_rfl
  · kernel_rfl
  · kernel_rfl
  · kernel_rfl
  · kernel_rfl
  · kernel_rfl
  · kernel_rfl
  · kernel_rfl
  · kernel_rfl
  · kernel_rfl
  · kernel_rfl
  · kernel_rfl
  · kernel_rfl

set_option maxRecDepth 100000 in
theorem said : Rows.ChecksSaid :=
  OpenClaim.holds_of_cond 3 Tryz.f3 rfl rfl rfl rfl rfl rfl rfl ⟨rfl, rfl, rfl, rfl, rfl⟩ rfl rfl rfl rfl rfl (by kernel_rfl) Tryz.func3 (by exact face)
    (of_decide_eq_true (by kernel_rfl)) (by unfold Func.isWrapper; first | (rw [if_pos (by decide +kernel)]; kernel_rfl) | (rw [if_neg (by decide +kernel)]; exact ⟨rfl, rfl⟩))
    (fun os started H enc _ F => by rw [OpenClaim.pre_eq_preRow]; exact lifted os started H enc F)

theorem plain (f : FuncId) (fn : Func) (hf : Tryz.pinned.checked.prog.funcNamed "motif/motiflaw.Checks" = some f) (hfn : Tryz.pinned.checked.prog.funcs[f]? = some fn) :
    true = Tryz.pinned.checked.prog.looks [] ∧ ∀ (j : Nat) t, fn.params[j]? = some t → Tryz.pinned.checked.prog.wantsStandIn t = false := by
  obtain rfl : f = 3 := Option.some.inj ((show Tryz.prog.funcNamed "motif/motiflaw.Checks" = some 3 by kernel_rfl).symm.trans hf) |>.symm
  obtain rfl : fn = Tryz.f3 := (Option.some.inj (Tryz.func3.symm.trans hfn)).symm
  refine ⟨by kernel_rfl, fun j t ht => ?_⟩
  rw [Tryz.params3] at ht
  obtain rfl : t = 22 := by simpa using Array.mem_of_getElem? ht
  exact (show Tryz.prog.wantsStandIn 22 = false by kernel_rfl)

/-- ████ the card ████ -/
theorem checks_card : Rows.ChecksCardSaid :=
  Claim7.holds_tied_plain_at .later [] _ _ _ _ said (fun _ h => by cases h) (by kernel_rfl) (fun _ h => by cases h) checks_row_tie rfl ⟨rfl, rfl⟩ (by kernel_rfl) rfl plain (by kernel_rfl)
#print axioms checks_card
end Go.Proofs.YtihjfoldgnoolaaGreatDoor
