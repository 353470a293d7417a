import Derived.Test.YthopgbacdmgfgaaGreatDoorProD
import Derived.WalkKit
import Derived.WalkSpells
import Derived.WalkLawsBesides
import Derived.WalkMore
namespace Go.Proofs.YthopgbacdmgfgaaGreatDoor
open Go.RowKit

/-- the program's reader, said of the symbols that are left. -/
def PL (w0 w : World) (b : Nat) (s : ByteArray) (d : Int) (l : List Sy) : Prop := ∃ p, PS w0 w b s p d ∧ symsFrom s p = l

def QOut {a : Type} (R : Res a) (val : a → Value) (w0 : World) (b : Nat) (s : ByteArray) (d : Int) (x : Ending) (w' : World) : Prop :=
  match R with
  | .ok y => x = .returned (val y.1) ∧ Hid (PL w0 w' b s d y.2)
  | .error y => x = Pan y.1 y.2 ∧ Hid (Up b w0 w')

section
variable {w0 w : World} {b : Nat} {s : ByteArray} {p : Nat} {d : Int} {l : List Sy}

theorem PL.of (h : Hid (PS w0 w b s p d)) : Hid (PL w0 w b s d (symsFrom s p)) := ⟨p, h, rfl⟩
theorem PL.of' (h : Hid (PS w0 w b s p d)) (e : Hid (symsFrom s p = l)) : Hid (PL w0 w b s d l) := ⟨p, h, e⟩
theorem QOut.of {a : Type} {R : Res a} {val : a → Value} {x : Ending} {w' : World} (h : POut R val w0 b s d x w') : QOut R val w0 b s d x w' := by
  cases R with
  | error y => exact h
  | ok y => obtain ⟨h1, p', h2, h3⟩ := h; exact ⟨h1, p', h2, h3⟩

theorem qLook (h : Hid (PL w0 w b s d l)) {c : Int} (hc : Hid (hd l = c)) :
    Calls Tryz.prog 94 #[.pointer (some ⟨b, 0, none⟩)] w fun x w' => x = .returned (.int .i32 c) ∧ Hid (PL w0 w' b s d l) := by
  obtain ⟨p, h1, rfl⟩ := unhide h
  replace h := hide h1
  refine (pLook h).mono ?_
  rintro x w' ⟨rfl, h'⟩
  exact ⟨by rw [unhide hc], PL.of h'⟩
theorem qStep (h : Hid (PL w0 w b s d l)) :
    Calls Tryz.prog 95 #[.pointer (some ⟨b, 0, none⟩)] w fun x w' => x = .returned (.tuple #[]) ∧ Hid (PL w0 w' b s d l.tail) := by
  obtain ⟨p, h1, rfl⟩ := unhide h
  replace h := hide h1
  refine (pStep h).mono ?_
  rintro x w' ⟨rfl, p', h', e⟩
  exact ⟨rfl, PL.of' h' e⟩
theorem qMet_yes (h : Hid (PL w0 w b s d l)) (c : Int) (hc : Hid (hd l = c)) :
    Calls Tryz.prog 82 #[.pointer (some ⟨b, 0, none⟩), .int .i32 c] w fun x w' => x = .returned (.bool true) ∧ Hid (PL w0 w' b s d l.tail) := by
  obtain ⟨p, h1, rfl⟩ := unhide h
  replace h := hide h1
  refine (pMet_yes h c hc).mono ?_
  rintro x w' ⟨rfl, p', h', e⟩
  exact ⟨rfl, PL.of' h' e⟩
theorem qMet_no (h : Hid (PL w0 w b s d l)) (c : Int) (hc : Hid (¬ hd l = c)) :
    Calls Tryz.prog 82 #[.pointer (some ⟨b, 0, none⟩), .int .i32 c] w fun x w' => x = .returned (.bool false) ∧ Hid (PL w0 w' b s d l) := by
  obtain ⟨p, h1, rfl⟩ := unhide h
  replace h := hide h1
  refine (pMet_no h c hc).mono ?_
  rintro x w' ⟨rfl, h'⟩
  exact ⟨rfl, PL.of h'⟩
theorem qRefuse (h : Hid (PL w0 w b s d l)) (e : Int) :
    Calls Tryz.prog 84 #[.pointer (some ⟨b, 0, none⟩), .int .i64 e] w fun x w' => x = Pan e (plc s.size l) ∧ Hid (Up b w0 w') := by
  obtain ⟨p, h1, rfl⟩ := unhide h
  replace h := hide h1
  rw [plc_syms (unhide h).le]
  exact pRefuse h e
theorem qTake_yes (h : Hid (PL w0 w b s d l)) (c : Int) (hc : Hid (hd l = c)) :
    Calls Tryz.prog 55 #[.pointer (some ⟨b, 0, none⟩), .int .i32 c] w fun x w' => x = .returned (.tuple #[]) ∧ Hid (PL w0 w' b s d l.tail) := by
  obtain ⟨p, h1, rfl⟩ := unhide h
  replace h := hide h1
  refine (pTake_yes h c hc).mono ?_
  rintro x w' ⟨rfl, p', h', e⟩
  exact ⟨rfl, PL.of' h' e⟩
theorem qTake_no (h : Hid (PL w0 w b s d l)) (c : Int) (hc : Hid (¬ hd l = c)) :
    Calls Tryz.prog 55 #[.pointer (some ⟨b, 0, none⟩), .int .i32 c] w fun x w' => x = Pan 2 (plc s.size l) ∧ Hid (Up b w0 w') := by
  obtain ⟨p, h1, rfl⟩ := unhide h
  replace h := hide h1
  rw [plc_syms (unhide h).le]
  exact pTake_no h c hc
theorem PL.symOr (h : Hid (PL w0 w b s d l)) : SymOr (hd l) := by
  obtain ⟨p, h1, rfl⟩ := unhide h
  replace h := hide h1
  exact symOr_hd s p (unhide h).le
theorem PL.below {w' : World} (h : Hid (PL w0 w b s d l)) (hb : Below w.heap.size w w') : Hid (PL w0 w' b s d l) := by
  obtain ⟨p, h1, rfl⟩ := unhide h
  replace h := hide h1
  exact PL.of (PS.below h hb)
theorem PL.up (h : Hid (PL w0 w b s d l)) : Hid (Up b w0 w) := by
  obtain ⟨p, h1, rfl⟩ := unhide h
  replace h := hide h1
  exact (unhide h).up
theorem hd_ge' (l : List Sy) : -1 ≤ hd l := by cases l <;> simp [hd] <;> omega

/-- contracts of the shape QOut, where the plain answer is known. -/
theorem out_err {a : Type} {R : Res a} {val : a → Value} {f : Nat} {args : Array Value} (H : Calls Tryz.prog f args w (QOut R val w0 b s d)) {y : Int × Int} (hR : Hid (R = .error y)) :
    Calls Tryz.prog f args w fun x w' => x = Pan y.1 y.2 ∧ Hid (Up b w0 w') := by
  rw [unhide hR] at H; exact H
theorem out_int {R : Res Int} {f : Nat} {args : Array Value} (H : Calls Tryz.prog f args w (QOut R vInt w0 b s d)) {z : Int} {l1 : List Sy} (hR : Hid (R = .ok (z, l1))) :
    Calls Tryz.prog f args w fun x w' => x = .returned (.int .i64 z) ∧ Hid (PL w0 w' b s d l1) := by
  rw [unhide hR] at H; exact H
theorem out_rune {R : Res Int} {f : Nat} {args : Array Value} (H : Calls Tryz.prog f args w (QOut R vRune w0 b s d)) {z : Int} {l1 : List Sy} (hR : Hid (R = .ok (z, l1))) :
    Calls Tryz.prog f args w fun x w' => x = .returned (.int .i32 z) ∧ Hid (PL w0 w' b s d l1) := by
  rw [unhide hR] at H; exact H
theorem out_unit {R : Res Unit} {f : Nat} {args : Array Value} (H : Calls Tryz.prog f args w (QOut R vUnit w0 b s d)) {l1 : List Sy} (hR : Hid (R = .ok ((), l1))) :
    Calls Tryz.prog f args w fun x w' => x = .returned (.tuple #[]) ∧ Hid (PL w0 w' b s d l1) := by
  rw [unhide hR] at H; exact H

theorem qBounds (h : Hid (PL w0 w b s d l)) :
    Calls Tryz.prog 121 #[.pointer (some ⟨b, 0, none⟩)] w (QOut (boundsS s.size l) vInt w0 b s d) := by
  obtain ⟨p, h1, rfl⟩ := unhide h
  replace h := hide h1
  exact (pBounds h).mono fun x w' h => QOut.of h

set_option maxRecDepth 100000 in
set_option maxHeartbeats 4000000 in
theorem qRepeat (h : Hid (PL w0 w b s d l)) :
    Calls Tryz.prog 113 #[.pointer (some ⟨b, 0, none⟩)] w (QOut (repeatS s.size l) vInt w0 b s d) := by
  obtain ⟨R, hR⟩ : ∃ R, repeatS s.size l = R := ⟨_, rfl⟩
  rw [hR]
  by_cases hc : hd l = 123
  · rw [repeatS, if_pos hc] at hR
    have HC := hide hc
    cases R with
    | error y =>
      have HR := hide hR
      clear hR hc
      go_enter Tryz.func113, Tryz.ntmps113
      go_wp2_with (first
        | (go_at_call 82; refine (qMet_yes h 123 HC).mono ?_; clear h; rintro x w1 ⟨rfl, h⟩)
        | (go_at_call 121; refine (out_err (qBounds h) HR).mono ?_; rintro x w2 ⟨rfl, HU⟩))
      exact ⟨rfl, rfl, HU⟩
    | ok y =>
      obtain ⟨z, l1⟩ := y
      have HR := hide hR
      clear hR hc
      go_enter Tryz.func113, Tryz.ntmps113
      go_wp2_with (first
        | (go_at_call 82; refine (qMet_yes h 123 HC).mono ?_; clear h; rintro x w1 ⟨rfl, h⟩)
        | (go_at_call 121; refine (out_int (qBounds h) HR).mono ?_; rintro x w2 ⟨rfl, HS⟩))
      go_ret
      exact ⟨rfl, HS⟩
  · rw [repeatS, if_neg hc] at hR
    subst hR
    have HC := hide hc
    clear hc
    go_enter Tryz.func113, Tryz.ntmps113
    go_wp2_with (first
      | (go_at_call 82; refine (qMet_no h 123 HC).mono ?_; clear h; rintro x w1 ⟨rfl, h⟩)
      | (go_at_call 95; refine (qStep h).mono ?_; clear h; rintro x w1 ⟨rfl, h⟩))
    go_ret
    exact ⟨rfl, h⟩
end
end Go.Proofs.YthopgbacdmgfgaaGreatDoor
