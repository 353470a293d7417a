import Derived.Test.YtfolanohokflkaaGreatDoorNdH
import Derived.Laws.OwnMore
import Derived.Deep.Onto
import Derived.WalkKit
import Derived.WalkSpells
import Derived.WalkLawsBesides
import Derived.WalkMore
namespace Go.Proofs.YtfolanohokflkaaGreatDoor
open Go.RowKit
section
variable {w0 w : World} {b : Nat} {s : ByteArray} {d : Int} {l : List Sy}
/-- .. pieces, in a slice that no one else has, or the panic. -/
def OutP (R : Res Spans) (w0 : World) (b : Nat) (s : ByteArray) (d : Int) (x : Ending) (w' : World) : Prop :=
  match R with
  | .ok y => ∃ v, x = .returned v ∧ Hid (w'.ownsRow (b + 1) 248 2 v y.1.length (pcCells y.1)) ∧ Hid (PL w0 w' b s d y.2)
  | .error y => x = Pan y.1 y.2 ∧ Hid (Up b w0 w')
theorem outP_err {R : Res Spans} {f : Nat} {args : Array Value} (H : Calls Tryz.prog f args w (OutP R w0 b s d)) {y : Int × Int} (hR : Hid (R = .error y)) :
    Calls Tryz.prog f args w fun x w' => x = Pan y.1 y.2 ∧ Hid (Up b w0 w') := by
  rw [unhide hR] at H; exact H
theorem outP_ok {R : Res Spans} {f : Nat} {args : Array Value} (H : Calls Tryz.prog f args w (OutP R w0 b s d)) {z : Spans} {l1 : List Sy} (hR : Hid (R = .ok (z, l1))) :
    Calls Tryz.prog f args w fun x w' => ∃ v, x = .returned v ∧ Hid (w'.ownsRow (b + 1) 248 2 v z.length (pcCells z)) ∧ Hid (PL w0 w' b s d l1) := by
  rw [unhide hR] at H; exact H
theorem row_one {w' : World} {b : Nat} (h : b < w'.heap.size) (lo hi : Int) : Hid ((w'.alloc (.cells #[.int .i32 lo, .int .i32 hi] 248)).ownsRow (b + 1) 248 2 (.slice (some ⟨w'.heap.size, 0, none⟩) 1 1) 1 (pcCells [(lo, hi)])) :=
  World.ownsRow_lit w' #[.int .i32 lo, .int .i32 hi] 1 h (by decide) rfl
theorem PL.alloc (h : Hid (PL w0 w b s d l)) (o : Obj) : Hid (PL w0 (w.alloc o) b s d l) := PL.below h ((Below.refl _ w).alloc (Nat.le_refl _) o)

set_option maxRecDepth 100000 in
set_option maxHeartbeats 4000000 in
theorem qPart (h : Hid (PL w0 w b s d l)) :
    Calls Tryz.prog 337 #[.pointer (some ⟨b, 0, none⟩)] w (OutP (partP s.size l) w0 b s d) := by
  obtain ⟨R, hR⟩ : ∃ R, partP s.size l = R := ⟨_, rfl⟩
  rw [hR]
  rw [partP] at hR
  cases hs : isSet l
  · rw [if_neg (by rw [hs]; decide)] at hR
    have HN := hide hs
    clear hs
    cases h1 : limitS s.size l with
    | error y =>
      rw [h1] at hR
      have HX : Hid (R = .error y) := hR.symm
      have H1 := hide h1
      clear h1 hR
      go_enter Tryz.func337, Tryz.ntmps337
      go_wp2_with (first
        | (go_at_call 329; refine (qSeveral_no h HN).mono ?_; clear h; rintro x w1 ⟨rfl, HS⟩)
        | (go_at_call 342; refine (outV_err (qLimit HS) H1).mono ?_; rintro x w2 ⟨rfl, HU⟩))
      rw [unhide HX]
      exact ⟨rfl, rfl, HU⟩
    | ok y =>
      obtain ⟨a, l1⟩ := y
      rw [h1] at hR
      dsimp only at hR
      have H1 := hide h1
      clear h1
      by_cases hdash : hd l1 = 45
      · rw [if_pos hdash] at hR
        have HD := hide hdash
        clear hdash
        cases h2 : limitS s.size l1.tail with
        | error y =>
          rw [h2] at hR
          have HX : Hid (R = .error y) := hR.symm
          have H2 := hide h2
          clear h2 hR
          go_enter Tryz.func337, Tryz.ntmps337
          go_wp2_with (first
            | (go_at_call 329; refine (qSeveral_no h HN).mono ?_; clear h; rintro x w1 ⟨rfl, HS⟩)
            | (go_at_call 342; have H3 := H1; clear H1; refine (outV_ok (qLimit HS) H3).mono ?_; clear HS; rintro x w2 ⟨rfl, HS⟩)
            | (go_at_call 219; refine (qMet_yes HS 45 HD).mono ?_; clear HS; rintro x w2 ⟨rfl, HS⟩)
            | (go_at_call 342; refine (outV_err (qLimit HS) H2).mono ?_; rintro x w2 ⟨rfl, HU⟩))
          rw [unhide HX]
          exact ⟨rfl, rfl, HU⟩
        | ok y =>
          obtain ⟨z, l2⟩ := y
          rw [h2] at hR
          dsimp only at hR
          have H2 := hide h2
          clear h2
          by_cases hza : z < a
          · rw [if_pos hza] at hR
            have HX : Hid (R = .error (3, plc s.size l2)) := hR.symm
            clear hR
            go_enter Tryz.func337, Tryz.ntmps337
            go_wp2_with (first
              | (go_at_call 329; refine (qSeveral_no h HN).mono ?_; clear h; rintro x w1 ⟨rfl, HS⟩)
              | (go_at_call 342; have H3 := H1; clear H1; refine (outV_ok (qLimit HS) H3).mono ?_; clear HS; rintro x w2 ⟨rfl, HS⟩)
              | (go_at_call 219; refine (qMet_yes HS 45 HD).mono ?_; clear HS; rintro x w2 ⟨rfl, HS⟩)
              | (go_at_call 342; refine (outV_ok (qLimit HS) H2).mono ?_; clear HS; rintro x w2 ⟨rfl, HS⟩)
              | (go_at_call 220; refine (qRefuse HS 3).mono ?_; rintro x w2 ⟨rfl, HU⟩))
            rw [unhide HX]
            exact ⟨rfl, rfl, HU⟩
          · rw [if_neg hza] at hR
            have HX := hide hR.symm
            clear hR
            go_enter Tryz.func337, Tryz.ntmps337
            go_wp2_with (first
              | (go_at_call 329; refine (qSeveral_no h HN).mono ?_; clear h; rintro x w1 ⟨rfl, HS⟩)
              | (go_at_call 342; have H3 := H1; clear H1; refine (outV_ok (qLimit HS) H3).mono ?_; clear HS; rintro x w2 ⟨rfl, HS⟩)
              | (go_at_call 219; refine (qMet_yes HS 45 HD).mono ?_; clear HS; rintro x w2 ⟨rfl, HS⟩)
              | (go_at_call 342; refine (outV_ok (qLimit HS) H2).mono ?_; clear HS; rintro x w2 ⟨rfl, HS⟩))
            go_ret
            rw [unhide HX]
            exact ⟨_, rfl, row_one (PL.lt HS) _ _, PL.alloc HS _⟩
      · rw [if_neg hdash] at hR
        have HX := hide hR.symm
        have HD := hide hdash
        clear hdash hR
        go_enter Tryz.func337, Tryz.ntmps337
        go_wp2_with (first
          | (go_at_call 329; refine (qSeveral_no h HN).mono ?_; clear h; rintro x w1 ⟨rfl, HS⟩)
          | (go_at_call 342; have H3 := H1; clear H1; refine (outV_ok (qLimit HS) H3).mono ?_; clear HS; rintro x w2 ⟨rfl, HS⟩)
          | (go_at_call 219; refine (qMet_no HS 45 HD).mono ?_; clear HS; rintro x w2 ⟨rfl, HS⟩))
        go_ret
        rw [unhide HX]
        exact ⟨_, rfl, row_one (PL.lt HS) _ _, PL.alloc HS _⟩
  · rw [if_pos hs] at hR
    have HX := hide hR.symm
    have HN := hide hs
    clear hs hR
    have HPA := hide (fun w1 => pieces_any w1 (setEsc l) (by unfold setEsc; split <;> decide) (tidy_good (tidy_esc l)))
    go_enter Tryz.func337, Tryz.ntmps337
    go_wp2_with (first
      | (go_at_call 329; refine (qSeveral_yes h HN).mono ?_; clear h; rintro x w1 ⟨rfl, HS⟩)
      | (go_at_call 161; refine (unhide HPA _).mono ?_; clear HPA; rintro x w2 ⟨v, rfl, hrow, hbw⟩; have hlt := PL.lt HS; have HRW := hide (hrow.mono hlt); have HS2 := PL.below HS hbw; clear hrow hbw HS))
    go_ret
    rw [unhide HX]
    exact ⟨_, rfl, HRW, HS2⟩
end
end Go.Proofs.YtfolanohokflkaaGreatDoor
