import Derived.Test.YthopgbacdmgfgaaGreatDoorProK
import Derived.WalkKit
import Derived.WalkSpells
import Derived.WalkLawsBesides
import Derived.WalkMore
namespace Go.Proofs.YthopgbacdmgfgaaGreatDoor
open Go.RowKit

section
variable {w0 w : World} {b : Nat} {s : ByteArray} {d : Int} {l : List Sy}

set_option maxRecDepth 100000 in
set_option maxHeartbeats 8000000 in
theorem qLeaf (h : Hid (PL w0 w b s d l)) (hn : ¬ hd l = 40) :
    Calls Tryz.prog 111 #[.pointer (some ⟨b, 0, none⟩)] w (QOut (leafS s.size l) vInt w0 b s d) := by
  obtain ⟨R, hR⟩ : ∃ R, leafS s.size l = R := ⟨_, rfl⟩
  rw [hR]
  rw [leafS] at hR
  by_cases h91 : hd l = 91
  · rw [if_pos h91] at hR
    have HCC := hide h91
    clear h91 hn
    cases hi : classS s.size l.tail with
    | error y =>
      rw [hi] at hR
      have HX : Hid (R = .error y) := hR.symm
      have HI := hide hi
      clear hR hi
      go_enter Tryz.func111, Tryz.ntmps111
      go_wp2_with (first
        | (go_at_call 94; refine (qLook h HCC).mono ?_; clear h; rintro x w1 ⟨rfl, HS⟩)
        | (go_at_call 116; refine (out_err (qClass HS HCC) HI).mono ?_; rintro x w2 ⟨rfl, HU⟩))
      rw [unhide HX]
      exact ⟨rfl, rfl, HU⟩
    | ok y =>
      obtain ⟨u, l1⟩ := y
      rw [hi] at hR
      have HX : Hid (R = .ok (1, l1)) := hR.symm
      have HI := hide hi
      clear hR hi
      go_enter Tryz.func111, Tryz.ntmps111
      go_wp2_with (first
        | (go_at_call 94; refine (qLook h HCC).mono ?_; clear h; rintro x w1 ⟨rfl, HS⟩)
        | (go_at_call 116; refine (out_unit (qClass HS HCC) HI).mono ?_; clear HS; rintro x w2 ⟨rfl, HS⟩))
      go_ret
      rw [unhide HX]
      exact ⟨rfl, HS⟩
  · rw [if_neg h91] at hR
    by_cases h92 : hd l = 92
    · rw [if_pos h92] at hR
      have HCC := hide h92
      clear h92 h91 hn
      cases hs : isSet l
      · rw [if_neg (by rw [hs]; decide)] at hR
        have HN := hide hs
        clear hs
        cases hi : escapeS s.size l.tail with
        | error y =>
          rw [hi] at hR
          have HX : Hid (R = .error y) := hR.symm
          have HI := hide hi
          clear hR hi
          go_enter Tryz.func111, Tryz.ntmps111
          go_wp2_with (first
            | (go_at_call 94; refine (qLook h HCC).mono ?_; clear h; rintro x w1 ⟨rfl, HS⟩)
            | (go_at_call 117; refine (qMetSet_no HS HN).mono ?_; clear HS; rintro x w1 ⟨rfl, HS⟩)
            | (go_at_call 118; refine (out_err (qEscape HS HCC) HI).mono ?_; rintro x w2 ⟨rfl, HU⟩))
          rw [unhide HX]
          exact ⟨rfl, rfl, HU⟩
        | ok y =>
          obtain ⟨u, l1⟩ := y
          rw [hi] at hR
          have HX : Hid (R = .ok (1, l1)) := hR.symm
          have HI := hide hi
          clear hR hi
          go_enter Tryz.func111, Tryz.ntmps111
          go_wp2_with (first
            | (go_at_call 94; refine (qLook h HCC).mono ?_; clear h; rintro x w1 ⟨rfl, HS⟩)
            | (go_at_call 117; refine (qMetSet_no HS HN).mono ?_; clear HS; rintro x w1 ⟨rfl, HS⟩)
            | (go_at_call 118; refine (out_rune (qEscape HS HCC) HI).mono ?_; clear HS; rintro x w2 ⟨rfl, HS⟩))
          go_ret
          rw [unhide HX]
          exact ⟨rfl, HS⟩
      · rw [if_pos hs] at hR
        have HN := hide hs
        have HX := hide hR.symm
        clear hs hR
        go_enter Tryz.func111, Tryz.ntmps111
        go_wp2_with (first
          | (go_at_call 94; refine (qLook h HCC).mono ?_; clear h; rintro x w1 ⟨rfl, HS⟩)
          | (go_at_call 117; refine (qMetSet_yes HS HN).mono ?_; clear HS; rintro x w1 ⟨rfl, HS⟩))
        go_ret
        rw [unhide HX]
        exact ⟨rfl, HS⟩
    · rw [if_neg h92] at hR
      by_cases h46 : hd l = 46
      · rw [if_pos h46] at hR
        have HCC := hide h46
        have HX := hide hR.symm
        clear h46 h92 h91 hn hR
        go_enter Tryz.func111, Tryz.ntmps111
        go_wp2_with (first
          | (go_at_call 94; refine (qLook h HCC).mono ?_; clear h; rintro x w1 ⟨rfl, HS⟩)
          | (go_at_call 95; refine (qStep HS).mono ?_; clear HS; rintro x w1 ⟨rfl, HS⟩))
        go_ret
        rw [unhide HX]
        exact ⟨rfl, HS⟩
      · rw [if_neg h46] at hR
        have HPL := hide (fun w1 (h1 : Hid (PL w0 w1 b s d l)) => qPlain h1)
        obtain ⟨c, hcc⟩ : ∃ c, hd l = c := ⟨_, rfl⟩
        have HCC := hide hcc
        rw [hcc] at h46 h92 h91 hn
        have k1 : (c == 40) = false := by simpa using hn
        have k2 : (c == 91) = false := by simpa using h91
        have k3 : (c == 92) = false := by simpa using h92
        have k4 : (c == 46) = false := by simpa using h46
        clear h46 h92 h91 hn hcc
        by_cases hbad : hd l < 0 ∨ isMark (hd l) = true
        · rw [if_pos hbad] at hR HPL
          have HX : Hid (R = .error (2, plc s.size l)) := hR.symm
          clear hR hbad
          go_enter Tryz.func111, Tryz.ntmps111
          go_wp2_with (first
            | (go_at_call 94; refine (qLook h HCC).mono ?_; clear h; rintro x w1 ⟨rfl, HS⟩)
            | (go_at_call 119; refine (unhide HPL _ HS).mono ?_; rintro x w1 ⟨rfl, HU⟩))
          rw [unhide HX]
          exact ⟨rfl, rfl, HU⟩
        · rw [if_neg hbad] at hR HPL
          have HX := hide hR.symm
          have HPL2 := hide (fun w1 (h1 : Hid (PL w0 w1 b s d l)) => out_unit (unhide HPL w1 h1) (hide rfl))
          clear hR hbad HPL
          go_enter Tryz.func111, Tryz.ntmps111
          go_wp2_with (first
            | (go_at_call 94; refine (qLook h HCC).mono ?_; clear h; rintro x w1 ⟨rfl, HS⟩)
            | (go_at_call 119; refine (unhide HPL2 _ HS).mono ?_; clear HS; rintro x w1 ⟨rfl, HS⟩))
          go_ret
          rw [unhide HX]
          exact ⟨rfl, HS⟩

theorem PL.c2 (h : Hid (PL w0 w b s d l)) : w.cell? ⟨b, 2, none⟩ = some (.int .i64 d) := by
  obtain ⟨p, h1, rfl⟩ := unhide h
  exact h1.c2
theorem PL.f2 (h : Hid (PL w0 w b s d l)) : w.frozen? ⟨b, 2, none⟩ = false := by
  obtain ⟨p, h1, rfl⟩ := unhide h
  exact h1.fz 2
theorem PL.setDepth (h : Hid (PL w0 w b s d l)) (d' : Int) : Hid (PL w0 (w.setCell ⟨b, 2, none⟩ (.int .i64 d')) b s d' l) := by
  obtain ⟨p, h1, rfl⟩ := unhide h
  exact PL.of (PS.setDepth h1 d')

set_option maxRecDepth 100000 in
set_option maxHeartbeats 4000000 in
theorem qGroup_deep (h : Hid (PL w0 w b s 8 l)) :
    Calls Tryz.prog 115 #[.pointer (some ⟨b, 0, none⟩)] w (QOut (bad 4 s.size l) vInt w0 b s d) := by
  have q2 := PL.c2 h
  go_enter Tryz.func115, Tryz.ntmps115
  go_wp2_with (first
    | (go_at_call 84; refine (qRefuse h 4).mono ?_; rintro x w2 ⟨rfl, HU⟩))
  exact ⟨rfl, rfl, HU⟩

set_option maxRecDepth 100000 in
set_option maxHeartbeats 8000000 in
theorem qGroup {sub : List Sy → Res Int} (HA : Hid (PartC 54 sub w0 b s (d + 1))) (hd0 : 0 ≤ d) (hd8 : d < 8) (h : Hid (PL w0 w b s d l)) (h40 : Hid (hd l = 40)) :
    Calls Tryz.prog 115 #[.pointer (some ⟨b, 0, none⟩)] w (QOut (match sub l.tail with
      | .error x => .error x
      | .ok (z, l1) => if hd l1 = 41 then .ok (z, l1.tail) else bad 2 s.size l1) vInt w0 b s d) := by
  have q2 := PL.c2 h
  have k8 : (d == 8) = false := by simp; omega
  cases hi : sub l.tail with
  | error y =>
    have HI := hide hi
    clear hi
    go_enter Tryz.func115, Tryz.ntmps115
    go_wp2_with (first
      | (go_at_call 55; refine (qTake_yes h 40 h40).mono ?_; clear h q2; rintro x w2 ⟨rfl, HS⟩; have q2 := PL.c2 HS; have f2 := PL.f2 HS)
      | (go_at_call 54; refine (out_err (unhide HA _ _ (PL.setDepth HS (d + 1))) HI).mono ?_; rintro x w3 ⟨rfl, HU⟩))
    exact ⟨rfl, rfl, HU⟩
  | ok y =>
    obtain ⟨z, l1⟩ := y
    have HI := hide hi
    clear hi
    dsimp only
    by_cases h41 : hd l1 = 41
    · rw [if_pos h41]
      have H41 := hide h41
      clear h41
      go_enter Tryz.func115, Tryz.ntmps115
      go_wp2_with (first
        | (go_at_call 55; refine (qTake_yes h 40 h40).mono ?_; clear h q2; rintro x w2 ⟨rfl, HS⟩; have q2 := PL.c2 HS; have f2 := PL.f2 HS)
        | (go_at_call 54; refine (out_int (unhide HA _ _ (PL.setDepth HS (d + 1))) HI).mono ?_; clear q2 f2 HS; rintro x w3 ⟨rfl, HS⟩; have q2 := PL.c2 HS; have f2 := PL.f2 HS)
        | (go_at_call 55; refine (qTake_yes (by have := PL.setDepth HS d; exact this) 41 H41).mono ?_; clear HS q2 f2; rintro x w2 ⟨rfl, HS⟩))
      go_ret
      exact ⟨rfl, HS⟩
    · rw [if_neg h41]
      have H41 := hide h41
      clear h41
      go_enter Tryz.func115, Tryz.ntmps115
      go_wp2_with (first
        | (go_at_call 55; refine (qTake_yes h 40 h40).mono ?_; clear h q2; rintro x w2 ⟨rfl, HS⟩; have q2 := PL.c2 HS; have f2 := PL.f2 HS)
        | (go_at_call 54; refine (out_int (unhide HA _ _ (PL.setDepth HS (d + 1))) HI).mono ?_; clear q2 f2 HS; rintro x w3 ⟨rfl, HS⟩; have q2 := PL.c2 HS; have f2 := PL.f2 HS)
        | (go_at_call 55; refine (qTake_no (by have := PL.setDepth HS d; exact this) 41 H41).mono ?_; clear HS q2 f2; rintro x w2 ⟨rfl, HU⟩))
      exact ⟨rfl, rfl, HU⟩
end
end Go.Proofs.YthopgbacdmgfgaaGreatDoor
