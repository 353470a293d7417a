import Derived.Test.YthopgbacdmgfgaaGreatDoorProC
import Derived.WalkKit
import Derived.WalkSpells
import Derived.WalkLawsBesides
namespace Go.Proofs.YthopgbacdmgfgaaGreatDoor
open Go.RowKit

theorem pos1_max {m : Int} (h : 0 ≤ m) : pos1 m = max m 1 := by unfold pos1; split <;> omega
theorem numV_ge' (l : List Sy) (h : isDig (hd l) = true) : 0 ≤ (numV l).1 := by
  simp only [isDig, decide_eq_true_eq] at h
  unfold numV
  split
  · rename_i h2
    simp only [isDig, decide_eq_true_eq] at h2
    dsimp only; omega
  · dsimp only; omega
theorem numberS_b {n : Nat} {least a : Int} {l l1 : List Sy} (h : numberS n least l = .ok (a, l1)) : 0 ≤ a ∧ a ≤ 12 := by
  unfold numberS at h
  split at h
  · rename_i hd
    split at h
    · cases h
    · rename_i h2
      have e : numV l = (a, l1) := by injection h
      have := numV_ge' l hd
      rw [e] at h2 this
      dsimp only at h2 this
      omega
  · cases h

section
variable {w0 w : World} {b : Nat} {s : ByteArray} {p : Nat} {d : Int}

theorem pNum_err (h : Hid (PS w0 w b s p d)) (a : Int) {l : List Sy} {y : Int × Int} (hl : Hid (symsFrom s p = l)) (hn : Hid (numberS s.size a l = .error y)) :
    Calls Tryz.prog 129 #[.pointer (some ⟨b, 0, none⟩), .int .i64 a] w fun x w' => x = Pan y.1 y.2 ∧ Hid (Up b w0 w') := by
  have := pNumber h a
  rw [unhide hl, unhide hn] at this
  exact this
theorem pNum_ok (h : Hid (PS w0 w b s p d)) (a : Int) {l l2 : List Sy} {m : Int} (hl : Hid (symsFrom s p = l)) (hn : Hid (numberS s.size a l = .ok (m, l2))) :
    Calls Tryz.prog 129 #[.pointer (some ⟨b, 0, none⟩), .int .i64 a] w fun x w' => x = .returned (.int .i64 m) ∧ ∃ p', Hid (PS w0 w' b s p' d) ∧ Hid (symsFrom s p' = l2) := by
  have := pNumber h a
  rw [unhide hl, unhide hn] at this
  exact this

set_option maxRecDepth 100000 in
set_option maxHeartbeats 8000000 in
theorem pBounds (h : Hid (PS w0 w b s p d)) :
    Calls Tryz.prog 121 #[.pointer (some ⟨b, 0, none⟩)] w (POut (boundsS s.size (symsFrom s p)) vInt w0 b s d) := by
  obtain ⟨R, hR⟩ : ∃ R, boundsS s.size (symsFrom s p) = R := ⟨_, rfl⟩
  rw [hR]
  have HR := hide hR
  clear hR
  cases hn : numberS s.size 0 (symsFrom s p) with
  | error y =>
    have HX : Hid (R = .error y) := by show _ = _; rw [← unhide HR, boundsS, hn]
    have HN1 := hide (pNum_err h 0 (hide rfl) (hide hn))
    clear h
    clear hn HR
    go_enter Tryz.func121, Tryz.ntmps121
    go_wp2_with (first
      | (go_at_call 129; refine (unhide HN1).mono ?_; rintro x w1 ⟨rfl, HU⟩))
    rw [unhide HX]
    exact ⟨rfl, rfl, HU⟩
  | ok y =>
    obtain ⟨a, l1⟩ := y
    obtain ⟨ha0, ha12⟩ := numberS_b hn
    have HB : Hid (R = if hd l1 = 44 then (if hd l1.tail = 125 then .ok (a + 1, l1.tail.tail) else match numberS s.size a l1.tail with | .error x => .error x | .ok (m, l2) => closeS s.size (pos1 m) l2) else closeS s.size (pos1 a) l1) := by
      show _ = _
      rw [← unhide HR, boundsS, hn]; rfl
    have HN1 := hide (pNum_ok h 0 (hide rfl) (hide hn))
    clear h
    clear hn HR
    by_cases hcm : hd l1 = 44
    · have HCM := hide hcm
      rw [if_pos hcm] at HB
      by_cases hcl : hd l1.tail = 125
      · have HX := hide ((unhide HB).trans (if_pos hcl))
        have HCL := hide hcl
        clear hcl hcm HB
        go_enter Tryz.func121, Tryz.ntmps121
        go_wp2_with (first
          | (go_at_call 129; refine (unhide HN1).mono ?_; clear HN1; rintro x w1 ⟨rfl, p1, HS, HY1⟩)
          | (go_at_call 82; have HCM1 := HCM; clear HCM; refine (pMet_yes HS 44 (by show hd (symsFrom s p1) = 44; rw [unhide HY1]; exact unhide HCM1)).mono ?_; clear HS; rintro x w2 ⟨rfl, p2, HS, HY2'⟩; have HY2 : Hid (symsFrom s p2 = l1.tail) := (by show _ = _; rw [unhide HY2', unhide HY1]))
          | (go_at_call 82; refine (pMet_yes HS 125 (by show hd (symsFrom s p2) = 125; rw [unhide HY2]; exact unhide HCL)).mono ?_; clear HS; rintro x w3 ⟨rfl, p3, HS, HY3'⟩; have HY3 : Hid (symsFrom s p3 = l1.tail.tail) := (by show _ = _; rw [unhide HY3', unhide HY2])))
        go_ret
        rw [unhide HX]
        exact ⟨rfl, p3, HS, HY3⟩
      · rw [if_neg hcl] at HB
        have HCL := hide hcl
        clear hcl hcm
        cases hn2 : numberS s.size a l1.tail with
        | error y =>
          have HN2 := hide hn2
          rw [hn2] at HB
          have HX : Hid (R = .error y) := HB
          clear hn2
          go_enter Tryz.func121, Tryz.ntmps121
          go_wp2_with (first
            | (go_at_call 129; refine (unhide HN1).mono ?_; clear HN1; rintro x w1 ⟨rfl, p1, HS, HY1⟩)
            | (go_at_call 82; have HCM1 := HCM; clear HCM; refine (pMet_yes HS 44 (by show hd (symsFrom s p1) = 44; rw [unhide HY1]; exact unhide HCM1)).mono ?_; clear HS; rintro x w2 ⟨rfl, p2, HS, HY2'⟩; have HY2 : Hid (symsFrom s p2 = l1.tail) := (by show _ = _; rw [unhide HY2', unhide HY1]))
            | (go_at_call 82; refine (pMet_no HS 125 (by show ¬ hd (symsFrom s p2) = 125; rw [unhide HY2]; exact unhide HCL)).mono ?_; clear HS; rintro x w3 ⟨rfl, HS⟩)
            | (go_at_call 129; refine (pNum_err HS a HY2 HN2).mono ?_; rintro x w4 ⟨rfl, HU⟩))
          rw [unhide HX]
          exact ⟨rfl, rfl, HU⟩
        | ok y =>
          obtain ⟨m, l2⟩ := y
          obtain ⟨hm0, hm12⟩ := numberS_b hn2
          have HN2 := hide hn2
          rw [hn2] at HB
          have HB2 : Hid (R = closeS s.size (pos1 m) l2) := HB
          clear hn2 HB
          by_cases hcl2 : hd l2 = 125
          · have HX : Hid (R = .ok (max m 1, l2.tail)) := by show _ = _; rw [unhide HB2, closeS, if_pos hcl2, pos1_max (by omega)]
            have HCL2 := hide hcl2
            clear hcl2 HB2
            go_enter Tryz.func121, Tryz.ntmps121
            go_wp2_with (first
              | (go_at_call 129; refine (unhide HN1).mono ?_; clear HN1; rintro x w1 ⟨rfl, p1, HS, HY1⟩)
              | (go_at_call 82; have HCM1 := HCM; clear HCM; refine (pMet_yes HS 44 (by show hd (symsFrom s p1) = 44; rw [unhide HY1]; exact unhide HCM1)).mono ?_; clear HS; rintro x w2 ⟨rfl, p2, HS, HY2'⟩; have HY2 : Hid (symsFrom s p2 = l1.tail) := (by show _ = _; rw [unhide HY2', unhide HY1]))
              | (go_at_call 82; refine (pMet_no HS 125 (by show ¬ hd (symsFrom s p2) = 125; rw [unhide HY2]; exact unhide HCL)).mono ?_; clear HS; rintro x w3 ⟨rfl, HS⟩)
              | (go_at_call 129; refine (pNum_ok HS a HY2 HN2).mono ?_; clear HS; rintro x w4 ⟨rfl, p4, HS, HY4⟩)
              | (go_at_call 55; refine (pTake_yes HS 125 (by show hd (symsFrom s p4) = 125; rw [unhide HY4]; exact unhide HCL2)).mono ?_; rintro x w5 ⟨rfl, p5, HS5, HY5⟩))
            go_ret
            rw [unhide HX]
            exact ⟨rfl, p5, HS5, by show _ = _; rw [unhide HY5, unhide HY4]⟩
          · have HX : Hid (R = .error (2, plc s.size l2)) := by show _ = _; rw [unhide HB2, closeS, if_neg hcl2]; rfl
            have HCL2 := hide hcl2
            clear hcl2 HB2
            go_enter Tryz.func121, Tryz.ntmps121
            go_wp2_with (first
              | (go_at_call 129; refine (unhide HN1).mono ?_; clear HN1; rintro x w1 ⟨rfl, p1, HS, HY1⟩)
              | (go_at_call 82; have HCM1 := HCM; clear HCM; refine (pMet_yes HS 44 (by show hd (symsFrom s p1) = 44; rw [unhide HY1]; exact unhide HCM1)).mono ?_; clear HS; rintro x w2 ⟨rfl, p2, HS, HY2'⟩; have HY2 : Hid (symsFrom s p2 = l1.tail) := (by show _ = _; rw [unhide HY2', unhide HY1]))
              | (go_at_call 82; refine (pMet_no HS 125 (by show ¬ hd (symsFrom s p2) = 125; rw [unhide HY2]; exact unhide HCL)).mono ?_; clear HS; rintro x w3 ⟨rfl, HS⟩)
              | (go_at_call 129; refine (pNum_ok HS a HY2 HN2).mono ?_; clear HS; rintro x w4 ⟨rfl, p4, HS, HY4⟩)
              | (go_at_call 55; refine (pTake_no HS 125 (by show ¬ hd (symsFrom s p4) = 125; rw [unhide HY4]; exact unhide HCL2)).mono ?_; rintro x w5 ⟨rfl, HU⟩))
            rw [unhide HX, ← unhide HY4, plc_syms (unhide HS).le]
            exact ⟨rfl, rfl, HU⟩
    · have HCM := hide hcm
      rw [if_neg hcm] at HB
      have HB2 := HB
      clear hcm HB
      by_cases hcl2 : hd l1 = 125
      · have HX : Hid (R = .ok (max a 1, l1.tail)) := by show _ = _; rw [unhide HB2, closeS, if_pos hcl2, pos1_max (by omega)]
        have HCL2 := hide hcl2
        clear hcl2 HB2
        go_enter Tryz.func121, Tryz.ntmps121
        go_wp2_with (first
          | (go_at_call 129; refine (unhide HN1).mono ?_; clear HN1; rintro x w1 ⟨rfl, p1, HS, HY1⟩)
          | (go_at_call 82; refine (pMet_no HS 44 (by show ¬ hd (symsFrom s p1) = 44; rw [unhide HY1]; exact unhide HCM)).mono ?_; clear HS; rintro x w2 ⟨rfl, HS⟩)
          | (go_at_call 55; refine (pTake_yes HS 125 (by show hd (symsFrom s p1) = 125; rw [unhide HY1]; exact unhide HCL2)).mono ?_; rintro x w5 ⟨rfl, p5, HS5, HY5⟩))
        go_ret
        rw [unhide HX]
        exact ⟨rfl, p5, HS5, by show _ = _; rw [unhide HY5, unhide HY1]⟩
      · have HX : Hid (R = .error (2, plc s.size l1)) := by show _ = _; rw [unhide HB2, closeS, if_neg hcl2]; rfl
        have HCL2 := hide hcl2
        clear hcl2 HB2
        go_enter Tryz.func121, Tryz.ntmps121
        go_wp2_with (first
          | (go_at_call 129; refine (unhide HN1).mono ?_; clear HN1; rintro x w1 ⟨rfl, p1, HS, HY1⟩)
          | (go_at_call 82; refine (pMet_no HS 44 (by show ¬ hd (symsFrom s p1) = 44; rw [unhide HY1]; exact unhide HCM)).mono ?_; clear HS; rintro x w2 ⟨rfl, HS⟩)
          | (go_at_call 55; refine (pTake_no HS 125 (by show ¬ hd (symsFrom s p1) = 125; rw [unhide HY1]; exact unhide HCL2)).mono ?_; rintro x w5 ⟨rfl, HU⟩))
        rw [unhide HX, ← unhide HY1, plc_syms (unhide HS).le]
        exact ⟨rfl, rfl, HU⟩

end
end Go.Proofs.YthopgbacdmgfgaaGreatDoor
