import Derived.Test.YtfolanohokflkaaGreatDoorNdB
import Derived.WalkKit
import Derived.WalkSpells
import Derived.WalkLawsBesides
import Derived.WalkMore
namespace Go.Proofs.YtfolanohokflkaaGreatDoor
open Go.RowKit

theorem pos1_max {m : Int} (h : 0 ≤ m) : pos1 m = max m 1 := by unfold pos1; split <;> omega
theorem numV_ge' (l : List Sy) (h : isDig (hd l) = true) : 0 ≤ (numV l).1 := by
  simp only [isDig, decide_eq_true_eq] at h
  unfold numV
  split
  · rename_i h2
    simp only [isDig, decide_eq_true_eq] at h2
    dsimp only; omega
  · dsimp only; omega
theorem numberS_b {n : Nat} {least a : Int} {l l1 : List Sy} (h : numberS n least l = .ok (a, l1)) : 0 ≤ a ∧ a ≤ 12 := by
  unfold numberS at h
  split at h
  · rename_i hd
    split at h
    · cases h
    · rename_i h2
      have e : numV l = (a, l1) := by injection h
      have := numV_ge' l hd
      rw [e] at h2 this
      dsimp only at h2 this
      omega
  · cases h

/-! a result of three cells in a block of the call's own -/
def Res3 (w : World) (rb : Nat) : Prop := ∀ j, j < 3 → (∃ u : Int, w.cell? ⟨rb, j, none⟩ = some (.int .i64 u)) ∧ w.frozen? ⟨rb, j, none⟩ = false
theorem Res3.of {W : World} {rb : Nat} {t : TypeId} (h : W.heap[rb]? = some (.cells #[.int .i64 0, .int .i64 0, .int .i64 0] t (0, 0))) : Res3 W rb := by
  intro j hj
  refine ⟨⟨0, ?_⟩, by simp [World.frozen?, h]⟩
  have : j = 0 ∨ j = 1 ∨ j = 2 := by omega
  rcases this with rfl | rfl | rfl <;> simp [World.cell?, h]
theorem Res3.new (w : World) (t : TypeId) : Res3 (w.alloc (.cells #[.int .i64 0, .int .i64 0, .int .i64 0] t)) w.heap.size := Res3.of (heap_alloc_new w _)
theorem Res3.up {w w' : World} {rb b : Nat} (h : Hid (Res3 w rb)) (hu : Up b w w') (hb : rb ≠ b) : Res3 w' rb := by
  intro j hj
  obtain ⟨⟨u, hc⟩, hf⟩ := unhide h j hj
  exact ⟨⟨u, up_cell hu hb hc⟩, up_frozen hu hb (World.block_lt_of_cell? w _ hc) hf⟩
theorem res3_cells {W : World} {rb : Nat} {v0 v1 v2 : Value} (u0 u1 u2 : Value) (c0 : W.cell? ⟨rb, 0, none⟩ = some v0) (c1 : W.cell? ⟨rb, 1, none⟩ = some v1) (c2 : W.cell? ⟨rb, 2, none⟩ = some v2) :
    (((W.setCell ⟨rb, 0, none⟩ u0).setCell ⟨rb, 1, none⟩ u1).setCell ⟨rb, 2, none⟩ u2).cell? ⟨rb, 0, none⟩ = some u0 ∧ (((W.setCell ⟨rb, 0, none⟩ u0).setCell ⟨rb, 1, none⟩ u1).setCell ⟨rb, 2, none⟩ u2).cell? ⟨rb, 1, none⟩ = some u1 ∧ (((W.setCell ⟨rb, 0, none⟩ u0).setCell ⟨rb, 1, none⟩ u1).setCell ⟨rb, 2, none⟩ u2).cell? ⟨rb, 2, none⟩ = some u2 := by
  have d0 : (W.setCell ⟨rb, 0, none⟩ u0).cell? ⟨rb, 0, none⟩ = some u0 := World.cell?_setCell_same _ _ _ c0
  have d1 : (W.setCell ⟨rb, 0, none⟩ u0).cell? ⟨rb, 1, none⟩ = some v1 := pcs_other c1 (by decide)
  have d2 : (W.setCell ⟨rb, 0, none⟩ u0).cell? ⟨rb, 2, none⟩ = some v2 := pcs_other c2 (by decide)
  have e0 := pcs_other (k := 1) (u := u1) d0 (by decide)
  have e1 : ((W.setCell ⟨rb, 0, none⟩ u0).setCell ⟨rb, 1, none⟩ u1).cell? ⟨rb, 1, none⟩ = some u1 := World.cell?_setCell_same _ _ _ d1
  have e2 := pcs_other (k := 1) (u := u1) d2 (by decide)
  exact ⟨pcs_other e0 (by decide), pcs_other e1 (by decide), World.cell?_setCell_same _ _ _ e2⟩
section
variable {w0 w : World} {b : Nat} {s : ByteArray} {d : Int} {l : List Sy}
theorem up_alloc (w : World) (o : Obj) : Up b w (w.alloc o) := Up.below ((Below.refl _ w).alloc (Nat.le_refl _) o)
theorem up_entry {w' : World} {o : Obj} (h : Hid (PL w0 w b s d l)) (hu : Hid (Up b (w.alloc o) w')) : Hid (Up b w0 w') := (PL.up h).trans ((up_alloc w o).trans (unhide hu))
theorem pl_entry (h : Hid (PL w0 w b s d l)) (o : Obj) : Hid (PL (w.alloc o) (w.alloc o) b s d l) := PL.base (PL.below h ((Below.refl _ w).alloc (Nat.le_refl _) o))
theorem pl_exit3 {w' : World} {o : Obj} {l' : List Sy} (h : Hid (PL w0 w b s d l)) (h' : Hid (PL (w.alloc o) w' b s d l')) (u0 u1 u2 : Value) :
    Hid (PL w0 (((w'.setCell ⟨w.heap.size, 0, none⟩ u0).setCell ⟨w.heap.size, 1, none⟩ u1).setCell ⟨w.heap.size, 2, none⟩ u2) b s d l') := by
  have hlt := PL.lt h
  have hsz := (PL.up h).size
  have h1 := PL.join ((PL.up h).trans (up_alloc w o)) h'
  exact PL.set (PL.set (PL.set h1 hsz hlt 0 u0) hsz hlt 1 u1) hsz hlt 2 u2

set_option maxRecDepth 100000 in
set_option maxHeartbeats 8000000 in
theorem qBounds (h : Hid (PL w0 w b s d l)) :
    Calls Tryz.prog 323 #[.pointer (some ⟨b, 0, none⟩)] w (OutV (boundsP s.size l) vOften w0 b s d) := by
  have HR3 := hide (Res3.new w 63)
  have HS0 := pl_entry h (.cells #[.int .i64 0, .int .i64 0, .int .i64 0] 63)
  have hne : w.heap.size ≠ b := by have := PL.lt h; omega
  have HUE : Hid (∀ w', Hid (Up b (w.alloc (.cells #[.int .i64 0, .int .i64 0, .int .i64 0] 63)) w') → Hid (Up b w0 w')) := fun w' hu => up_entry h hu
  have HPE : Hid (∀ w' l' u0 u1 u2, Hid (PL (w.alloc (.cells #[.int .i64 0, .int .i64 0, .int .i64 0] 63)) w' b s d l') → Hid (PL w0 (((w'.setCell ⟨w.heap.size, 0, none⟩ u0).setCell ⟨w.heap.size, 1, none⟩ u1).setCell ⟨w.heap.size, 2, none⟩ u2) b s d l')) := fun w' l' u0 u1 u2 h' => pl_exit3 h h' u0 u1 u2
  obtain ⟨R, hR⟩ : ∃ R, boundsP s.size l = R := ⟨_, rfl⟩
  rw [hR]
  cases hn : numberS s.size 0 l with
  | error y =>
    have HX : Hid (R = .error y) := by show _ = _; rw [← hR, boundsP, hn]
    have HN1 := hide hn
    clear hn hR h
    go_enter Tryz.func323, Tryz.ntmps323
    go_wp2_with (go_at_call 335; refine (outV_err (qNumber HS0 0) HN1).mono ?_; rintro x w1 ⟨rfl, HU⟩)
    rw [unhide HX]
    exact ⟨rfl, rfl, unhide HUE _ HU⟩
  | ok y =>
    obtain ⟨a, l1⟩ := y
    obtain ⟨ha0, ha12⟩ := numberS_b hn
    have hea : ((a.toNat : Nat) : Int) = a := by omega
    have HN1 := hide hn
    have hR2 : R = if hd l1 = 44 then (if hd l1.tail = 125 then .ok ((a.toNat, none, a + 1), l1.tail.tail) else match numberS s.size a l1.tail with | .error x => .error x | .ok (m, l2) => closeP s.size (a.toNat, some m.toNat, pos1 m) l2) else closeP s.size (a.toNat, some a.toNat, pos1 a) l1 := by
      rw [← hR, boundsP, hn]; rfl
    clear hn hR h
    by_cases hcm : hd l1 = 44
    · have HCM := hide hcm
      rw [if_pos hcm] at hR2
      by_cases hcl : hd l1.tail = 125
      · have HX := hide (hR2.trans (if_pos hcl))
        have HCL := hide hcl
        clear hcl hcm hR2
        go_enter Tryz.func323, Tryz.ntmps323
        go_wp2_with (first
          | (go_at_call 335; refine (outV_ok (qNumber HS0 0) HN1).mono ?_; clear HS0 HN1; rintro x w1 ⟨rfl, HS⟩)
          | (go_at_call 219; have HCM1 := HCM; clear HCM; refine (qMet_yes HS 44 HCM1).mono ?_; clear HS; rintro x w2 ⟨rfl, HS⟩)
          | (go_at_call 219; refine (qMet_yes HS 125 HCL).mono ?_; clear HS; rintro x w3 ⟨rfl, HS⟩; have H3 := Res3.up HR3 (PL.up HS) hne; obtain ⟨⟨z0, c0⟩, f0⟩ := H3 0 (by omega); obtain ⟨⟨z1, c1⟩, f1⟩ := H3 1 (by omega); obtain ⟨⟨z2, c2⟩, f2⟩ := H3 2 (by omega); clear H3))
        obtain ⟨k0, k1, k2⟩ := res3_cells (.int .i64 a) (.int .i64 (-1)) (.int .i64 (a + 1)) c0 c1 c2
        refine bodyPost_ret (v := vOften (a.toNat, none, a + 1)) (by simp [results, Tryz.results323, go_sem, k0, k1, k2, vOften, mostV, hea]) rfl ?_
        rw [unhide HX]
        exact ⟨rfl, unhide HPE _ _ _ _ _ HS⟩
      · rw [if_neg hcl] at hR2
        have HCL := hide hcl
        clear hcl hcm
        cases hn2 : numberS s.size a l1.tail with
        | error y =>
          rw [hn2] at hR2
          have HX : Hid (R = .error y) := hR2
          have HN2 := hide hn2
          clear hn2 hR2
          go_enter Tryz.func323, Tryz.ntmps323
          go_wp2_with (first
            | (go_at_call 335; refine (outV_ok (qNumber HS0 0) HN1).mono ?_; clear HS0 HN1; rintro x w1 ⟨rfl, HS⟩)
            | (go_at_call 219; have HCM1 := HCM; clear HCM; refine (qMet_yes HS 44 HCM1).mono ?_; clear HS; rintro x w2 ⟨rfl, HS⟩)
            | (go_at_call 219; refine (qMet_no HS 125 HCL).mono ?_; clear HS; rintro x w3 ⟨rfl, HS⟩)
            | (go_at_call 335; refine (outV_err (qNumber HS a) HN2).mono ?_; rintro x w4 ⟨rfl, HU⟩))
          rw [unhide HX]
          exact ⟨rfl, rfl, unhide HUE _ HU⟩
        | ok y =>
          obtain ⟨m, l2⟩ := y
          obtain ⟨hm0, hm12⟩ := numberS_b hn2
          have hem : ((m.toNat : Nat) : Int) = m := by omega
          rw [hn2] at hR2
          have hR3 : R = closeP s.size (a.toNat, some m.toNat, pos1 m) l2 := hR2
          have HN2 := hide hn2
          clear hn2 hR2
          by_cases hcl2 : hd l2 = 125
          · have HX : Hid (R = .ok ((a.toNat, some m.toNat, max m 1), l2.tail)) := by show _ = _; rw [hR3, closeP, if_pos hcl2, pos1_max hm0]
            have HCL2 := hide hcl2
            clear hcl2 hR3
            go_enter Tryz.func323, Tryz.ntmps323
            go_wp2_with (first
              | (go_at_call 335; refine (outV_ok (qNumber HS0 0) HN1).mono ?_; clear HS0 HN1; rintro x w1 ⟨rfl, HS⟩)
              | (go_at_call 219; have HCM1 := HCM; clear HCM; refine (qMet_yes HS 44 HCM1).mono ?_; clear HS; rintro x w2 ⟨rfl, HS⟩)
              | (go_at_call 219; refine (qMet_no HS 125 HCL).mono ?_; clear HS; rintro x w3 ⟨rfl, HS⟩)
              | (go_at_call 335; refine (outV_ok (qNumber HS a) HN2).mono ?_; clear HS; rintro x w4 ⟨rfl, HS⟩)
              | (go_at_call 148; refine (qTake_yes HS 125 HCL2).mono ?_; clear HS; rintro x w5 ⟨rfl, HS⟩; have H3 := Res3.up HR3 (PL.up HS) hne; obtain ⟨⟨z0, c0⟩, f0⟩ := H3 0 (by omega); obtain ⟨⟨z1, c1⟩, f1⟩ := H3 1 (by omega); obtain ⟨⟨z2, c2⟩, f2⟩ := H3 2 (by omega); clear H3))
            obtain ⟨k0, k1, k2⟩ := res3_cells (.int .i64 a) (.int .i64 m) (.int .i64 (max m 1)) c0 c1 c2
            refine bodyPost_ret (v := vOften (a.toNat, some m.toNat, max m 1)) (by simp [results, Tryz.results323, go_sem, k0, k1, k2, vOften, mostV, hea, hem]) rfl ?_
            rw [unhide HX]
            exact ⟨rfl, unhide HPE _ _ _ _ _ HS⟩
          · have HX : Hid (R = .error (2, plc s.size l2)) := by show _ = _; rw [hR3, closeP, if_neg hcl2]; rfl
            have HCL2 := hide hcl2
            clear hcl2 hR3
            go_enter Tryz.func323, Tryz.ntmps323
            go_wp2_with (first
              | (go_at_call 335; refine (outV_ok (qNumber HS0 0) HN1).mono ?_; clear HS0 HN1; rintro x w1 ⟨rfl, HS⟩)
              | (go_at_call 219; have HCM1 := HCM; clear HCM; refine (qMet_yes HS 44 HCM1).mono ?_; clear HS; rintro x w2 ⟨rfl, HS⟩)
              | (go_at_call 219; refine (qMet_no HS 125 HCL).mono ?_; clear HS; rintro x w3 ⟨rfl, HS⟩)
              | (go_at_call 335; refine (outV_ok (qNumber HS a) HN2).mono ?_; clear HS; rintro x w4 ⟨rfl, HS⟩)
              | (go_at_call 148; refine (qTake_no HS 125 HCL2).mono ?_; rintro x w5 ⟨rfl, HU⟩))
            rw [unhide HX]
            exact ⟨rfl, rfl, unhide HUE _ HU⟩
    · rw [if_neg hcm] at hR2
      have HCM := hide hcm
      clear hcm
      by_cases hcl2 : hd l1 = 125
      · have HX : Hid (R = .ok ((a.toNat, some a.toNat, max a 1), l1.tail)) := by show _ = _; rw [hR2, closeP, if_pos hcl2, pos1_max ha0]
        have HCL2 := hide hcl2
        clear hcl2 hR2
        go_enter Tryz.func323, Tryz.ntmps323
        go_wp2_with (first
          | (go_at_call 335; refine (outV_ok (qNumber HS0 0) HN1).mono ?_; clear HS0 HN1; rintro x w1 ⟨rfl, HS⟩)
          | (go_at_call 219; refine (qMet_no HS 44 HCM).mono ?_; clear HS; rintro x w2 ⟨rfl, HS⟩)
          | (go_at_call 148; refine (qTake_yes HS 125 HCL2).mono ?_; clear HS; rintro x w5 ⟨rfl, HS⟩; have H3 := Res3.up HR3 (PL.up HS) hne; obtain ⟨⟨z0, c0⟩, f0⟩ := H3 0 (by omega); obtain ⟨⟨z1, c1⟩, f1⟩ := H3 1 (by omega); obtain ⟨⟨z2, c2⟩, f2⟩ := H3 2 (by omega); clear H3))
        obtain ⟨k0, k1, k2⟩ := res3_cells (.int .i64 a) (.int .i64 a) (.int .i64 (max a 1)) c0 c1 c2
        refine bodyPost_ret (v := vOften (a.toNat, some a.toNat, max a 1)) (by simp [results, Tryz.results323, go_sem, k0, k1, k2, vOften, mostV, hea]) rfl ?_
        rw [unhide HX]
        exact ⟨rfl, unhide HPE _ _ _ _ _ HS⟩
      · have HX : Hid (R = .error (2, plc s.size l1)) := by show _ = _; rw [hR2, closeP, if_neg hcl2]; rfl
        have HCL2 := hide hcl2
        clear hcl2 hR2
        go_enter Tryz.func323, Tryz.ntmps323
        go_wp2_with (first
          | (go_at_call 335; refine (outV_ok (qNumber HS0 0) HN1).mono ?_; clear HS0 HN1; rintro x w1 ⟨rfl, HS⟩)
          | (go_at_call 219; refine (qMet_no HS 44 HCM).mono ?_; clear HS; rintro x w2 ⟨rfl, HS⟩)
          | (go_at_call 148; refine (qTake_no HS 125 HCL2).mono ?_; rintro x w5 ⟨rfl, HU⟩))
        rw [unhide HX]
        exact ⟨rfl, rfl, unhide HUE _ HU⟩
end
end Go.Proofs.YtfolanohokflkaaGreatDoor

namespace Go.Proofs.YtfolanohokflkaaGreatDoor
open Go.RowKit
section
variable {w0 w : World} {b : Nat} {s : ByteArray} {d : Int} {l : List Sy}
set_option maxRecDepth 100000 in
set_option maxHeartbeats 8000000 in
theorem qRepeat (h : Hid (PL w0 w b s d l)) (hrp : isRep (hd l) = true) :
    Calls Tryz.prog 306 #[.pointer (some ⟨b, 0, none⟩)] w (OutV (repeatP s.size l) vOften w0 b s d) := by
  have HR3 := hide (Res3.new w 63)
  have HS0 := pl_entry h (.cells #[.int .i64 0, .int .i64 0, .int .i64 0] 63)
  have hne : w.heap.size ≠ b := by have := PL.lt h; omega
  have HUE : Hid (∀ w', Hid (Up b (w.alloc (.cells #[.int .i64 0, .int .i64 0, .int .i64 0] 63)) w') → Hid (Up b w0 w')) := fun w' hu => up_entry h hu
  have HPE : Hid (∀ w' l' u0 u1 u2, Hid (PL (w.alloc (.cells #[.int .i64 0, .int .i64 0, .int .i64 0] 63)) w' b s d l') → Hid (PL w0 (((w'.setCell ⟨w.heap.size, 0, none⟩ u0).setCell ⟨w.heap.size, 1, none⟩ u1).setCell ⟨w.heap.size, 2, none⟩ u2) b s d l')) := fun w' l' u0 u1 u2 h' => pl_exit3 h h' u0 u1 u2
  obtain ⟨R, hR⟩ : ∃ R, repeatP s.size l = R := ⟨_, rfl⟩
  rw [hR]
  unfold repeatP at hR
  simp only [isRep, decide_eq_true_eq] at hrp
  clear h
  by_cases h42 : hd l = 42
  · rw [if_neg (by omega), if_pos h42] at hR
    have HX := hide hR.symm
    have HC42 := hide h42
    clear h42 hR hrp
    go_enter Tryz.func306, Tryz.ntmps306
    go_wp2_with (first
      | (go_at_call 219; have HQ := HC42; clear HC42; refine (qMet_yes HS0 42 HQ).mono ?_; clear HS0; rintro x w42 ⟨rfl, HS⟩; have H3 := Res3.up HR3 (PL.up HS) hne; obtain ⟨⟨z0, c0⟩, f0⟩ := H3 0 (by omega); obtain ⟨⟨z1, c1⟩, f1⟩ := H3 1 (by omega); obtain ⟨⟨z2, c2⟩, f2⟩ := H3 2 (by omega); clear H3))
    obtain ⟨k0, k1, k2⟩ := res3_cells (.int .i64 0) (.int .i64 (-1)) (.int .i64 2) c0 c1 c2
    refine bodyPost_ret (v := vOften (0, none, 2)) (by simp [results, Tryz.results306, go_sem, k0, k1, k2, vOften, mostV]) rfl ?_
    rw [unhide HX]
    exact ⟨rfl, unhide HPE _ _ _ _ _ HS⟩
  by_cases h43 : hd l = 43
  · rw [if_neg (by omega), if_neg h42, if_pos h43] at hR
    have HX := hide hR.symm
    have HC42 := hide h42
    have HC43 := hide h43
    clear h42 h43 hR hrp
    go_enter Tryz.func306, Tryz.ntmps306
    go_wp2_with (first
      | (go_at_call 219; have HQ := HC42; clear HC42; refine (qMet_no HS0 42 HQ).mono ?_; clear HS0; rintro x w42 ⟨rfl, HS⟩)
      | (go_at_call 219; have HQ := HC43; clear HC43; refine (qMet_yes HS 43 HQ).mono ?_; clear HS; rintro x w43 ⟨rfl, HS⟩; have H3 := Res3.up HR3 (PL.up HS) hne; obtain ⟨⟨z0, c0⟩, f0⟩ := H3 0 (by omega); obtain ⟨⟨z1, c1⟩, f1⟩ := H3 1 (by omega); obtain ⟨⟨z2, c2⟩, f2⟩ := H3 2 (by omega); clear H3))
    obtain ⟨k0, k1, k2⟩ := res3_cells (.int .i64 1) (.int .i64 (-1)) (.int .i64 2) c0 c1 c2
    refine bodyPost_ret (v := vOften (1, none, 2)) (by simp [results, Tryz.results306, go_sem, k0, k1, k2, vOften, mostV]) rfl ?_
    rw [unhide HX]
    exact ⟨rfl, unhide HPE _ _ _ _ _ HS⟩
  by_cases h63 : hd l = 63
  · rw [if_neg (by omega), if_neg h42, if_neg h43] at hR
    have HX := hide hR.symm
    have HC42 := hide h42
    have HC43 := hide h43
    have HC63 := hide h63
    clear h42 h43 h63 hR hrp
    go_enter Tryz.func306, Tryz.ntmps306
    go_wp2_with (first
      | (go_at_call 219; have HQ := HC42; clear HC42; refine (qMet_no HS0 42 HQ).mono ?_; clear HS0; rintro x w42 ⟨rfl, HS⟩)
      | (go_at_call 219; have HQ := HC43; clear HC43; refine (qMet_no HS 43 HQ).mono ?_; clear HS; rintro x w43 ⟨rfl, HS⟩)
      | (go_at_call 219; have HQ := HC63; clear HC63; refine (qMet_yes HS 63 HQ).mono ?_; clear HS; rintro x w63 ⟨rfl, HS⟩; have H3 := Res3.up HR3 (PL.up HS) hne; obtain ⟨⟨z0, c0⟩, f0⟩ := H3 0 (by omega); obtain ⟨⟨z1, c1⟩, f1⟩ := H3 1 (by omega); obtain ⟨⟨z2, c2⟩, f2⟩ := H3 2 (by omega); clear H3))
    obtain ⟨k0, k1, k2⟩ := res3_cells (.int .i64 0) (.int .i64 1) (.int .i64 2) c0 c1 c2
    refine bodyPost_ret (v := vOften (0, some 1, 2)) (by simp [results, Tryz.results306, go_sem, k0, k1, k2, vOften, mostV]) rfl ?_
    rw [unhide HX]
    exact ⟨rfl, unhide HPE _ _ _ _ _ HS⟩
  have h123 : hd l = 123 := by omega
  rw [if_pos h123] at hR
  have HC42 := hide h42
  have HC43 := hide h43
  have HC63 := hide h63
  have HC123 := hide h123
  clear h42 h43 h63 h123 hrp
  cases R with
  | error y =>
    have HR := hide hR
    clear hR
    go_enter Tryz.func306, Tryz.ntmps306
    go_wp2_with (first
      | (go_at_call 219; have HQ := HC42; clear HC42; refine (qMet_no HS0 42 HQ).mono ?_; clear HS0; rintro x w42 ⟨rfl, HS⟩)
      | (go_at_call 219; have HQ := HC43; clear HC43; refine (qMet_no HS 43 HQ).mono ?_; clear HS; rintro x w43 ⟨rfl, HS⟩)
      | (go_at_call 219; have HQ := HC63; clear HC63; refine (qMet_no HS 63 HQ).mono ?_; clear HS; rintro x w63 ⟨rfl, HS⟩)
      | (go_at_call 148; refine (qTake_yes HS 123 HC123).mono ?_; clear HS; rintro x w5 ⟨rfl, HS⟩)
      | (go_at_call 323; refine (outV_err (qBounds HS) HR).mono ?_; rintro x w6 ⟨rfl, HU⟩))
    exact ⟨rfl, rfl, unhide HUE _ HU⟩
  | ok y =>
    obtain ⟨o, l1⟩ := y
    have HR := hide hR
    clear hR
    go_enter Tryz.func306, Tryz.ntmps306
    go_wp2_with (first
      | (go_at_call 219; have HQ := HC42; clear HC42; refine (qMet_no HS0 42 HQ).mono ?_; clear HS0; rintro x w42 ⟨rfl, HS⟩)
      | (go_at_call 219; have HQ := HC43; clear HC43; refine (qMet_no HS 43 HQ).mono ?_; clear HS; rintro x w43 ⟨rfl, HS⟩)
      | (go_at_call 219; have HQ := HC63; clear HC63; refine (qMet_no HS 63 HQ).mono ?_; clear HS; rintro x w63 ⟨rfl, HS⟩)
      | (go_at_call 148; refine (qTake_yes HS 123 HC123).mono ?_; clear HS; rintro x w5 ⟨rfl, HS⟩)
      | (go_at_call 323; refine (outV_ok (qBounds HS) HR).mono ?_; clear HS; simp only [vOften]; rintro x w6 ⟨rfl, HS⟩; have H3 := Res3.up HR3 (PL.up HS) hne; obtain ⟨⟨z0, c0⟩, f0⟩ := H3 0 (by omega); obtain ⟨⟨z1, c1⟩, f1⟩ := H3 1 (by omega); obtain ⟨⟨z2, c2⟩, f2⟩ := H3 2 (by omega); clear H3))
    obtain ⟨k0, k1, k2⟩ := res3_cells (.int .i64 o.1) (.int .i64 (mostV o.2.1)) (.int .i64 o.2.2) c0 c1 c2
    refine bodyPost_ret (v := vOften o) (by simp [results, Tryz.results306, go_sem, k0, k1, k2, vOften]) rfl ?_
    exact ⟨rfl, unhide HPE _ _ _ _ _ HS⟩
end
end Go.Proofs.YtfolanohokflkaaGreatDoor
