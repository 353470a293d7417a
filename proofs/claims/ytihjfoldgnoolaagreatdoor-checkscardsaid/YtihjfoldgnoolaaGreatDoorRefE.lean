import Derived.Test.YtihjfoldgnoolaaGreatDoorRefD
import Derived.WalkKit
import Derived.WalkSpells
import Derived.WalkLawsBesides
namespace Go.Proofs.YtihjfoldgnoolaaGreatDoor
open Go.RowKit

set_option maxRecDepth 100000 in
set_option maxHeartbeats 2000000 in
theorem refPlaced_gap (zs : List Int) (v : Value) (c : Int) (w : World) (hl : zs.length ≤ 1000000) (ho : w.ownsRow 0 3 1 v zs.length (ints zs)) (h1 : 55296 ≤ c) (h2 : c ≤ 57343) :
    Calls Tryz.prog 127 #[v, .int .i64 c] w (IntsUpTo w (zs.length + 1)) := by
  have HO := hide ho
  obtain ⟨ao, cap, rfl, hv⟩ := own_view ho
  have HV := hide hv
  clear hv ho
  go_enter Tryz.func127, Tryz.ntmps127
  go_wp2_with fail
  go_loopw [5, 6, 7] (fun m dn i wr => ∃ (k : Nat) (b : Bool), k ≤ zs.length ∧ i = .int .i64 k ∧ dn = .bool b ∧ Hid (PlacedRel w wr m k b)) (fun _ _ i _ => zs.length - (intOf i).toNat)
  case atStart => exact ⟨0, false, Nat.zero_le _, rfl, rfl, ⟨[], Nat.le_refl _, World.ownsRow_nil _ _ _ _, Below.refl _ _⟩⟩
  case round =>
    obtain ⟨k, b, hk, rfl, rfl, HR⟩ := hrel
    obtain ⟨ys, hys, hown, hbel⟩ := unhide HR
    have HW := hide hown
    have HB := hide hbel
    have hb1 : b.toNat ≤ 1 := by cases b <;> simp
    by_cases hlt : k < zs.length
    · obtain ⟨g, rfl, -, hg, hc, -⟩ := unhide HV (by omega)
      have h1 := hc k (by omega)
      rw [ints_at zs k hlt, ← hbel.cell (p := ⟨g, k, none⟩) hg] at h1
      clear hc HV hown hbel HR
      generalize zs.getD k 0 = z at h1
      by_cases he : z = (57344 : Int)
      · have he' : (z == (57344 : Int)) = true := by simp [he]
        clear he
        go_wp2_with fail
        go_ret
        exact ⟨_, zs, rfl, own_below (unhide HO) (unhide HB) (Nat.le_refl _), by omega, unhide HB⟩
      · have he' : (z == (57344 : Int)) = false := by simp [he]
        clear he
        by_cases hcond : (57344 : Int) < z ∧ b = false
        · obtain ⟨hgt, rfl⟩ := hcond
          simp only [Bool.toNat_false] at hys hb1
          go_wp2_with (first
            | (at_builtin; refine app_int w wr ys _ (57344 : Int) (.tmp 40) (.tmp 42) rfl rfl rfl rfl HW HB (by omega) ?_; intro v1 w1 HW1 HB1; have h1' : w1.cell? ⟨g, k, none⟩ = some (.int .i64 z) := (by rw [(unhide HB1).cell (p := ⟨g, k, none⟩) hg, ← (unhide HB).cell (p := ⟨g, k, none⟩) hg]; exact h1); have hy1 : (ys ++ [(57344 : Int)]).length ≤ k + 1 := (by simp; omega); clear h1 HW HB; generalize ys ++ [(57344 : Int)] = ys1 at HW1 hy1)
            | (at_builtin; refine app_int w w1 ys1 _ z (.tmp 44) (.tmp 49) rfl rfl rfl rfl HW1 HB1 (by omega) ?_; intro v2 w2 HW2 HB2))
          have HX := PlacedRel.mk (b := true) (k := k + 1) (by simp; omega) HW2 HB2
          clear HW1 HB1 HW2 HB2
          go_wp2_with fail
          go_roundw
          case rel => exact ⟨k + 1, true, by omega, by go_num, rfl, HX⟩
          case measure => simp [intOf]; omega
        · by_cases hgt : (57344 : Int) < z
          · obtain rfl : b = true := by cases b; exact absurd ⟨hgt, rfl⟩ hcond; rfl
            clear hcond
            simp only [Bool.toNat_true] at hys hb1
            go_wp2_with (at_builtin; refine app_int w wr ys _ z (.tmp 44) (.tmp 49) rfl rfl rfl rfl HW HB (by omega) ?_; intro v2 w2 HW2 HB2)
            have HX := PlacedRel.mk (b := true) (k := k + 1) (by simp; omega) HW2 HB2
            clear HW2 HB2 HW HB
            go_wp2_with fail
            go_roundw
            case rel => exact ⟨k + 1, true, by omega, by go_num, rfl, HX⟩
            case measure => simp [intOf]; omega
          · clear hcond
            have hgt' : decide ((57344 : Int) < z) = false := by simpa using hgt
            go_wp2_with (at_builtin; refine app_int w wr ys _ z (.tmp 44) (.tmp 49) rfl rfl rfl rfl HW HB (by omega) ?_; intro v2 w2 HW2 HB2)
            have HX := PlacedRel.mk (b := b) (k := k + 1) (by simp; omega) HW2 HB2
            clear HW2 HB2 HW HB
            go_wp2_with fail
            go_roundw
            case rel => exact ⟨k + 1, b, by omega, by go_num, rfl, HX⟩
            case measure => simp [intOf]; omega
    · clear hown hbel HR
      cases b
      · simp only [Bool.toNat_false] at hys hb1
        go_wp2_with (at_builtin; refine app_int w wr ys _ (57344 : Int) (.tmp 53) (.tmp 55) rfl rfl rfl rfl HW HB (by omega) ?_; intro v1 w1 HW1 HB1)
        have hy1 : (ys ++ [(57344 : Int)]).length ≤ zs.length + 1 := by simp; omega
        clear HW HB
        generalize ys ++ [(57344 : Int)] = ys1 at HW1 hy1
        go_wp2_with fail
        go_ret
        exact ⟨_, ys1, rfl, own_base (unhide HW1) (Nat.zero_le _), hy1, unhide HB1⟩
      · simp only [Bool.toNat_true] at hys hb1
        go_wp2_with fail
        go_ret
        exact ⟨_, ys, rfl, own_base (unhide HW) (Nat.zero_le _), by omega, unhide HB⟩

set_option maxRecDepth 100000 in
set_option maxHeartbeats 2000000 in
theorem refPlaced_lo (zs : List Int) (v : Value) (c : Int) (w : World) (hl : zs.length ≤ 1000000) (ho : w.ownsRow 0 3 1 v zs.length (ints zs)) (h1 : c < 55296) :
    Calls Tryz.prog 127 #[v, .int .i64 c] w (IntsUpTo w (zs.length + 1)) := by
  have HO := hide ho
  obtain ⟨ao, cap, rfl, hv⟩ := own_view ho
  have HV := hide hv
  clear hv ho
  go_enter Tryz.func127, Tryz.ntmps127
  go_wp2_with fail
  go_loopw [5, 6, 7] (fun m dn i wr => ∃ (k : Nat) (b : Bool), k ≤ zs.length ∧ i = .int .i64 k ∧ dn = .bool b ∧ Hid (PlacedRel w wr m k b)) (fun _ _ i _ => zs.length - (intOf i).toNat)
  case atStart => exact ⟨0, false, Nat.zero_le _, rfl, rfl, ⟨[], Nat.le_refl _, World.ownsRow_nil _ _ _ _, Below.refl _ _⟩⟩
  case round =>
    obtain ⟨k, b, hk, rfl, rfl, HR⟩ := hrel
    obtain ⟨ys, hys, hown, hbel⟩ := unhide HR
    have HW := hide hown
    have HB := hide hbel
    have hb1 : b.toNat ≤ 1 := by cases b <;> simp
    by_cases hlt : k < zs.length
    · obtain ⟨g, rfl, -, hg, hc, -⟩ := unhide HV (by omega)
      have h1 := hc k (by omega)
      rw [ints_at zs k hlt, ← hbel.cell (p := ⟨g, k, none⟩) hg] at h1
      clear hc HV hown hbel HR
      generalize zs.getD k 0 = z at h1
      by_cases he : z = c
      · have he' : (z == c) = true := by simp [he]
        clear he
        go_wp2_with fail
        go_ret
        exact ⟨_, zs, rfl, own_below (unhide HO) (unhide HB) (Nat.le_refl _), by omega, unhide HB⟩
      · have he' : (z == c) = false := by simp [he]
        clear he
        by_cases hcond : c < z ∧ b = false
        · obtain ⟨hgt, rfl⟩ := hcond
          simp only [Bool.toNat_false] at hys hb1
          go_wp2_with (first
            | (at_builtin; refine app_int w wr ys _ c (.tmp 40) (.tmp 42) rfl rfl rfl rfl HW HB (by omega) ?_; intro v1 w1 HW1 HB1; have h1' : w1.cell? ⟨g, k, none⟩ = some (.int .i64 z) := (by rw [(unhide HB1).cell (p := ⟨g, k, none⟩) hg, ← (unhide HB).cell (p := ⟨g, k, none⟩) hg]; exact h1); have hy1 : (ys ++ [c]).length ≤ k + 1 := (by simp; omega); clear h1 HW HB; generalize ys ++ [c] = ys1 at HW1 hy1)
            | (at_builtin; refine app_int w w1 ys1 _ z (.tmp 44) (.tmp 49) rfl rfl rfl rfl HW1 HB1 (by omega) ?_; intro v2 w2 HW2 HB2))
          have HX := PlacedRel.mk (b := true) (k := k + 1) (by simp; omega) HW2 HB2
          clear HW1 HB1 HW2 HB2
          go_wp2_with fail
          go_roundw
          case rel => exact ⟨k + 1, true, by omega, by go_num, rfl, HX⟩
          case measure => simp [intOf]; omega
        · by_cases hgt : c < z
          · obtain rfl : b = true := by cases b; exact absurd ⟨hgt, rfl⟩ hcond; rfl
            clear hcond
            simp only [Bool.toNat_true] at hys hb1
            go_wp2_with (at_builtin; refine app_int w wr ys _ z (.tmp 44) (.tmp 49) rfl rfl rfl rfl HW HB (by omega) ?_; intro v2 w2 HW2 HB2)
            have HX := PlacedRel.mk (b := true) (k := k + 1) (by simp; omega) HW2 HB2
            clear HW2 HB2 HW HB
            go_wp2_with fail
            go_roundw
            case rel => exact ⟨k + 1, true, by omega, by go_num, rfl, HX⟩
            case measure => simp [intOf]; omega
          · clear hcond
            have hgt' : decide (c < z) = false := by simpa using hgt
            go_wp2_with (at_builtin; refine app_int w wr ys _ z (.tmp 44) (.tmp 49) rfl rfl rfl rfl HW HB (by omega) ?_; intro v2 w2 HW2 HB2)
            have HX := PlacedRel.mk (b := b) (k := k + 1) (by simp; omega) HW2 HB2
            clear HW2 HB2 HW HB
            go_wp2_with fail
            go_roundw
            case rel => exact ⟨k + 1, b, by omega, by go_num, rfl, HX⟩
            case measure => simp [intOf]; omega
    · clear hown hbel HR
      cases b
      · simp only [Bool.toNat_false] at hys hb1
        go_wp2_with (at_builtin; refine app_int w wr ys _ c (.tmp 53) (.tmp 55) rfl rfl rfl rfl HW HB (by omega) ?_; intro v1 w1 HW1 HB1)
        have hy1 : (ys ++ [c]).length ≤ zs.length + 1 := by simp; omega
        clear HW HB
        generalize ys ++ [c] = ys1 at HW1 hy1
        go_wp2_with fail
        go_ret
        exact ⟨_, ys1, rfl, own_base (unhide HW1) (Nat.zero_le _), hy1, unhide HB1⟩
      · simp only [Bool.toNat_true] at hys hb1
        go_wp2_with fail
        go_ret
        exact ⟨_, ys, rfl, own_base (unhide HW) (Nat.zero_le _), by omega, unhide HB⟩

set_option maxRecDepth 100000 in
set_option maxHeartbeats 2000000 in
theorem refPlaced_hi (zs : List Int) (v : Value) (c : Int) (w : World) (hl : zs.length ≤ 1000000) (ho : w.ownsRow 0 3 1 v zs.length (ints zs)) (h1 : 57343 < c) (h2 : c ≤ 1114111) :
    Calls Tryz.prog 127 #[v, .int .i64 c] w (IntsUpTo w (zs.length + 1)) := by
  have HO := hide ho
  obtain ⟨ao, cap, rfl, hv⟩ := own_view ho
  have HV := hide hv
  clear hv ho
  go_enter Tryz.func127, Tryz.ntmps127
  go_wp2_with fail
  go_loopw [5, 6, 7] (fun m dn i wr => ∃ (k : Nat) (b : Bool), k ≤ zs.length ∧ i = .int .i64 k ∧ dn = .bool b ∧ Hid (PlacedRel w wr m k b)) (fun _ _ i _ => zs.length - (intOf i).toNat)
  case atStart => exact ⟨0, false, Nat.zero_le _, rfl, rfl, ⟨[], Nat.le_refl _, World.ownsRow_nil _ _ _ _, Below.refl _ _⟩⟩
  case round =>
    obtain ⟨k, b, hk, rfl, rfl, HR⟩ := hrel
    obtain ⟨ys, hys, hown, hbel⟩ := unhide HR
    have HW := hide hown
    have HB := hide hbel
    have hb1 : b.toNat ≤ 1 := by cases b <;> simp
    by_cases hlt : k < zs.length
    · obtain ⟨g, rfl, -, hg, hc, -⟩ := unhide HV (by omega)
      have h1 := hc k (by omega)
      rw [ints_at zs k hlt, ← hbel.cell (p := ⟨g, k, none⟩) hg] at h1
      clear hc HV hown hbel HR
      generalize zs.getD k 0 = z at h1
      by_cases he : z = c
      · have he' : (z == c) = true := by simp [he]
        clear he
        go_wp2_with fail
        go_ret
        exact ⟨_, zs, rfl, own_below (unhide HO) (unhide HB) (Nat.le_refl _), by omega, unhide HB⟩
      · have he' : (z == c) = false := by simp [he]
        clear he
        by_cases hcond : c < z ∧ b = false
        · obtain ⟨hgt, rfl⟩ := hcond
          simp only [Bool.toNat_false] at hys hb1
          go_wp2_with (first
            | (at_builtin; refine app_int w wr ys _ c (.tmp 40) (.tmp 42) rfl rfl rfl rfl HW HB (by omega) ?_; intro v1 w1 HW1 HB1; have h1' : w1.cell? ⟨g, k, none⟩ = some (.int .i64 z) := (by rw [(unhide HB1).cell (p := ⟨g, k, none⟩) hg, ← (unhide HB).cell (p := ⟨g, k, none⟩) hg]; exact h1); have hy1 : (ys ++ [c]).length ≤ k + 1 := (by simp; omega); clear h1 HW HB; generalize ys ++ [c] = ys1 at HW1 hy1)
            | (at_builtin; refine app_int w w1 ys1 _ z (.tmp 44) (.tmp 49) rfl rfl rfl rfl HW1 HB1 (by omega) ?_; intro v2 w2 HW2 HB2))
          have HX := PlacedRel.mk (b := true) (k := k + 1) (by simp; omega) HW2 HB2
          clear HW1 HB1 HW2 HB2
          go_wp2_with fail
          go_roundw
          case rel => exact ⟨k + 1, true, by omega, by go_num, rfl, HX⟩
          case measure => simp [intOf]; omega
        · by_cases hgt : c < z
          · obtain rfl : b = true := by cases b; exact absurd ⟨hgt, rfl⟩ hcond; rfl
            clear hcond
            simp only [Bool.toNat_true] at hys hb1
            go_wp2_with (at_builtin; refine app_int w wr ys _ z (.tmp 44) (.tmp 49) rfl rfl rfl rfl HW HB (by omega) ?_; intro v2 w2 HW2 HB2)
            have HX := PlacedRel.mk (b := true) (k := k + 1) (by simp; omega) HW2 HB2
            clear HW2 HB2 HW HB
            go_wp2_with fail
            go_roundw
            case rel => exact ⟨k + 1, true, by omega, by go_num, rfl, HX⟩
            case measure => simp [intOf]; omega
          · clear hcond
            have hgt' : decide (c < z) = false := by simpa using hgt
            go_wp2_with (at_builtin; refine app_int w wr ys _ z (.tmp 44) (.tmp 49) rfl rfl rfl rfl HW HB (by omega) ?_; intro v2 w2 HW2 HB2)
            have HX := PlacedRel.mk (b := b) (k := k + 1) (by simp; omega) HW2 HB2
            clear HW2 HB2 HW HB
            go_wp2_with fail
            go_roundw
            case rel => exact ⟨k + 1, b, by omega, by go_num, rfl, HX⟩
            case measure => simp [intOf]; omega
    · clear hown hbel HR
      cases b
      · simp only [Bool.toNat_false] at hys hb1
        go_wp2_with (at_builtin; refine app_int w wr ys _ c (.tmp 53) (.tmp 55) rfl rfl rfl rfl HW HB (by omega) ?_; intro v1 w1 HW1 HB1)
        have hy1 : (ys ++ [c]).length ≤ zs.length + 1 := by simp; omega
        clear HW HB
        generalize ys ++ [c] = ys1 at HW1 hy1
        go_wp2_with fail
        go_ret
        exact ⟨_, ys1, rfl, own_base (unhide HW1) (Nat.zero_le _), hy1, unhide HB1⟩
      · simp only [Bool.toNat_true] at hys hb1
        go_wp2_with fail
        go_ret
        exact ⟨_, ys, rfl, own_base (unhide HW) (Nat.zero_le _), by omega, unhide HB⟩

set_option maxRecDepth 100000 in
set_option maxHeartbeats 2000000 in
theorem refPlaced_top (zs : List Int) (v : Value) (c : Int) (w : World) (_hl : zs.length ≤ 1000000) (ho : w.ownsRow 0 3 1 v zs.length (ints zs)) (h1 : 1114111 < c) :
    Calls Tryz.prog 127 #[v, .int .i64 c] w (IntsUpTo w (zs.length + 1)) := by
  have HO := hide ho
  obtain ⟨ao, cap, rfl, hv⟩ := own_view ho
  have HV := hide hv
  clear hv ho
  go_enter Tryz.func127, Tryz.ntmps127
  go_wp2_with fail
  go_ret
  exact ⟨_, zs, rfl, unhide HO, by omega, Below.refl _ _⟩

theorem refPlaced_any (zs : List Int) (v : Value) (c : Int) (w : World) (hl : zs.length ≤ 1000000) (ho : w.ownsRow 0 3 1 v zs.length (ints zs)) :
    Calls Tryz.prog 127 #[v, .int .i64 c] w (IntsUpTo w (zs.length + 1)) := by
  by_cases h1 : c < 55296
  · exact refPlaced_lo zs v c w hl ho h1
  · by_cases h2 : c ≤ 57343
    · exact refPlaced_gap zs v c w hl ho (by omega) h2
    · by_cases h3 : c ≤ 1114111
      · exact refPlaced_hi zs v c w hl ho (by omega) h3
      · exact refPlaced_top zs v c w hl ho (by omega)
end Go.Proofs.YtihjfoldgnoolaaGreatDoor
