import Derived.Test.YthopgbacdmgfgaaGreatDoorRefG
import Derived.WalkKit
import Derived.WalkSpells
import Derived.WalkLawsBesides
namespace Go.Proofs.YthopgbacdmgfgaaGreatDoor
open Go.RowKit

theorem tidy_app {w w2 : World} {ao : Option Addr} {cap k : Nat} {ys : List (Int × Int)} {lo hi : Int} {bs : List Bool}
    (ho : Hid (w2.ownsRow w.heap.size 100 2 (.slice ao (ys.length + 1) cap) (ys ++ [(lo, hi)]).length (spanCells (ys ++ [(lo, hi)])))) (hb : Hid (Below w.heap.size w w2)) (h : 2 * ys.length ≤ k) (hbb : bs.getD k false = true) :
    Hid (TidyRel w w2 (.slice ao (ys ++ [(lo, hi)]).length cap) (ys ++ [(lo, hi)]) (k + 1) (bs.getD (k + 1 - 1) false)) := by
  refine ⟨by simp; omega, fun hx => ?_, by simpa using unhide ho, hb⟩
  rw [Nat.add_sub_cancel, hbb] at hx; cases hx

theorem tidy_store {w wr : World} {gl cap k : Nat} {L : List (Int × Int)} {x : Int × Int} {h : Int} {bs : List Bool}
    (ho : Hid (wr.ownsRow w.heap.size 100 2 (.slice (some ⟨gl, 0, none⟩) (L ++ [x]).length cap) (L ++ [x]).length (spanCells (L ++ [x])))) (hb : Hid (Below w.heap.size w wr)) (hg : w.heap.size ≤ gl) (hy : 2 * (L ++ [x]).length ≤ k + 1) (hbb : bs.getD k false = true) :
    Hid (TidyRel w (wr.setCell ⟨gl, L.length * 2 + 1, none⟩ (.int .i64 h)) (.slice (some ⟨gl, 0, none⟩) (L ++ [(x.1, h)]).length cap) (L ++ [(x.1, h)]) (k + 1) (bs.getD (k + 1 - 1) false)) := by
  refine ⟨by simp at hy ⊢; omega, fun hx => ?_, ?_, (unhide hb).setCell hg _⟩
  · rw [Nat.add_sub_cancel, hbb] at hx; cases hx
  · have := own_set (unhide ho) (g := gl) (j := L.length * 2 + 1) rfl (by simp; omega) (.int .i64 h)
    rw [spanCells_set] at this
    simpa using this

set_option maxRecDepth 100000 in
set_option maxHeartbeats 2000000 in
theorem refTidy_any (zs : List Int) (bs : List Bool) (va vb : Value) (w : World) (hl : zs.length ≤ 1000000) (hlen : bs.length = zs.length) (oa : w.ownsRow 0 3 1 va zs.length (ints zs)) (ob : w.ownsRow 0 4 1 vb zs.length (bools bs)) :
    Calls Tryz.prog 92 #[va, vb] w (SpansUpTo w (zs.length / 2 + 1)) := by
  obtain ⟨aa, ca, rfl, hva⟩ := own_view oa
  obtain ⟨ab, cb, rfl, hvb⟩ := own_view ob
  have HVA := hide hva
  have HVB := hide hvb
  have HLEN := hide hlen
  clear hva hvb oa ob hlen
  go_enter Tryz.func92, Tryz.ntmps92
  go_wp2_with fail
  go_loopw [5, 6] (fun v i wr => ∃ (k : Nat) (ao : Option Addr) (cap : Nat) (ys : List (Int × Int)), k ≤ zs.length ∧ i = .int .i64 k ∧ v = .slice ao ys.length cap ∧ Hid (TidyRel w wr (.slice ao ys.length cap) ys k (bs.getD (k - 1) false))) (fun _ i _ => zs.length - (intOf i).toNat)
  case atStart => exact ⟨0, none, 0, [], Nat.zero_le _, rfl, rfl, ⟨by simp, by simp, World.ownsRow_nil _ _ _ _, Below.refl _ _⟩⟩
  case round =>
    obtain ⟨k, ao, cap, ys, hk, rfl, rfl, HR⟩ := hrel
    obtain ⟨hy1, hy2, hown, hbel⟩ := unhide HR
    have HW := hide hown
    have HB := hide hbel
    by_cases hlt : k < zs.length
    · obtain ⟨ga, rfl, -, hga, hca, -⟩ := unhide HVA (by omega)
      obtain ⟨gb, rfl, -, hgb, hcb, -⟩ := unhide HVB (by omega)
      have h1 := hca k (by omega)
      rw [ints_at zs k hlt, ← hbel.cell (p := ⟨ga, k, none⟩) hga] at h1
      have h2 := hcb k (by omega)
      rw [bools_at bs k (by rw [unhide HLEN]; omega), ← hbel.cell (p := ⟨gb, k, none⟩) hgb] at h2
      generalize hz : zs.getD k 0 = z at h1
      generalize hbb : bs.getD k false = b at h2
      have HBB := hide hbb
      clear hbb hz
      by_cases hnx : k + 1 < zs.length
      · have h3 : wr.cell? ⟨ga, k + 1, none⟩ = some (.int .i64 (zs.getD (k + 1) 0)) := by
          rw [hbel.cell (p := ⟨ga, k + 1, none⟩) hga, hca (k + 1) (by omega), ints_at zs (k + 1) hnx]
        generalize zs.getD (k + 1) 0 = z1 at h3
        cases b
        · have HX : Hid (TidyRel w wr (.slice ao ys.length cap) ys (k + 1) (bs.getD (k + 1 - 1) false)) := ⟨by omega, fun _ => by omega, hown, hbel⟩
          clear HVA HVB hca hcb hown hbel HR HW HB
          go_wp2_with fail
          all_goals
            go_roundw
            case rel => exact ⟨k + 1, ao, cap, ys, by omega, by go_num, rfl, HX⟩
            case measure => simp [intOf]; omega
        · rcases List.eq_nil_or_concat ys with rfl | ⟨L, x, rfl⟩
          · clear HVA HVB hca hcb hown hbel HR hy1 hy2
            go_wp2_with (at_builtin; refine app_span w wr [] _ _ _ (.tmp 52) (.tmp 59) rfl rfl rfl rfl HW HB (by simp) ?_; intro ao' cap' w2 HW2 HB2)
            all_goals
              have HX := tidy_app HW2 HB2 (k := k) (by simp) (unhide HBB)
              clear HW2 HB2 HW HB HBB
              go_wp2_with fail
              go_roundw
              case rel => exact ⟨k + 1, ao', cap', _, by omega, by go_num, by simp, HX⟩
              case measure => simp [intOf]; omega
          · simp only [List.concat_eq_append] at *
            have hyl : (L ++ [x]).length = L.length + 1 := by simp
            obtain ⟨j, rfl⟩ : ∃ j, k = j + 1 := ⟨k - 1, by omega⟩
            have h4 := hcb j (by omega)
            rw [bools_at bs j (by rw [unhide HLEN]; omega), ← hbel.cell (p := ⟨gb, j, none⟩) hgb] at h4
            simp only [Nat.add_sub_cancel] at hy2
            generalize bs.getD j false = bp at h4 hy2
            cases bp
            · have hy3 := hy2 rfl
              clear HVA HVB hca hcb hown hbel HR hy1 hy2
              rw [hyl] at hy3
              go_wp2_with (at_builtin; refine app_span w wr (L ++ [x]) _ _ _ (.tmp 52) (.tmp 59) rfl rfl rfl rfl HW HB (by simp; omega) ?_; intro ao' cap' w2 HW2 HB2)
              all_goals
                have HX := tidy_app HW2 HB2 (k := j + 1) (by omega) (unhide HBB)
                clear HW2 HB2 HW HB HBB
                go_wp2_with fail
                go_roundw
                case rel => exact ⟨j + 1 + 1, ao', cap', _, by omega, by go_num, by simp, HX⟩
                case measure => simp [intOf]; omega
            · obtain ⟨_, _, hvv, hown'⟩ := own_view hown
              cases hvv
              obtain ⟨gl, rfl, hgl, hgl2, hcl, hfl⟩ := hown' (by omega)
              have hf := hfl (L.length * 2 + 1)
              have hc5 := hcl (L.length * 2 + 1) (by omega)
              rw [show L.length * 2 + 1 = L.length * 2 + 1 from rfl, spanCells_hi (L ++ [x]) L.length (by simp)] at hc5
              generalize ((L ++ [x]).getD L.length (0, 0)).2 = old at hc5
              rw [hyl]
              clear HVA HVB hca hcb hown hbel HR hown' hcl hfl
              go_wp2_with fail
              all_goals
                go_roundw
                case rel => exact ⟨j + 1 + 1, _, _, L ++ [(x.1, _)], by omega, by go_num, by simp, tidy_store HW HB hgl hy1 (unhide HBB)⟩
                case measure => simp [intOf]; omega
      · have hnx' : decide ((k : Int) + 1 < (zs.length : Int)) = false := by simp; omega
        cases b
        · have HX : Hid (TidyRel w wr (.slice ao ys.length cap) ys (k + 1) (bs.getD (k + 1 - 1) false)) := ⟨by omega, fun _ => by omega, hown, hbel⟩
          clear HVA HVB hca hcb hown hbel HR HW HB
          go_wp2_with fail
          all_goals
            go_roundw
            case rel => exact ⟨k + 1, ao, cap, ys, by omega, by go_num, rfl, HX⟩
            case measure => simp [intOf]; omega
        · rcases List.eq_nil_or_concat ys with rfl | ⟨L, x, rfl⟩
          · clear HVA HVB hca hcb hown hbel HR hy1 hy2
            go_wp2_with (at_builtin; refine app_span w wr [] _ _ _ (.tmp 52) (.tmp 59) rfl rfl rfl rfl HW HB (by simp) ?_; intro ao' cap' w2 HW2 HB2)
            all_goals
              have HX := tidy_app HW2 HB2 (k := k) (by simp) (unhide HBB)
              clear HW2 HB2 HW HB HBB
              go_wp2_with fail
              go_roundw
              case rel => exact ⟨k + 1, ao', cap', _, by omega, by go_num, by simp, HX⟩
              case measure => simp [intOf]; omega
          · simp only [List.concat_eq_append] at *
            have hyl : (L ++ [x]).length = L.length + 1 := by simp
            obtain ⟨j, rfl⟩ : ∃ j, k = j + 1 := ⟨k - 1, by omega⟩
            have h4 := hcb j (by omega)
            rw [bools_at bs j (by rw [unhide HLEN]; omega), ← hbel.cell (p := ⟨gb, j, none⟩) hgb] at h4
            simp only [Nat.add_sub_cancel] at hy2
            generalize bs.getD j false = bp at h4 hy2
            cases bp
            · have hy3 := hy2 rfl
              clear HVA HVB hca hcb hown hbel HR hy1 hy2
              rw [hyl] at hy3
              go_wp2_with (at_builtin; refine app_span w wr (L ++ [x]) _ _ _ (.tmp 52) (.tmp 59) rfl rfl rfl rfl HW HB (by simp; omega) ?_; intro ao' cap' w2 HW2 HB2)
              all_goals
                have HX := tidy_app HW2 HB2 (k := j + 1) (by omega) (unhide HBB)
                clear HW2 HB2 HW HB HBB
                go_wp2_with fail
                go_roundw
                case rel => exact ⟨j + 1 + 1, ao', cap', _, by omega, by go_num, by simp, HX⟩
                case measure => simp [intOf]; omega
            · obtain ⟨_, _, hvv, hown'⟩ := own_view hown
              cases hvv
              obtain ⟨gl, rfl, hgl, hgl2, hcl, hfl⟩ := hown' (by omega)
              have hf := hfl (L.length * 2 + 1)
              have hc5 := hcl (L.length * 2 + 1) (by omega)
              rw [show L.length * 2 + 1 = L.length * 2 + 1 from rfl, spanCells_hi (L ++ [x]) L.length (by simp)] at hc5
              generalize ((L ++ [x]).getD L.length (0, 0)).2 = old at hc5
              rw [hyl]
              clear HVA HVB hca hcb hown hbel HR hown' hcl hfl
              go_wp2_with fail
              all_goals
                go_roundw
                case rel => exact ⟨j + 1 + 1, _, _, L ++ [(x.1, _)], by omega, by go_num, by simp, tidy_store HW HB hgl hy1 (unhide HBB)⟩
                case measure => simp [intOf]; omega
    · clear hown hbel HR
      go_wp2_with fail
      go_ret
      exact ⟨_, ys, rfl, own_base (unhide HW) (Nat.zero_le _), by omega, unhide HB, fun k hk => ((unhide HW).lt k hk).1⟩
end Go.Proofs.YthopgbacdmgfgaaGreatDoor
