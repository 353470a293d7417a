import Derived.Test.YtfolanohokflkaaGreatDoorRefG
import Derived.WalkKit
import Derived.WalkSpells
import Derived.WalkLawsBesides
namespace Go.Proofs.YtfolanohokflkaaGreatDoor
open Go.RowKit

theorem tidy_app {w w2 : World} {ao : Option Addr} {cap k : Nat} {ys : List (Int × Int)} {lo hi : Int} {bs : List Bool}
    (ho : Hid (w2.ownsRow w.heap.size 215 2 (.slice ao (ys.length + 1) cap) (ys ++ [(lo, hi)]).length (spanCells (ys ++ [(lo, hi)])))) (hb : Hid (Below w.heap.size w w2)) (h : 2 * ys.length ≤ k) (hbb : bs.getD k false = true) :
    Hid (TidyRel w w2 (.slice ao (ys ++ [(lo, hi)]).length cap) (ys ++ [(lo, hi)]) (k + 1) (bs.getD (k + 1 - 1) false)) := by
  refine ⟨by simp; omega, fun hx => ?_, by simpa using unhide ho, hb⟩
  rw [Nat.add_sub_cancel, hbb] at hx; cases hx

theorem tidy_store {w wr : World} {gl cap k : Nat} {L : List (Int × Int)} {x : Int × Int} {h : Int} {bs : List Bool}
    (ho : Hid (wr.ownsRow w.heap.size 215 2 (.slice (some ⟨gl, 0, none⟩) (L ++ [x]).length cap) (L ++ [x]).length (spanCells (L ++ [x])))) (hb : Hid (Below w.heap.size w wr)) (hg : w.heap.size ≤ gl) (hy : 2 * (L ++ [x]).length ≤ k + 1) (hbb : bs.getD k false = true) :
    Hid (TidyRel w (wr.setCell ⟨gl, L.length * 2 + 1, none⟩ (.int .i64 h)) (.slice (some ⟨gl, 0, none⟩) (L ++ [(x.1, h)]).length cap) (L ++ [(x.1, h)]) (k + 1) (bs.getD (k + 1 - 1) false)) := by
  refine ⟨by simp at hy ⊢; omega, fun hx => ?_, ?_, (unhide hb).setCell hg _⟩
  · rw [Nat.add_sub_cancel, hbb] at hx; cases hx
  · have := own_set (unhide ho) (g := gl) (j := L.length * 2 + 1) rfl (by simp; omega) (.int .i64 h)
    rw [spanCells_set] at this
    simpa using this

set_option maxRecDepth 100000 in
set_option maxHeartbeats 2000000 in
theorem refTidy_any (zs : List Int) (bs : List Bool) (va vb : Value) (w : World) (hl : zs.length ≤ 1000000) (hlen : bs.length = zs.length) (oa : w.ownsRow 0 3 1 va zs.length (ints zs)) (ob : w.ownsRow 0 4 1 vb zs.length (bools bs)) :
    Calls Tryz.prog 248 #[va, vb] w (SpansUpTo w (zs.length / 2 + 1)) := by
  obtain ⟨aa, ca, rfl, hva⟩ := own_view oa
  obtain ⟨ab, cb, rfl, hvb⟩ := own_view ob
  have HVA := hide hva
  have HVB := hide hvb
  have HLEN := hide hlen
  clear hva hvb oa ob hlen
  go_enter Tryz.func248, Tryz.ntmps248
  go_wp2_with fail
  go_loopw [5, 6] (fun v i wr => ∃ (k : Nat) (ao : Option Addr) (cap : Nat) (ys : List (Int × Int)), k ≤ zs.length ∧ i = .int .i64 k ∧ v = .slice ao ys.length cap ∧ Hid (TidyRel w wr (.slice ao ys.length cap) ys k (bs.getD (k - 1) false))) (fun _ i _ => zs.length - (intOf i).toNat)
  case atStart => exact ⟨0, none, 0, [], Nat.zero_le _, rfl, rfl, ⟨by simp, by simp, World.ownsRow_nil _ _ _ _, Below.refl _ _⟩⟩
  case round =>
    obtain ⟨k, ao, cap, ys, hk, rfl, rfl, HR⟩ := hrel
    obtain ⟨hy1, hy2, hown, hbel⟩ := unhide HR
    have HW := hide hown
    have HB := hide hbel
    by_cases hlt : k < zs.length
    · obtain ⟨ga, rfl, -, hga, hca, -⟩ := unhide HVA (by omega)
      obtain ⟨gb, rfl, -, hgb, hcb, -⟩ := unhide HVB (by omega)
      have h1 := hca k (by omega)
      rw [ints_at zs k hlt, ← hbel.cell (p := ⟨ga, k, none⟩) hga] at h1
      have h2 := hcb k (by omega)
      rw [bools_at bs k (by rw [unhide HLEN]; omega), ← hbel.cell (p := ⟨gb, k, none⟩) hgb] at h2
      generalize hz : zs.getD k 0 = z at h1
      generalize hbb : bs.getD k false = b at h2
      have HBB := hide hbb
      clear hbb hz
      by_cases hnx : k + 1 < zs.length
      · have h3 : wr.cell? ⟨ga, k + 1, none⟩ = some (.int .i64 (zs.getD (k + 1) 0)) := by
          rw [hbel.cell (p := ⟨ga, k + 1, none⟩) hga, hca (k + 1) (by omega), ints_at zs (k + 1) hnx]
        generalize zs.getD (k + 1) 0 = z1 at h3
        cases b
        · have HX : Hid (TidyRel w wr (.slice ao ys.length cap) ys (k + 1) (bs.getD (k + 1 - 1) false)) := ⟨by omega, fun _ => by omega, hown, hbel⟩
          clear HVA HVB hca hcb hown hbel HR HW HB
          go_wp2_with fail
          all_goals
            go_roundw
            case rel => exact ⟨k + 1, ao, cap, ys, by omega, by go_num, rfl, HX⟩
            case measure => simp [intOf]; omega
        · rcases List.eq_nil_or_concat ys with rfl | ⟨L, x, rfl⟩
          · clear HVA HVB hca hcb hown hbel HR hy1 hy2
            go_wp2_with (at_builtin; refine app_span w wr [] _ _ _ (.tmp 52) (.tmp 59) rfl rfl rfl rfl HW HB (by simp) ?_; intro ao' cap' w2 HW2 HB2)
            all_goals
              have HX := tidy_app HW2 HB2 (k := k) (by simp) (unhide HBB)
              clear HW2 HB2 HW HB HBB
              go_wp2_with fail
              go_roundw
              case rel => exact ⟨k + 1, ao', cap', _, by omega, by go_num, by simp, HX⟩
              case measure => simp [intOf]; omega
          · simp only [List.concat_eq_append] at *
            have hyl : (L ++ [x]).length = L.length + 1 := by simp
            obtain ⟨j, rfl⟩ : ∃ j, k = j + 1 := ⟨k - 1, by omega⟩
            have h4 := hcb j (by omega)
            rw [bools_at bs j (by rw [unhide HLEN]; omega), ← hbel.cell (p := ⟨gb, j, none⟩) hgb] at h4
            simp only [Nat.add_sub_cancel] at hy2
            generalize bs.getD j false = bp at h4 hy2
            cases bp
            · have hy3 := hy2 rfl
              clear HVA HVB hca hcb hown hbel HR hy1 hy2
              rw [hyl] at hy3
              go_wp2_with (at_builtin; refine app_span w wr (L ++ [x]) _ _ _ (.tmp 52) (.tmp 59) rfl rfl rfl rfl HW HB (by simp; omega) ?_; intro ao' cap' w2 HW2 HB2)
              all_goals
                have HX := tidy_app HW2 HB2 (k := j + 1) (by omega) (unhide HBB)
                clear HW2 HB2 HW HB HBB
                go_wp2_with fail
                go_roundw
                case rel => exact ⟨j + 1 + 1, ao', cap', _, by omega, by go_num, by simp, HX⟩
                case measure => simp [intOf]; omega
            · obtain ⟨_, _, hvv, hown'⟩ := own_view hown
              cases hvv
              obtain ⟨gl, rfl, hgl, hgl2, hcl, hfl⟩ := hown' (by omega)
              have hf := hfl (L.length * 2 + 1)
              have hc5 := hcl (L.length * 2 + 1) (by omega)
              rw [show L.length * 2 + 1 = L.length * 2 + 1 from rfl, spanCells_hi (L ++ [x]) L.length (by simp)] at hc5
              generalize ((L ++ [x]).getD L.length (0, 0)).2 = old at hc5
              rw [hyl]
              clear HVA HVB hca hcb hown hbel HR hown' hcl hfl
              go_wp2_with fail
              all_goals
                go_roundw
                case rel => exact ⟨j + 1 + 1, _, _, L ++ [(x.1, _)], by omega, by go_num, by simp, tidy_store HW HB hgl hy1 (unhide HBB)⟩
                case measure => simp [intOf]; omega
      · have hnx' : decide ((k : Int) + 1 < (zs.length : Int)) = false := by simp; omega
        cases b
        · have HX : Hid (TidyRel w wr (.slice ao ys.length cap) ys (k + 1) (bs.getD (k + 1 - 1) false)) := ⟨by omega, fun _ => by omega, hown, hbel⟩
          clear HVA HVB hca hcb hown hbel HR HW HB
          go_wp2_with fail
          all_goals
            go_roundw
            case rel => exact ⟨k + 1, ao, cap, ys, by omega, by go_num, rfl, HX⟩
            case measure => simp [intOf]; omega
        · rcases List.eq_nil_or_concat ys with rfl | ⟨L, x, rfl⟩
          · clear HVA HVB hca hcb hown hbel HR hy1 hy2
            go_wp2_with (at_builtin; refine app_span w wr [] _ _ _ (.tmp 52) (.tmp 59) rfl rfl rfl rfl HW HB (by simp) ?_; intro ao' cap' w2 HW2 HB2)
            all_goals
              have HX := tidy_app HW2 HB2 (k := k) (by simp) (unhide HBB)
              clear HW2 HB2 HW HB HBB
              go_wp2_with fail
              go_roundw
              case rel => exact ⟨k + 1, ao', cap', _, by omega, by go_num, by simp, HX⟩
              case measure => simp [intOf]; omega
          · simp only [List.concat_eq_append] at *
            have hyl : (L ++ [x]).length = L.length + 1 := by simp
            obtain ⟨j, rfl⟩ : ∃ j, k = j + 1 := ⟨k - 1, by omega⟩
            have h4 := hcb j (by omega)
            rw [bools_at bs j (by rw [unhide HLEN]; omega), ← hbel.cell (p := ⟨gb, j, none⟩) hgb] at h4
            simp only [Nat.add_sub_cancel] at hy2
            generalize bs.getD j false = bp at h4 hy2
            cases bp
            · have hy3 := hy2 rfl
              clear HVA HVB hca hcb hown hbel HR hy1 hy2
              rw [hyl] at hy3
              go_wp2_with (at_builtin; refine app_span w wr (L ++ [x]) _ _ _ (.tmp 52) (.tmp 59) rfl rfl rfl rfl HW HB (by simp; omega) ?_; intro ao' cap' w2 HW2 HB2)
              all_goals
                have HX := tidy_app HW2 HB2 (k := j + 1) (by omega) (unhide HBB)
                clear HW2 HB2 HW HB HBB
                go_wp2_with fail
                go_roundw
                case rel => exact ⟨j + 1 + 1, ao', cap', _, by omega, by go_num, by simp, HX⟩
                case measure => simp [intOf]; omega
            · obtain ⟨_, _, hvv, hown'⟩ := own_view hown
              cases hvv
              obtain ⟨gl, rfl, hgl, hgl2, hcl, hfl⟩ := hown' (by omega)
              have hf := hfl (L.length * 2 + 1)
              have hc5 := hcl (L.length * 2 + 1) (by omega)
              rw [show L.length * 2 + 1 = L.length * 2 + 1 from rfl, spanCells_hi (L ++ [x]) L.length (by simp)] at hc5
              generalize ((L ++ [x]).getD L.length (0, 0)).2 = old at hc5
              rw [hyl]
              clear HVA HVB hca hcb hown hbel HR hown' hcl hfl
              go_wp2_with fail
              all_goals
                go_roundw
                case rel => exact ⟨j + 1 + 1, _, _, L ++ [(x.1, _)], by omega, by go_num, by simp, tidy_store HW HB hgl hy1 (unhide HBB)⟩
                case measure => simp [intOf]; omega
    · clear hown hbel HR
      go_wp2_with fail
      go_ret
      exact ⟨_, ys, rfl, own_base (unhide HW) (Nat.zero_le _), by omega, unhide HB, fun k hk => ((unhide HW).lt k hk).1⟩
end Go.Proofs.YtfolanohokflkaaGreatDoor

namespace Go.Proofs.YtfolanohokflkaaGreatDoor
open Go.RowKit

/-- a slice of spans that can be read. -/
def SpansAt (w : World) (v : Value) (l : List (Int × Int)) : Prop := w.ownsRow 0 215 2 v l.length (spanCells l)
theorem SpansAt.below {w w' : World} {v : Value} {l : List (Int × Int)} (h : SpansAt w v l) (hb : Below w.heap.size w w') : SpansAt w' v l := own_below h hb (Nat.le_refl _)
theorem SpansAt.nil (w : World) : SpansAt w (.slice none 0 0) [] := World.ownsRow_nil _ _ _ _

/-- in, met in a later world. -/
theorem in_rel (w wr : World) (l : List (Int × Int)) (v : Value) (c : Int) (h : Hid (SpansAt w v l)) (hl : l.length ≤ 1000) (hb : Hid (Below w.heap.size w wr)) :
    Calls Tryz.prog 195 #[v, .int .i64 c] wr fun e w' => IsBool e ∧ Hid (Below wr.heap.size wr w') := by
  refine (refIn_any l v c wr (by omega) ((unhide h).below hb)).mono ?_
  rintro e w' ⟨h1, h2⟩
  exact ⟨h1, h2⟩

theorem hid_next {w wr w1 : World} (hb : Hid (Below w.heap.size w wr)) (h : Hid (Below wr.heap.size wr w1)) : Hid (Below w.heap.size w w1) := below_next hb h
theorem cell_next {w w' : World} (hb : Hid (Below w.heap.size w w')) {g k : Nat} {v : Value} (h : w.cell? ⟨g, k, none⟩ = some v) : w'.cell? ⟨g, k, none⟩ = some v := by
  rw [(unhide hb).cell (p := ⟨g, k, none⟩) (World.block_lt_of_cell? w _ h)]; exact h
theorem own_next {w w' : World} {base e size n : Nat} {v : Value} {xs : List Value} (h : Hid (w.ownsRow base e size v n xs)) (hb : Hid (Below w.heap.size w w')) : Hid (w'.ownsRow base e size v n xs) := own_below (unhide h) hb (Nat.le_refl _)
def KeepRel (w wr : World) (v : Value) (k : Nat) : Prop := ∃ bs : List Bool, bs.length = k ∧ wr.ownsRow w.heap.size 4 1 v k (bools bs)
theorem keep_next {w wr : World} {v : Value} {bs : List Bool} {b : Bool} (h : Hid (wr.ownsRow w.heap.size 4 1 v (bs ++ [b]).length (bools (bs ++ [b])))) : Hid (KeepRel w wr v (bs.length + 1)) :=
  ⟨bs ++ [b], by simp, by rw [show bs.length + 1 = (bs ++ [b]).length from by simp]; exact h⟩

set_option maxRecDepth 100000 in
set_option maxHeartbeats 2000000 in
theorem refUnion_any (a b : List (Int × Int)) (va vb : Value) (w : World) (ha : a.length ≤ 1000) (hb : b.length ≤ 1000) (oa : SpansAt w va a) (ob : SpansAt w vb b) :
    Calls Tryz.prog 215 #[va, vb] w (SpansUpTo w (a.length + b.length + 1)) := by
  have HC := hide (refCuts_any a b va vb w ha hb oa ob)
  have HA0 := hide oa
  have HB0 := hide ob
  clear oa ob
  go_enter Tryz.func215, Tryz.ntmps215
  go_wp2_with (go_at_call 247; refine (unhide HC).mono ?_; clear HC; rintro e w1 ⟨v1, zs, rfl, o1, hz, hb1⟩; have HO1 := hide o1; have HB1 := hide hb1; obtain ⟨az, cz, rfl, hvz⟩ := own_view o1; have HV := hide hvz; have HA := hide ((unhide HA0).below hb1); have HB := hide ((unhide HB0).below hb1); clear o1 hb1 hvz HA0 HB0)
  go_loopw [6, 7] (fun v i wr => ∃ k : Nat, k ≤ zs.length ∧ i = .int .i64 k ∧ Hid (KeepRel w1 wr v k) ∧ Hid (Below w1.heap.size w1 wr)) (fun _ i _ => zs.length - (intOf i).toNat)
  case atStart => exact ⟨0, Nat.zero_le _, rfl, ⟨[], rfl, World.ownsRow_nil _ _ _ _⟩, Below.refl _ _⟩
  case round =>
    obtain ⟨k, hk, rfl, HK, HBR⟩ := hrel
    obtain ⟨bs, hbs, hkown⟩ := unhide HK
    subst hbs
    have HKO := hide hkown
    clear hkown HK
    by_cases hlt : bs.length < zs.length
    · obtain ⟨g, rfl, -, hg, hc, -⟩ := unhide HV (by omega)
      have h1 := hc bs.length (by omega)
      rw [ints_at zs bs.length hlt] at h1
      generalize zs.getD bs.length 0 = z at h1
      have h1' := cell_next HBR h1
      clear h1 hc HV HO1
      go_wp2_with (first
        | (go_at_call 195; refine (in_rel w1 wr a va z HA ha HBR).mono ?_; clear HA; rintro e w2 ⟨⟨_ | _, rfl⟩, hb2⟩ <;> (have h2' := cell_next hb2 h1'; have HBR2 := hid_next HBR hb2; have HKO2 := own_next HKO hb2; clear h1' HBR HKO hb2))
        | (go_at_call 195; refine (in_rel w1 w2 b vb z HB hb HBR2).mono ?_; clear HB; rintro e w3 ⟨⟨bb, rfl⟩, hb3⟩; have HBR3 := hid_next HBR2 hb3; have HKO3 := own_next HKO2 hb3; clear h2' HBR2 HKO2 hb3)
        | (at_builtin; refine app_bool w1 w3 bs _ _ (.tmp 32) (.tmp 37) rfl rfl rfl rfl HKO3 HBR3 (by omega) ?_; intro v4 w4 HW4 HB4))
      all_goals
        have HX : Hid (KeepRel w1 w4 v4 (bs.length + 1)) := keep_next HW4
        clear HW4 HKO3 HBR3
        go_wp2_with fail
        go_roundw
        case rel => exact ⟨bs.length + 1, by omega, by go_num, HX, HB4⟩
        case measure => simp [intOf]; omega
    · have hlen : bs.length = zs.length := by omega
      have HL := hide hlen
      have HT := hide (refTidy_any zs bs _ u6 wr (by omega) hlen (own_next HO1 HBR) (by rw [← hlen]; exact own_base (unhide HKO) (Nat.zero_le _)))
      clear HV HO1 HA HB hlen
      go_wp2_with (go_at_call 248; refine (unhide HT).mono ?_; clear HT; rintro e w5 ⟨v5, ys, rfl, o5, hy5, hb5, hf5⟩; have HO5 := hide o5; have HB5 := hide hb5; have HF5 := hide hf5; clear o5 hb5 hf5)
      go_ret
      exact ⟨_, ys, rfl, unhide HO5, by omega, unhide (hid_next (hid_next HB1 HBR) HB5), fun k hk => Nat.le_trans (unhide (hid_next HB1 HBR)).size (unhide HF5 k hk)⟩

set_option maxRecDepth 100000 in
set_option maxHeartbeats 2000000 in
theorem refOthers_any (a : List (Int × Int)) (va : Value) (w : World) (ha : a.length ≤ 1000) (oa : SpansAt w va a) :
    Calls Tryz.prog 300 #[va] w (SpansUpTo w (a.length + 1)) := by
  have HC := hide (refCuts_any a [] va (.slice none 0 0) w ha (by simp) oa (SpansAt.nil w))
  have HA0 := hide oa
  clear oa
  go_enter Tryz.func300, Tryz.ntmps300
  go_wp2_with (go_at_call 247; refine (unhide HC).mono ?_; clear HC; rintro e w1 ⟨v1, zs, rfl, o1, hz, hb1⟩; have HO1 := hide o1; have HB1 := hide hb1; obtain ⟨az, cz, rfl, hvz⟩ := own_view o1; have HV := hide hvz; have HA := hide ((unhide HA0).below hb1); clear o1 hb1 hvz HA0)
  have hz' : zs.length ≤ 1 + 2 * a.length := hz
  clear hz
  go_loopw [4, 5] (fun v i wr => ∃ k : Nat, k ≤ zs.length ∧ i = .int .i64 k ∧ Hid (KeepRel w1 wr v k) ∧ Hid (Below w1.heap.size w1 wr)) (fun _ i _ => zs.length - (intOf i).toNat)
  case atStart => exact ⟨0, Nat.zero_le _, rfl, ⟨[], rfl, World.ownsRow_nil _ _ _ _⟩, Below.refl _ _⟩
  case round =>
    obtain ⟨k, hk, rfl, HK, HBR⟩ := hrel
    obtain ⟨bs, hbs, hkown⟩ := unhide HK
    subst hbs
    have HKO := hide hkown
    clear hkown HK
    by_cases hlt : bs.length < zs.length
    · obtain ⟨g, rfl, -, hg, hc, -⟩ := unhide HV (by omega)
      have h1 := hc bs.length (by omega)
      rw [ints_at zs bs.length hlt] at h1
      generalize zs.getD bs.length 0 = z at h1
      have h1' := cell_next HBR h1
      clear h1 hc HV HO1
      go_wp2_with (first
        | (go_at_call 195; refine (in_rel w1 wr a va z HA ha HBR).mono ?_; clear HA; rintro e w2 ⟨⟨bb, rfl⟩, hb2⟩; have HBR3 := hid_next HBR hb2; have HKO3 := own_next HKO hb2; clear h1' HBR HKO hb2)
        | (at_builtin; refine app_bool w1 w2 bs _ _ (.tmp 22) (.tmp 25) rfl rfl rfl rfl HKO3 HBR3 (by omega) ?_; intro v4 w4 HW4 HB4))
      all_goals
        have HX : Hid (KeepRel w1 w4 v4 (bs.length + 1)) := keep_next HW4
        clear HW4 HKO3 HBR3
        go_wp2_with fail
        go_roundw
        case rel => exact ⟨bs.length + 1, by omega, by go_num, HX, HB4⟩
        case measure => simp [intOf]; omega
    · have hlen : bs.length = zs.length := by omega
      have HL := hide hlen
      have HT := hide (refTidy_any zs bs _ u4 wr (by omega) hlen (own_next HO1 HBR) (by rw [← hlen]; exact own_base (unhide HKO) (Nat.zero_le _)))
      clear HV HO1 HA hlen
      go_wp2_with (go_at_call 248; refine (unhide HT).mono ?_; clear HT; rintro e w5 ⟨v5, ys, rfl, o5, hy5, hb5, hf5⟩; have HO5 := hide o5; have HB5 := hide hb5; have HF5 := hide hf5; clear o5 hb5 hf5)
      go_ret
      exact ⟨_, ys, rfl, unhide HO5, by omega, unhide (hid_next (hid_next HB1 HBR) HB5), fun k hk => Nat.le_trans (unhide (hid_next HB1 HBR)).size (unhide HF5 k hk)⟩

theorem refEvery_any (w : World) : Calls Tryz.prog 276 #[] w (SpansUpTo w 1) := by
  have HC := hide (refOthers_any [] (.slice none 0 0) w (by simp) (SpansAt.nil w))
  go_enter Tryz.func276, Tryz.ntmps276
  go_wp2_with (go_at_call 300; refine (unhide HC).mono ?_; clear HC; rintro e w1 ⟨v1, ys, rfl, o1, hz, hb1, hf1⟩)
  go_ret
  exact ⟨_, ys, rfl, o1, by simpa using hz, hb1, hf1⟩

/-- a literal slice of spans. -/
theorem spans_lit (w : World) (l : List (Int × Int)) (cs : Array Value) (h : cs.toList = spanCells l) (hl : l.length ≤ 1000) : SpansAt (w.alloc (.cells cs 215)) (.slice (some ⟨w.heap.size, 0, none⟩) l.length l.length) l := by
  have hc := spanCells_length l
  refine ⟨by rw [hc], .inr ⟨w.heap.size, l.length, cs, rfl, Nat.zero_le _, heap_alloc_new w _, Nat.le_refl _, by unfold maxLen; omega, ?_, ?_⟩⟩
  · rw [← hc, ← h]; simp
  · rw [h, List.take_of_length_le (by omega)]

def SpansAre (w : World) (l : List (Int × Int)) (e : Ending) (w' : World) : Prop := ∃ n c, e = .returned (.slice (some ⟨w.heap.size, 0, none⟩) n c) ∧ SpansAt w' (.slice (some ⟨w.heap.size, 0, none⟩) n c) l ∧ Below w.heap.size w w'

theorem refSingle_any (c : Int) (w : World) : Calls Tryz.prog 277 #[.int .i64 c] w (SpansAre w [(c, c)]) := by
  go_enter Tryz.func277, Tryz.ntmps277
  go_wp2_with fail
  go_ret
  exact ⟨_, _, rfl, spans_lit w [(c, c)] _ rfl (by simp), (Below.refl _ _).alloc (Nat.le_refl _) _⟩
theorem refDigits_any (w : World) : Calls Tryz.prog 301 #[] w (SpansAre w [(48, 57)]) := by
  go_enter Tryz.func301, Tryz.ntmps301
  go_wp2_with fail
  go_ret
  exact ⟨_, _, rfl, spans_lit w [(48, 57)] _ rfl (by simp), (Below.refl _ _).alloc (Nat.le_refl _) _⟩
theorem refLetters_any (w : World) : Calls Tryz.prog 302 #[] w (SpansAre w [(48, 57), (65, 90), (95, 95), (97, 122)]) := by
  go_enter Tryz.func302, Tryz.ntmps302
  go_wp2_with fail
  go_ret
  exact ⟨_, _, rfl, spans_lit w [(48, 57), (65, 90), (95, 95), (97, 122)] _ rfl (by simp), (Below.refl _ _).alloc (Nat.le_refl _) _⟩
end Go.Proofs.YtfolanohokflkaaGreatDoor
