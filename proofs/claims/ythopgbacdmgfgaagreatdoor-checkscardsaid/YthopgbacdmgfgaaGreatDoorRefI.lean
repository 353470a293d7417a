import Derived.Test.YthopgbacdmgfgaaGreatDoorRefH
import Derived.WalkKit
import Derived.WalkSpells
import Derived.WalkLawsBesides
namespace Go.Proofs.YthopgbacdmgfgaaGreatDoor
open Go.RowKit

/-- a slice of spans that can be read. -/
def SpansAt (w : World) (v : Value) (l : List (Int × Int)) : Prop := w.ownsRow 0 100 2 v l.length (spanCells l)
theorem SpansAt.below {w w' : World} {v : Value} {l : List (Int × Int)} (h : SpansAt w v l) (hb : Below w.heap.size w w') : SpansAt w' v l := own_below h hb (Nat.le_refl _)
theorem SpansAt.nil (w : World) : SpansAt w (.slice none 0 0) [] := World.ownsRow_nil _ _ _ _

/-- in, met in a later world. -/
theorem in_rel (w wr : World) (l : List (Int × Int)) (v : Value) (c : Int) (h : Hid (SpansAt w v l)) (hl : l.length ≤ 1000) (hb : Hid (Below w.heap.size w wr)) :
    Calls Tryz.prog 60 #[v, .int .i64 c] wr fun e w' => IsBool e ∧ Hid (Below wr.heap.size wr w') := by
  refine (refIn_any l v c wr (by omega) ((unhide h).below hb)).mono ?_
  rintro e w' ⟨h1, h2⟩
  exact ⟨h1, h2⟩

theorem hid_next {w wr w1 : World} (hb : Hid (Below w.heap.size w wr)) (h : Hid (Below wr.heap.size wr w1)) : Hid (Below w.heap.size w w1) := below_next hb h
theorem cell_next {w w' : World} (hb : Hid (Below w.heap.size w w')) {g k : Nat} {v : Value} (h : w.cell? ⟨g, k, none⟩ = some v) : w'.cell? ⟨g, k, none⟩ = some v := by
  rw [(unhide hb).cell (p := ⟨g, k, none⟩) (World.block_lt_of_cell? w _ h)]; exact h
theorem own_next {w w' : World} {base e size n : Nat} {v : Value} {xs : List Value} (h : Hid (w.ownsRow base e size v n xs)) (hb : Hid (Below w.heap.size w w')) : Hid (w'.ownsRow base e size v n xs) := own_below (unhide h) hb (Nat.le_refl _)
def KeepRel (w wr : World) (v : Value) (k : Nat) : Prop := ∃ bs : List Bool, bs.length = k ∧ wr.ownsRow w.heap.size 4 1 v k (bools bs)
theorem keep_next {w wr : World} {v : Value} {bs : List Bool} {b : Bool} (h : Hid (wr.ownsRow w.heap.size 4 1 v (bs ++ [b]).length (bools (bs ++ [b])))) : Hid (KeepRel w wr v (bs.length + 1)) :=
  ⟨bs ++ [b], by simp, by rw [show bs.length + 1 = (bs ++ [b]).length from by simp]; exact h⟩

set_option maxRecDepth 100000 in
set_option maxHeartbeats 2000000 in
theorem refUnion_any (a b : List (Int × Int)) (va vb : Value) (w : World) (ha : a.length ≤ 1000) (hb : b.length ≤ 1000) (oa : SpansAt w va a) (ob : SpansAt w vb b) :
    Calls Tryz.prog 80 #[va, vb] w (SpansUpTo w (a.length + b.length + 1)) := by
  have HC := hide (refCuts_any a b va vb w ha hb oa ob)
  have HA0 := hide oa
  have HB0 := hide ob
  clear oa ob
  go_enter Tryz.func80, Tryz.ntmps80
  go_wp2_with (go_at_call 91; refine (unhide HC).mono ?_; clear HC; rintro e w1 ⟨v1, zs, rfl, o1, hz, hb1⟩; have HO1 := hide o1; have HB1 := hide hb1; obtain ⟨az, cz, rfl, hvz⟩ := own_view o1; have HV := hide hvz; have HA := hide ((unhide HA0).below hb1); have HB := hide ((unhide HB0).below hb1); clear o1 hb1 hvz HA0 HB0)
  go_loopw [6, 7] (fun v i wr => ∃ k : Nat, k ≤ zs.length ∧ i = .int .i64 k ∧ Hid (KeepRel w1 wr v k) ∧ Hid (Below w1.heap.size w1 wr)) (fun _ i _ => zs.length - (intOf i).toNat)
  case atStart => exact ⟨0, Nat.zero_le _, rfl, ⟨[], rfl, World.ownsRow_nil _ _ _ _⟩, Below.refl _ _⟩
  case round =>
    obtain ⟨k, hk, rfl, HK, HBR⟩ := hrel
    obtain ⟨bs, hbs, hkown⟩ := unhide HK
    subst hbs
    have HKO := hide hkown
    clear hkown HK
    by_cases hlt : bs.length < zs.length
    · obtain ⟨g, rfl, -, hg, hc, -⟩ := unhide HV (by omega)
      have h1 := hc bs.length (by omega)
      rw [ints_at zs bs.length hlt] at h1
      generalize zs.getD bs.length 0 = z at h1
      have h1' := cell_next HBR h1
      clear h1 hc HV HO1
      go_wp2_with (first
        | (go_at_call 60; refine (in_rel w1 wr a va z HA ha HBR).mono ?_; clear HA; rintro e w2 ⟨⟨_ | _, rfl⟩, hb2⟩ <;> (have h2' := cell_next hb2 h1'; have HBR2 := hid_next HBR hb2; have HKO2 := own_next HKO hb2; clear h1' HBR HKO hb2))
        | (go_at_call 60; refine (in_rel w1 w2 b vb z HB hb HBR2).mono ?_; clear HB; rintro e w3 ⟨⟨bb, rfl⟩, hb3⟩; have HBR3 := hid_next HBR2 hb3; have HKO3 := own_next HKO2 hb3; clear h2' HBR2 HKO2 hb3)
        | (at_builtin; refine app_bool w1 w3 bs _ _ (.tmp 32) (.tmp 37) rfl rfl rfl rfl HKO3 HBR3 (by omega) ?_; intro v4 w4 HW4 HB4))
      all_goals
        have HX : Hid (KeepRel w1 w4 v4 (bs.length + 1)) := keep_next HW4
        clear HW4 HKO3 HBR3
        go_wp2_with fail
        go_roundw
        case rel => exact ⟨bs.length + 1, by omega, by go_num, HX, HB4⟩
        case measure => simp [intOf]; omega
    · have hlen : bs.length = zs.length := by omega
      have HL := hide hlen
      have HT := hide (refTidy_any zs bs _ u6 wr (by omega) hlen (own_next HO1 HBR) (by rw [← hlen]; exact own_base (unhide HKO) (Nat.zero_le _)))
      clear HV HO1 HA HB hlen
      go_wp2_with (go_at_call 92; refine (unhide HT).mono ?_; clear HT; rintro e w5 ⟨v5, ys, rfl, o5, hy5, hb5, hf5⟩; have HO5 := hide o5; have HB5 := hide hb5; have HF5 := hide hf5; clear o5 hb5 hf5)
      go_ret
      exact ⟨_, ys, rfl, unhide HO5, by omega, unhide (hid_next (hid_next HB1 HBR) HB5), fun k hk => Nat.le_trans (unhide (hid_next HB1 HBR)).size (unhide HF5 k hk)⟩

set_option maxRecDepth 100000 in
set_option maxHeartbeats 2000000 in
theorem refOthers_any (a : List (Int × Int)) (va : Value) (w : World) (ha : a.length ≤ 1000) (oa : SpansAt w va a) :
    Calls Tryz.prog 107 #[va] w (SpansUpTo w (a.length + 1)) := by
  have HC := hide (refCuts_any a [] va (.slice none 0 0) w ha (by simp) oa (SpansAt.nil w))
  have HA0 := hide oa
  clear oa
  go_enter Tryz.func107, Tryz.ntmps107
  go_wp2_with (go_at_call 91; refine (unhide HC).mono ?_; clear HC; rintro e w1 ⟨v1, zs, rfl, o1, hz, hb1⟩; have HO1 := hide o1; have HB1 := hide hb1; obtain ⟨az, cz, rfl, hvz⟩ := own_view o1; have HV := hide hvz; have HA := hide ((unhide HA0).below hb1); clear o1 hb1 hvz HA0)
  have hz' : zs.length ≤ 1 + 2 * a.length := hz
  clear hz
  go_loopw [4, 5] (fun v i wr => ∃ k : Nat, k ≤ zs.length ∧ i = .int .i64 k ∧ Hid (KeepRel w1 wr v k) ∧ Hid (Below w1.heap.size w1 wr)) (fun _ i _ => zs.length - (intOf i).toNat)
  case atStart => exact ⟨0, Nat.zero_le _, rfl, ⟨[], rfl, World.ownsRow_nil _ _ _ _⟩, Below.refl _ _⟩
  case round =>
    obtain ⟨k, hk, rfl, HK, HBR⟩ := hrel
    obtain ⟨bs, hbs, hkown⟩ := unhide HK
    subst hbs
    have HKO := hide hkown
    clear hkown HK
    by_cases hlt : bs.length < zs.length
    · obtain ⟨g, rfl, -, hg, hc, -⟩ := unhide HV (by omega)
      have h1 := hc bs.length (by omega)
      rw [ints_at zs bs.length hlt] at h1
      generalize zs.getD bs.length 0 = z at h1
      have h1' := cell_next HBR h1
      clear h1 hc HV HO1
      go_wp2_with (first
        | (go_at_call 60; refine (in_rel w1 wr a va z HA ha HBR).mono ?_; clear HA; rintro e w2 ⟨⟨bb, rfl⟩, hb2⟩; have HBR3 := hid_next HBR hb2; have HKO3 := own_next HKO hb2; clear h1' HBR HKO hb2)
        | (at_builtin; refine app_bool w1 w2 bs _ _ (.tmp 22) (.tmp 25) rfl rfl rfl rfl HKO3 HBR3 (by omega) ?_; intro v4 w4 HW4 HB4))
      all_goals
        have HX : Hid (KeepRel w1 w4 v4 (bs.length + 1)) := keep_next HW4
        clear HW4 HKO3 HBR3
        go_wp2_with fail
        go_roundw
        case rel => exact ⟨bs.length + 1, by omega, by go_num, HX, HB4⟩
        case measure => simp [intOf]; omega
    · have hlen : bs.length = zs.length := by omega
      have HL := hide hlen
      have HT := hide (refTidy_any zs bs _ u4 wr (by omega) hlen (own_next HO1 HBR) (by rw [← hlen]; exact own_base (unhide HKO) (Nat.zero_le _)))
      clear HV HO1 HA hlen
      go_wp2_with (go_at_call 92; refine (unhide HT).mono ?_; clear HT; rintro e w5 ⟨v5, ys, rfl, o5, hy5, hb5, hf5⟩; have HO5 := hide o5; have HB5 := hide hb5; have HF5 := hide hf5; clear o5 hb5 hf5)
      go_ret
      exact ⟨_, ys, rfl, unhide HO5, by omega, unhide (hid_next (hid_next HB1 HBR) HB5), fun k hk => Nat.le_trans (unhide (hid_next HB1 HBR)).size (unhide HF5 k hk)⟩

theorem refEvery_any (w : World) : Calls Tryz.prog 100 #[] w (SpansUpTo w 1) := by
  have HC := hide (refOthers_any [] (.slice none 0 0) w (by simp) (SpansAt.nil w))
  go_enter Tryz.func100, Tryz.ntmps100
  go_wp2_with (go_at_call 107; refine (unhide HC).mono ?_; clear HC; rintro e w1 ⟨v1, ys, rfl, o1, hz, hb1, hf1⟩)
  go_ret
  exact ⟨_, ys, rfl, o1, by simpa using hz, hb1, hf1⟩

/-- a literal slice of spans. -/
theorem spans_lit (w : World) (l : List (Int × Int)) (cs : Array Value) (h : cs.toList = spanCells l) (hl : l.length ≤ 1000) : SpansAt (w.alloc (.cells cs 100)) (.slice (some ⟨w.heap.size, 0, none⟩) l.length l.length) l := by
  have hc := spanCells_length l
  refine ⟨by rw [hc], .inr ⟨w.heap.size, l.length, cs, rfl, Nat.zero_le _, heap_alloc_new w _, Nat.le_refl _, by unfold maxLen; omega, ?_, ?_⟩⟩
  · rw [← hc, ← h]; simp
  · rw [h, List.take_of_length_le (by omega)]

def SpansAre (w : World) (l : List (Int × Int)) (e : Ending) (w' : World) : Prop := ∃ n c, e = .returned (.slice (some ⟨w.heap.size, 0, none⟩) n c) ∧ SpansAt w' (.slice (some ⟨w.heap.size, 0, none⟩) n c) l ∧ Below w.heap.size w w'

theorem refSingle_any (c : Int) (w : World) : Calls Tryz.prog 101 #[.int .i64 c] w (SpansAre w [(c, c)]) := by
  go_enter Tryz.func101, Tryz.ntmps101
  go_wp2_with fail
  go_ret
  exact ⟨_, _, rfl, spans_lit w [(c, c)] _ rfl (by simp), (Below.refl _ _).alloc (Nat.le_refl _) _⟩
theorem refDigits_any (w : World) : Calls Tryz.prog 108 #[] w (SpansAre w [(48, 57)]) := by
  go_enter Tryz.func108, Tryz.ntmps108
  go_wp2_with fail
  go_ret
  exact ⟨_, _, rfl, spans_lit w [(48, 57)] _ rfl (by simp), (Below.refl _ _).alloc (Nat.le_refl _) _⟩
theorem refLetters_any (w : World) : Calls Tryz.prog 109 #[] w (SpansAre w [(48, 57), (65, 90), (95, 95), (97, 122)]) := by
  go_enter Tryz.func109, Tryz.ntmps109
  go_wp2_with fail
  go_ret
  exact ⟨_, _, rfl, spans_lit w [(48, 57), (65, 90), (95, 95), (97, 122)] _ rfl (by simp), (Below.refl _ _).alloc (Nat.le_refl _) _⟩
end Go.Proofs.YthopgbacdmgfgaaGreatDoor
