import Derived.Test.YthopgbacdmgfgaaGreatDoorRefM
import Derived.WalkKit
import Derived.WalkSpells
import Derived.WalkLawsBesides
namespace Go.Proofs.YthopgbacdmgfgaaGreatDoor
open Go.RowKit

/-- the reader has come to a result's end. -/
def Ends {a : Type} (r : Res a) (L : List Sy) (i : Nat) (e p : Int) : Prop :=
  match r with
  | .ok x => e = 0 ∧ p = 0 ∧ L.drop i = x.2
  | .error x => e = x.1 ∧ p = x.2 ∧ ¬ x.1 = 0
theorem ends_bad {a : Type} (e : Int) (he : ¬ e = 0) (n : Nat) (L : List Sy) (i : Nat) : Ends (bad (a := a) e n (L.drop i)) L i e (plc n (L.drop i)) := ⟨rfl, rfl, he⟩
theorem ends_ok {a : Type} (x : a) (L : List Sy) (i : Nat) : Ends (.ok (x, L.drop i)) L i 0 0 := ⟨rfl, rfl, rfl⟩
theorem drop_lt {L : List Sy} {i : Nat} (h : 0 ≤ hd (L.drop i)) : i < L.length := by
  rcases Nat.lt_or_ge i L.length with h' | h'
  · exact h'
  · rw [List.drop_eq_nil_of_le h'] at h; simp [hd] at h
theorem drop_tail (L : List Sy) (i : Nat) : (L.drop i).tail = L.drop (i + 1) := by rw [List.tail_drop]
theorem hd_ge (l : List Sy) : -1 ≤ hd l := by cases l <;> simp [hd] <;> omega

section
variable {w0 w : World} {v0 : Value} {b : Nat} {s : ByteArray} {L : List Sy} {vs vn : Value} {i : Nat} {d : Int} {szs : List Int}

def NumPost (w0 : World) (v0 : Value) (b : Nat) (s : ByteArray) (L : List Sy) (vs vn : Value) (i : Nat) (d : Int) (szs : List Int) (x : Ending) (w' : World) : Prop :=
  x = .returned (.int .i64 (if isDig (hd (L.drop i)) = true then (numV (L.drop i)).1 else 0)) ∧ ∃ i' e' p', Hid (St w0 v0 w' b s L vs vn i' d szs e' p') ∧ i ≤ i' ∧ Ends (numberS s.size 0 (L.drop i)) L i' e' p'

theorem num_hyps (c : Int) (h0 : -1 ≤ c) : (c < 48 ∧ isDig c = false) ∨ (57 < c ∧ isDig c = false) ∨ (48 ≤ c ∧ c ≤ 57 ∧ isDig c = true) := by
  by_cases h1 : c < 48
  · exact .inl ⟨h1, by simp [isDig]; omega⟩
  · by_cases h2 : 57 < c
    · exact .inr (.inl ⟨h2, by simp [isDig]; omega⟩)
    · exact .inr (.inr ⟨by omega, by omega, by simp [isDig]; omega⟩)

theorem num_no (h : isDig (hd (L.drop i)) = false) {w' : World} (hs : Hid (St w0 v0 w' b s L vs vn i d szs 2 (plc s.size (L.drop i)))) : NumPost w0 v0 b s L vs vn i d szs (.returned (.int .i64 0)) w' := by
  refine ⟨by rw [h]; rfl, i, 2, _, hs, Nat.le_refl _, ?_⟩
  rw [numberS, h]
  exact ends_bad 2 (by decide) _ _ _
theorem num_ok {j : Nat} {z : Int} (h : isDig (hd (L.drop i)) = true) (hv : numV (L.drop i) = (z, L.drop j)) (hij : i ≤ j) (h0 : 0 ≤ z) (h12 : z ≤ 12) {w' : World} (hs : Hid (St w0 v0 w' b s L vs vn j d szs 0 0)) : NumPost w0 v0 b s L vs vn i d szs (.returned (.int .i64 z)) w' := by
  refine ⟨by rw [h, hv]; rfl, j, 0, 0, hs, hij, ?_⟩
  rw [numberS, h, if_pos rfl, hv, if_neg (by dsimp only; omega)]
  exact ends_ok _ _ _
theorem num_big {j : Nat} {z : Int} (h : isDig (hd (L.drop i)) = true) (hv : numV (L.drop i) = (z, L.drop j)) (hij : i ≤ j) (h12 : 12 < z) {w' : World} (hs : Hid (St w0 v0 w' b s L vs vn j d szs 3 (plc s.size (L.drop j)))) : NumPost w0 v0 b s L vs vn i d szs (.returned (.int .i64 z)) w' := by
  refine ⟨by rw [h, hv]; rfl, j, 3, _, hs, hij, ?_⟩
  rw [numberS, h, if_pos rfl, hv, if_pos (by dsimp only; omega)]
  exact ends_bad 3 (by decide) _ _ _

set_option maxRecDepth 100000 in
set_option maxHeartbeats 2000000 in
theorem number_st (h : Hid (St w0 v0 w b s L vs vn i d szs 0 0)) :
    Calls Tryz.prog 102 #[.pointer (some ⟨b, 0, none⟩)] w (NumPost w0 v0 b s L vs vn i d szs) := by
  have hc := hd_ge (L.drop i)
  have hlen := (unhide h).rs.len
  have HL := hide (look_st h)
  clear h
  rcases num_hyps _ hc with ⟨h1, h2⟩ | ⟨h1, h2⟩ | ⟨h1, h2, h3⟩
  · have HD := hide h2
    generalize hcc : hd (L.drop i) = c at h1 hc
    have HL : Hid (Calls Tryz.prog 70 #[.pointer (some ⟨b, 0, none⟩)] w fun x w' => x = .returned (.int .i64 c) ∧ Hid (St w0 v0 w' b s L vs vn i d szs 0 0)) := by rw [← hcc]; exact HL
    clear h2 hcc
    go_enter Tryz.func102, Tryz.ntmps102
    go_wp2_with (first
      | (go_at_call 70; refine (unhide HL).mono ?_; clear HL; rintro x w1 ⟨rfl, HS⟩)
      | (go_at_call 46; refine (wrong_new HS 2).mono ?_; rintro x w2 ⟨rfl, HS2⟩))
    go_ret
    exact num_no (unhide HD) HS2
  · have HD := hide h2
    generalize hcc : hd (L.drop i) = c at h1 hc
    have HL : Hid (Calls Tryz.prog 70 #[.pointer (some ⟨b, 0, none⟩)] w fun x w' => x = .returned (.int .i64 c) ∧ Hid (St w0 v0 w' b s L vs vn i d szs 0 0)) := by rw [← hcc]; exact HL
    clear h2 hcc
    go_enter Tryz.func102, Tryz.ntmps102
    go_wp2_with (first
      | (go_at_call 70; refine (unhide HL).mono ?_; clear HL; rintro x w1 ⟨rfl, HS⟩)
      | (go_at_call 46; refine (wrong_new HS 2).mono ?_; rintro x w2 ⟨rfl, HS2⟩))
    go_ret
    exact num_no (unhide HD) HS2
  · have HD := hide h3
    have hi := drop_lt (show 0 ≤ hd (L.drop i) by omega)
    have hc2 := hd_ge (L.drop (i + 1))
    have hnv : numV (L.drop i) = if 0 < hd (L.drop i) - 48 ∧ isDig (hd (L.drop (i + 1))) = true then (10 * (hd (L.drop i) - 48) + (hd (L.drop (i + 1)) - 48), L.drop (i + 2)) else (hd (L.drop i) - 48, L.drop (i + 1)) := by
      rw [numV, drop_tail, drop_tail]
    have HV := hide hnv
    clear hnv h3
    generalize hcc : hd (L.drop i) = c at h1 h2 hc HV
    generalize hcc2 : hd (L.drop (i + 1)) = c2 at hc2 HV
    have HL : Hid (Calls Tryz.prog 70 #[.pointer (some ⟨b, 0, none⟩)] w fun x w' => x = .returned (.int .i64 c) ∧ Hid (St w0 v0 w' b s L vs vn i d szs 0 0)) := by rw [← hcc]; exact HL
    have HL2 : Hid (∀ w1, Hid (St w0 v0 w1 b s L vs vn (i + 1) d szs 0 0) → Calls Tryz.prog 70 #[.pointer (some ⟨b, 0, none⟩)] w1 fun x w' => x = .returned (.int .i64 c2) ∧ Hid (St w0 v0 w' b s L vs vn (i + 1) d szs 0 0)) := by
      intro w1 hs; rw [← hcc2]; exact look_st hs
    have HI2 : Hid (48 ≤ c2 → i + 1 < L.length) := fun hx => drop_lt (by rw [hcc2]; omega)
    clear hcc hcc2
    by_cases hz : c = 48
    · subst hz
      rw [if_neg (by omega)] at HV
      go_enter Tryz.func102, Tryz.ntmps102
      go_wp2_with (first
        | (go_at_call 70; refine (unhide HL).mono ?_; clear HL; rintro x w1 ⟨rfl, HS⟩; have q2 := (unhide HS).rs.c2; have f2 := (unhide HS).rs.fz 2)
        | (go_at_call 70; refine (unhide HL2 _ (St.up HS hi)).mono ?_; clear HL2; rintro x w2 ⟨rfl, HS2⟩))
      go_ret
      exact num_ok (unhide HD) (unhide HV) (by omega) (by omega) (by omega) HS2
    · rcases num_hyps _ hc2 with ⟨g1, g2⟩ | ⟨g1, g2⟩ | ⟨g1, g2, g3⟩
      · rw [g2, if_neg (by simp)] at HV
        clear g2
        go_enter Tryz.func102, Tryz.ntmps102
        go_wp2_with (first
          | (go_at_call 70; refine (unhide HL).mono ?_; clear HL; rintro x w1 ⟨rfl, HS⟩; have q2 := (unhide HS).rs.c2; have f2 := (unhide HS).rs.fz 2)
          | (go_at_call 70; refine (unhide HL2 _ (St.up HS hi)).mono ?_; clear HL2; rintro x w2 ⟨rfl, HS2⟩))
        go_ret
        exact num_ok (unhide HD) (unhide HV) (by omega) (by omega) (by omega) HS2
      · rw [g2, if_neg (by simp)] at HV
        clear g2
        go_enter Tryz.func102, Tryz.ntmps102
        go_wp2_with (first
          | (go_at_call 70; refine (unhide HL).mono ?_; clear HL; rintro x w1 ⟨rfl, HS⟩; have q2 := (unhide HS).rs.c2; have f2 := (unhide HS).rs.fz 2)
          | (go_at_call 70; refine (unhide HL2 _ (St.up HS hi)).mono ?_; clear HL2; rintro x w2 ⟨rfl, HS2⟩))
        go_ret
        exact num_ok (unhide HD) (unhide HV) (by omega) (by omega) (by omega) HS2
      · have hi2 : i + 1 < L.length := unhide HI2 g1
        rw [g3, if_pos ⟨by omega, rfl⟩] at HV
        have hzz : 10 * (c - 48) + (c2 - 48) = 10 * (c - 48) + c2 - 48 := by omega
        rw [hzz] at HV
        clear hzz g3
        by_cases hbig : 12 < 10 * (c - 48) + c2 - 48
        · go_enter Tryz.func102, Tryz.ntmps102
          go_wp2_with (first
            | (go_at_call 70; refine (unhide HL).mono ?_; clear HL; rintro x w1 ⟨rfl, HS⟩; have q2 := (unhide HS).rs.c2; have f2 := (unhide HS).rs.fz 2)
            | (go_at_call 70; refine (unhide HL2 _ (St.up HS hi)).mono ?_; clear HL2; rintro x w2 ⟨rfl, HS2⟩; clear q2 f2; have q2 := (unhide HS2).rs.c2; have f2 := (unhide HS2).rs.fz 2)
            | (go_at_call 46; refine (wrong_new (St.up HS2 hi2) 3).mono ?_; rintro x w3 ⟨rfl, HS3⟩))
          go_ret
          exact num_big (unhide HD) (unhide HV) (by omega) (by omega) HS3
        · go_enter Tryz.func102, Tryz.ntmps102
          go_wp2_with (first
            | (go_at_call 70; refine (unhide HL).mono ?_; clear HL; rintro x w1 ⟨rfl, HS⟩; have q2 := (unhide HS).rs.c2; have f2 := (unhide HS).rs.fz 2)
            | (go_at_call 70; refine (unhide HL2 _ (St.up HS hi)).mono ?_; clear HL2; rintro x w2 ⟨rfl, HS2⟩; clear q2 f2; have q2 := (unhide HS2).rs.c2; have f2 := (unhide HS2).rs.fz 2))
          go_ret
          exact num_ok (unhide HD) (unhide HV) (by omega) (by omega) (by omega) (St.up HS2 hi2)
end
end Go.Proofs.YthopgbacdmgfgaaGreatDoor
