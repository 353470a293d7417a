import Derived.Test.YtihjfoldgnoolaaGreatDoorRefL
import Derived.WalkKit
import Derived.WalkSpells
import Derived.WalkLawsBesides
namespace Go.Proofs.YtihjfoldgnoolaaGreatDoor
open Go.RowKit

/-- the state of the reader, and what was left alone since the world w0. -/
structure St (w0 : World) (v0 : Value) (w : World) (b : Nat) (s : ByteArray) (L : List Sy) (vs vn : Value) (i : Nat) (d : Int) (szs : List Int) (e p : Int) : Prop where
  rs : RS w b s L vs vn i d szs e p
  fr : Fr b v0 w0 w vn
  le : i ≤ L.length

section
variable {w0 w : World} {v0 : Value} {b : Nat} {s : ByteArray} {L : List Sy} {vs vn : Value} {i : Nat} {d : Int} {szs : List Int} {e p : Int}

theorem St.up (h : Hid (St w0 v0 w b s L vs vn i d szs e p)) (hi : i < L.length) : Hid (St w0 v0 (w.setCell ⟨b, 2, none⟩ (.int .i64 ((i : Int) + 1))) b s L vs vn (i + 1) d szs e p) :=
  ⟨(unhide h).rs.setAt (i + 1), (unhide h).fr.trans (Fr.set _ _ _ _ _), by omega⟩
theorem St.dep (h : Hid (St w0 v0 w b s L vs vn i d szs e p)) (d' : Int) : Hid (St w0 v0 (w.setCell ⟨b, 3, none⟩ (.int .i64 d')) b s L vs vn i d' szs e p) :=
  ⟨(unhide h).rs.setDepth d', (unhide h).fr.trans (Fr.set _ _ _ _ _), (unhide h).le⟩
theorem St.below {w' : World} (h : Hid (St w0 v0 w b s L vs vn i d szs e p)) (hb : Below w.heap.size w w') : Hid (St w0 v0 w' b s L vs vn i d szs e p) := by
  obtain ⟨r, f, l⟩ := unhide h
  have hlt := r.lt
  have hc : ∀ k v, w.cell? ⟨b, k, none⟩ = some v → w'.cell? ⟨b, k, none⟩ = some v := fun k v q => by rw [hb.cell (p := ⟨b, k, none⟩) hlt]; exact q
  obtain ⟨xs, x1, x2⟩ := r.nodes
  exact ⟨⟨hc _ _ r.c0, hc _ _ r.c1, hc _ _ r.c2, hc _ _ r.c3, hc _ _ r.c4, hc _ _ r.c5, hc _ _ r.c6, fun k => by rw [hb.frozen (p := ⟨b, k, none⟩) hlt]; exact r.fz k, own_below r.syms hb (Nat.le_refl _), r.symsNe, ⟨xs, own_below x1 hb (Nat.le_refl _), x2⟩, r.nodesNe, r.apart, r.len, r.small⟩, f.trans (Fr.of_below hb), l⟩

theorem look_st (h : Hid (St w0 v0 w b s L vs vn i d szs e p)) :
    Calls Tryz.prog 171 #[.pointer (some ⟨b, 0, none⟩)] w fun x w' => x = .returned (.int .i64 (lookV e (L.drop i))) ∧ Hid (St w0 v0 w' b s L vs vn i d szs e p) := by
  refine (refLook_any w b s L vs vn i d szs e p (unhide h).le (unhide h).rs).mono ?_
  rintro x w' ⟨rfl, hs⟩
  exact ⟨rfl, ⟨(unhide h).rs.same hs, (unhide h).fr.trans (Fr.same hs), (unhide h).le⟩⟩
theorem is_yes (h : Hid (St w0 v0 w b s L vs vn i d szs e p)) (c : Int) (hc : 0 ≤ c) (hc' : c < 256) (hl : Hid (lookV e (L.drop i) = c)) :
    Calls Tryz.prog 175 #[.pointer (some ⟨b, 0, none⟩), .int .u8 c] w fun x w' => x = .returned (.bool true) ∧ Hid (St w0 v0 w' b s L vs vn (i + 1) d szs e p) := by
  refine (refIs_yes w b s L vs vn i d szs e p c (unhide h).le (unhide h).rs hc hc' (unhide hl)).mono ?_
  rintro x w' ⟨rfl, hs, hf, hi⟩
  exact ⟨rfl, ⟨hs, (unhide h).fr.trans hf, hi⟩⟩
theorem is_no (h : Hid (St w0 v0 w b s L vs vn i d szs e p)) (c : Int) (hc : 0 ≤ c) (hc' : c < 256) (hl : Hid (¬ lookV e (L.drop i) = c)) :
    Calls Tryz.prog 175 #[.pointer (some ⟨b, 0, none⟩), .int .u8 c] w fun x w' => x = .returned (.bool false) ∧ Hid (St w0 v0 w' b s L vs vn i d szs e p) := by
  refine (refIs_no w b s L vs vn i d szs e p c (unhide h).le (unhide h).rs hc hc' (unhide hl)).mono ?_
  rintro x w' ⟨rfl, hs⟩
  exact ⟨rfl, ⟨(unhide h).rs.same hs, (unhide h).fr.trans (Fr.same hs), (unhide h).le⟩⟩
theorem wrong_new (h : Hid (St w0 v0 w b s L vs vn i d szs 0 p)) (err : Int) :
    Calls Tryz.prog 126 #[.pointer (some ⟨b, 0, none⟩), .int .i64 err] w fun x w' => x = .returned (.tuple #[]) ∧ Hid (St w0 v0 w' b s L vs vn i d szs err (plc s.size (L.drop i))) := by
  refine (refWrong_new w b s L vs vn i d szs p err (unhide h).le (unhide h).rs).mono ?_
  rintro x w' ⟨rfl, hs, hf⟩
  exact ⟨rfl, ⟨hs, (unhide h).fr.trans hf, (unhide h).le⟩⟩
theorem wrong_old (h : Hid (St w0 v0 w b s L vs vn i d szs e p)) (err : Int) (he : Hid (¬ e = 0)) :
    Calls Tryz.prog 126 #[.pointer (some ⟨b, 0, none⟩), .int .i64 err] w fun x w' => x = .returned (.tuple #[]) ∧ Hid (St w0 v0 w' b s L vs vn i d szs e p) := by
  refine (refWrong_old w b s L vs vn i d szs e p err (unhide he) (unhide h).rs).mono ?_
  rintro x w' ⟨rfl, rfl⟩
  exact ⟨rfl, h⟩
theorem add_st (h : Hid (St w0 v0 w b s L vs vn i d szs e p)) (hsz : szs.length ≤ 10000) (kd ls ms z : Int) (v1 v2 : Value) (o1 : v1.oneCell' = true) (o2 : v2.oneCell' = true) :
    Calls Tryz.prog 233 #[.pointer (some ⟨b, 0, none⟩), .agg #[.int .i64 kd, v1, v2, .int .i64 ls, .int .i64 ms, .int .i64 z]] w fun x w' =>
      x = .returned (.int .i64 szs.length) ∧ ∃ vn', Hid (St w0 v0 w' b s L vs vn' i d (szs ++ [z]) e p) := by
  refine (refAdd_any w b s L vs vn i d szs e p (unhide h).rs hsz kd ls ms z v1 v2 o1 o2).mono ?_
  rintro x w' ⟨rfl, vn', hs, hf⟩
  exact ⟨rfl, vn', ⟨hs, (unhide h).fr.trans hf, (unhide h).le⟩⟩

set_option maxRecDepth 100000 in
set_option maxHeartbeats 1000000 in
theorem want_yes (h : Hid (St w0 v0 w b s L vs vn i d szs e p)) (c : Int) (hc : 0 ≤ c) (hc' : c < 256) (hl : Hid (lookV e (L.drop i) = c)) :
    Calls Tryz.prog 263 #[.pointer (some ⟨b, 0, none⟩), .int .u8 c] w fun x w' => x = .returned (.tuple #[]) ∧ Hid (St w0 v0 w' b s L vs vn (i + 1) d szs e p) := by
  go_enter Tryz.func263, Tryz.ntmps263
  go_wp2_with (go_at_call 175; refine (is_yes h c hc hc' hl).mono ?_; rintro x w1 ⟨rfl, HS⟩)
  go_end0
  exact ⟨rfl, HS⟩
set_option maxRecDepth 100000 in
set_option maxHeartbeats 1000000 in
theorem want_no (h : Hid (St w0 v0 w b s L vs vn i d szs 0 p)) (c : Int) (hc : 0 ≤ c) (hc' : c < 256) (hl : Hid (¬ lookV 0 (L.drop i) = c)) :
    Calls Tryz.prog 263 #[.pointer (some ⟨b, 0, none⟩), .int .u8 c] w fun x w' => x = .returned (.tuple #[]) ∧ Hid (St w0 v0 w' b s L vs vn i d szs 2 (plc s.size (L.drop i))) := by
  go_enter Tryz.func263, Tryz.ntmps263
  go_wp2_with (first
    | (go_at_call 175; refine (is_no h c hc hc' hl).mono ?_; rintro x w1 ⟨rfl, HS⟩)
    | (go_at_call 126; refine (wrong_new HS 2).mono ?_; rintro x w2 ⟨rfl, HS2⟩))
  go_end0
  exact ⟨rfl, HS2⟩
set_option maxRecDepth 100000 in
set_option maxHeartbeats 1000000 in
theorem want_old (h : Hid (St w0 v0 w b s L vs vn i d szs e p)) (c : Int) (hc : 0 ≤ c) (hc' : c < 256) (he : Hid (¬ e = 0)) :
    Calls Tryz.prog 263 #[.pointer (some ⟨b, 0, none⟩), .int .u8 c] w fun x w' => x = .returned (.tuple #[]) ∧ Hid (St w0 v0 w' b s L vs vn i d szs e p) := by
  have hl : Hid (¬ lookV e (L.drop i) = c) := by show ¬ _; rw [lookV, if_neg (unhide he)]; omega
  go_enter Tryz.func263, Tryz.ntmps263
  go_wp2_with (first
    | (go_at_call 175; refine (is_no h c hc hc' hl).mono ?_; rintro x w1 ⟨rfl, HS⟩)
    | (go_at_call 126; refine (wrong_old HS 2 he).mono ?_; rintro x w2 ⟨rfl, HS2⟩))
  go_end0
  exact ⟨rfl, HS2⟩
set_option maxRecDepth 100000 in
set_option maxHeartbeats 1000000 in
theorem leaf_st (h : Hid (St w0 v0 w b s L vs vn i d szs e p)) (hsz : szs.length ≤ 10000) (ao : Option Addr) (n c : Nat) :
    Calls Tryz.prog 265 #[.pointer (some ⟨b, 0, none⟩), .slice ao n c] w fun x w' => x = .returned (.int .i64 szs.length) ∧ ∃ vn', Hid (St w0 v0 w' b s L vs vn' i d (szs ++ [1]) e p) := by
  have HA := hide (add_st h hsz 0 0 0 1 (.slice ao n c) (.slice none 0 0) rfl rfl)
  clear h
  go_enter Tryz.func265, Tryz.ntmps265
  go_wp2_with (go_at_call 233; refine (unhide HA).mono ?_; clear HA; rintro x w1 ⟨rfl, vn', HS⟩)
  go_ret
  exact ⟨rfl, vn', HS⟩
end
end Go.Proofs.YtihjfoldgnoolaaGreatDoor

namespace Go.Proofs.YtihjfoldgnoolaaGreatDoor
open Go.RowKit

/-- the reader has come to a result's end. -/
def Ends {a : Type} (r : Res a) (L : List Sy) (i : Nat) (e p : Int) : Prop :=
  match r with
  | .ok x => e = 0 ∧ p = 0 ∧ L.drop i = x.2
  | .error x => e = x.1 ∧ p = x.2 ∧ ¬ x.1 = 0
theorem ends_bad {a : Type} (e : Int) (he : ¬ e = 0) (n : Nat) (L : List Sy) (i : Nat) : Ends (bad (a := a) e n (L.drop i)) L i e (plc n (L.drop i)) := ⟨rfl, rfl, he⟩
theorem ends_ok {a : Type} (x : a) (L : List Sy) (i : Nat) : Ends (.ok (x, L.drop i)) L i 0 0 := ⟨rfl, rfl, rfl⟩
theorem drop_lt {L : List Sy} {i : Nat} (h : 0 ≤ hd (L.drop i)) : i < L.length := by
  rcases Nat.lt_or_ge i L.length with h' | h'
  · exact h'
  · rw [List.drop_eq_nil_of_le h'] at h; simp [hd] at h
theorem drop_tail (L : List Sy) (i : Nat) : (L.drop i).tail = L.drop (i + 1) := by rw [List.tail_drop]
theorem hd_ge (l : List Sy) : -1 ≤ hd l := by cases l <;> simp [hd] <;> omega

section
variable {w0 w : World} {v0 : Value} {b : Nat} {s : ByteArray} {L : List Sy} {vs vn : Value} {i : Nat} {d : Int} {szs : List Int}

def NumPost (w0 : World) (v0 : Value) (b : Nat) (s : ByteArray) (L : List Sy) (vs vn : Value) (i : Nat) (d : Int) (szs : List Int) (x : Ending) (w' : World) : Prop :=
  x = .returned (.int .i64 (if isDig (hd (L.drop i)) = true then (numV (L.drop i)).1 else 0)) ∧ ∃ i' e' p', Hid (St w0 v0 w' b s L vs vn i' d szs e' p') ∧ i ≤ i' ∧ Ends (numberS s.size 0 (L.drop i)) L i' e' p'

theorem num_hyps (c : Int) (h0 : -1 ≤ c) : (c < 48 ∧ isDig c = false) ∨ (57 < c ∧ isDig c = false) ∨ (48 ≤ c ∧ c ≤ 57 ∧ isDig c = true) := by
  by_cases h1 : c < 48
  · exact .inl ⟨h1, by simp [isDig]; omega⟩
  · by_cases h2 : 57 < c
    · exact .inr (.inl ⟨h2, by simp [isDig]; omega⟩)
    · exact .inr (.inr ⟨by omega, by omega, by simp [isDig]; omega⟩)

theorem num_no (h : isDig (hd (L.drop i)) = false) {w' : World} (hs : Hid (St w0 v0 w' b s L vs vn i d szs 2 (plc s.size (L.drop i)))) : NumPost w0 v0 b s L vs vn i d szs (.returned (.int .i64 0)) w' := by
  refine ⟨by rw [h]; rfl, i, 2, _, hs, Nat.le_refl _, ?_⟩
  rw [numberS, h]
  exact ends_bad 2 (by decide) _ _ _
theorem num_ok {j : Nat} {z : Int} (h : isDig (hd (L.drop i)) = true) (hv : numV (L.drop i) = (z, L.drop j)) (hij : i ≤ j) (h0 : 0 ≤ z) (h12 : z ≤ 12) {w' : World} (hs : Hid (St w0 v0 w' b s L vs vn j d szs 0 0)) : NumPost w0 v0 b s L vs vn i d szs (.returned (.int .i64 z)) w' := by
  refine ⟨by rw [h, hv]; rfl, j, 0, 0, hs, hij, ?_⟩
  rw [numberS, h, if_pos rfl, hv, if_neg (by dsimp only; omega)]
  exact ends_ok _ _ _
theorem num_big {j : Nat} {z : Int} (h : isDig (hd (L.drop i)) = true) (hv : numV (L.drop i) = (z, L.drop j)) (hij : i ≤ j) (h12 : 12 < z) {w' : World} (hs : Hid (St w0 v0 w' b s L vs vn j d szs 3 (plc s.size (L.drop j)))) : NumPost w0 v0 b s L vs vn i d szs (.returned (.int .i64 z)) w' := by
  refine ⟨by rw [h, hv]; rfl, j, 3, _, hs, hij, ?_⟩
  rw [numberS, h, if_pos rfl, hv, if_pos (by dsimp only; omega)]
  exact ends_bad 3 (by decide) _ _ _

set_option maxRecDepth 100000 in
set_option maxHeartbeats 2000000 in
theorem number_st (h : Hid (St w0 v0 w b s L vs vn i d szs 0 0)) :
    Calls Tryz.prog 269 #[.pointer (some ⟨b, 0, none⟩)] w (NumPost w0 v0 b s L vs vn i d szs) := by
  have hc := hd_ge (L.drop i)
  have hlen := (unhide h).rs.len
  have HL := hide (look_st h)
  clear h
  rcases num_hyps _ hc with ⟨h1, h2⟩ | ⟨h1, h2⟩ | ⟨h1, h2, h3⟩
  · have HD := hide h2
    generalize hcc : hd (L.drop i) = c at h1 hc
    have HL : Hid (Calls Tryz.prog 171 #[.pointer (some ⟨b, 0, none⟩)] w fun x w' => x = .returned (.int .i64 c) ∧ Hid (St w0 v0 w' b s L vs vn i d szs 0 0)) := by rw [← hcc]; exact HL
    clear h2 hcc
    go_enter Tryz.func269, Tryz.ntmps269
    go_wp2_with (first
      | (go_at_call 171; refine (unhide HL).mono ?_; clear HL; rintro x w1 ⟨rfl, HS⟩)
      | (go_at_call 126; refine (wrong_new HS 2).mono ?_; rintro x w2 ⟨rfl, HS2⟩))
    go_ret
    exact num_no (unhide HD) HS2
  · have HD := hide h2
    generalize hcc : hd (L.drop i) = c at h1 hc
    have HL : Hid (Calls Tryz.prog 171 #[.pointer (some ⟨b, 0, none⟩)] w fun x w' => x = .returned (.int .i64 c) ∧ Hid (St w0 v0 w' b s L vs vn i d szs 0 0)) := by rw [← hcc]; exact HL
    clear h2 hcc
    go_enter Tryz.func269, Tryz.ntmps269
    go_wp2_with (first
      | (go_at_call 171; refine (unhide HL).mono ?_; clear HL; rintro x w1 ⟨rfl, HS⟩)
      | (go_at_call 126; refine (wrong_new HS 2).mono ?_; rintro x w2 ⟨rfl, HS2⟩))
    go_ret
    exact num_no (unhide HD) HS2
  · have HD := hide h3
    have hi := drop_lt (show 0 ≤ hd (L.drop i) by omega)
    have hc2 := hd_ge (L.drop (i + 1))
    have hnv : numV (L.drop i) = if 0 < hd (L.drop i) - 48 ∧ isDig (hd (L.drop (i + 1))) = true then (10 * (hd (L.drop i) - 48) + (hd (L.drop (i + 1)) - 48), L.drop (i + 2)) else (hd (L.drop i) - 48, L.drop (i + 1)) := by
      rw [numV, drop_tail, drop_tail]
    have HV := hide hnv
    clear hnv h3
    generalize hcc : hd (L.drop i) = c at h1 h2 hc HV
    generalize hcc2 : hd (L.drop (i + 1)) = c2 at hc2 HV
    have HL : Hid (Calls Tryz.prog 171 #[.pointer (some ⟨b, 0, none⟩)] w fun x w' => x = .returned (.int .i64 c) ∧ Hid (St w0 v0 w' b s L vs vn i d szs 0 0)) := by rw [← hcc]; exact HL
    have HL2 : Hid (∀ w1, Hid (St w0 v0 w1 b s L vs vn (i + 1) d szs 0 0) → Calls Tryz.prog 171 #[.pointer (some ⟨b, 0, none⟩)] w1 fun x w' => x = .returned (.int .i64 c2) ∧ Hid (St w0 v0 w' b s L vs vn (i + 1) d szs 0 0)) := by
      intro w1 hs; rw [← hcc2]; exact look_st hs
    have HI2 : Hid (48 ≤ c2 → i + 1 < L.length) := fun hx => drop_lt (by rw [hcc2]; omega)
    clear hcc hcc2
    by_cases hz : c = 48
    · subst hz
      rw [if_neg (by omega)] at HV
      go_enter Tryz.func269, Tryz.ntmps269
      go_wp2_with (first
        | (go_at_call 171; refine (unhide HL).mono ?_; clear HL; rintro x w1 ⟨rfl, HS⟩; have q2 := (unhide HS).rs.c2; have f2 := (unhide HS).rs.fz 2)
        | (go_at_call 171; refine (unhide HL2 _ (St.up HS hi)).mono ?_; clear HL2; rintro x w2 ⟨rfl, HS2⟩))
      go_ret
      exact num_ok (unhide HD) (unhide HV) (by omega) (by omega) (by omega) HS2
    · rcases num_hyps _ hc2 with ⟨g1, g2⟩ | ⟨g1, g2⟩ | ⟨g1, g2, g3⟩
      · rw [g2, if_neg (by simp)] at HV
        clear g2
        go_enter Tryz.func269, Tryz.ntmps269
        go_wp2_with (first
          | (go_at_call 171; refine (unhide HL).mono ?_; clear HL; rintro x w1 ⟨rfl, HS⟩; have q2 := (unhide HS).rs.c2; have f2 := (unhide HS).rs.fz 2)
          | (go_at_call 171; refine (unhide HL2 _ (St.up HS hi)).mono ?_; clear HL2; rintro x w2 ⟨rfl, HS2⟩))
        go_ret
        exact num_ok (unhide HD) (unhide HV) (by omega) (by omega) (by omega) HS2
      · rw [g2, if_neg (by simp)] at HV
        clear g2
        go_enter Tryz.func269, Tryz.ntmps269
        go_wp2_with (first
          | (go_at_call 171; refine (unhide HL).mono ?_; clear HL; rintro x w1 ⟨rfl, HS⟩; have q2 := (unhide HS).rs.c2; have f2 := (unhide HS).rs.fz 2)
          | (go_at_call 171; refine (unhide HL2 _ (St.up HS hi)).mono ?_; clear HL2; rintro x w2 ⟨rfl, HS2⟩))
        go_ret
        exact num_ok (unhide HD) (unhide HV) (by omega) (by omega) (by omega) HS2
      · have hi2 : i + 1 < L.length := unhide HI2 g1
        rw [g3, if_pos ⟨by omega, rfl⟩] at HV
        have hzz : 10 * (c - 48) + (c2 - 48) = 10 * (c - 48) + c2 - 48 := by omega
        rw [hzz] at HV
        clear hzz g3
        by_cases hbig : 12 < 10 * (c - 48) + c2 - 48
        · go_enter Tryz.func269, Tryz.ntmps269
          go_wp2_with (first
            | (go_at_call 171; refine (unhide HL).mono ?_; clear HL; rintro x w1 ⟨rfl, HS⟩; have q2 := (unhide HS).rs.c2; have f2 := (unhide HS).rs.fz 2)
            | (go_at_call 171; refine (unhide HL2 _ (St.up HS hi)).mono ?_; clear HL2; rintro x w2 ⟨rfl, HS2⟩; clear q2 f2; have q2 := (unhide HS2).rs.c2; have f2 := (unhide HS2).rs.fz 2)
            | (go_at_call 126; refine (wrong_new (St.up HS2 hi2) 3).mono ?_; rintro x w3 ⟨rfl, HS3⟩))
          go_ret
          exact num_big (unhide HD) (unhide HV) (by omega) (by omega) HS3
        · go_enter Tryz.func269, Tryz.ntmps269
          go_wp2_with (first
            | (go_at_call 171; refine (unhide HL).mono ?_; clear HL; rintro x w1 ⟨rfl, HS⟩; have q2 := (unhide HS).rs.c2; have f2 := (unhide HS).rs.fz 2)
            | (go_at_call 171; refine (unhide HL2 _ (St.up HS hi)).mono ?_; clear HL2; rintro x w2 ⟨rfl, HS2⟩; clear q2 f2; have q2 := (unhide HS2).rs.c2; have f2 := (unhide HS2).rs.fz 2))
          go_ret
          exact num_ok (unhide HD) (unhide HV) (by omega) (by omega) (by omega) (St.up HS2 hi2)
end
end Go.Proofs.YtihjfoldgnoolaaGreatDoor
