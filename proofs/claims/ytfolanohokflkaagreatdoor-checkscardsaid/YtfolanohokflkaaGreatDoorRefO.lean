import Derived.Test.YtfolanohokflkaaGreatDoorRefN
import Derived.WalkKit
import Derived.WalkSpells
import Derived.WalkLawsBesides
namespace Go.Proofs.YtfolanohokflkaaGreatDoor
open Go.RowKit

theorem pow16 (k : Nat) (h : k ≤ 6) : 0 < (16 : Int) ^ k ∧ (16 : Int) ^ k ≤ 16777216 := by
  match k, h with
  | 0, _ => decide
  | 1, _ => decide
  | 2, _ => decide
  | 3, _ => decide
  | 4, _ => decide
  | 5, _ => decide
  | 6, _ => decide
def hexDigits : ByteArray := ⟨#[48, 49, 50, 51, 52, 53, 54, 55, 56, 57, 97, 98, 99, 100, 101, 102]⟩
theorem hex_cases (c : Int) : (0 ≤ hexv c ∧ 48 ≤ c ∧ c ≤ 57 ∧ hexv c = c - 48 ∧ amongL c hexDigits.data.toList = true) ∨ (0 ≤ hexv c ∧ 97 ≤ c ∧ c ≤ 102 ∧ hexv c = c - 87 ∧ amongL c hexDigits.data.toList = true) ∨ (hexv c < 0 ∧ amongL c hexDigits.data.toList = false) := by
  by_cases h1 : 48 ≤ c ∧ c ≤ 57
  · have e : hexv c = c - 48 := by rw [hexv, if_pos h1]
    refine .inl ⟨by omega, h1.1, h1.2, e, ?_⟩
    simp [amongL, hexDigits]; omega
  · by_cases h2 : 97 ≤ c ∧ c ≤ 102
    · have e : hexv c = c - 87 := by rw [hexv, if_neg h1, if_pos h2]
      refine .inr (.inl ⟨by omega, h2.1, h2.2, e, ?_⟩)
      simp [amongL, hexDigits]; omega
    · have e : hexv c = -1 := by rw [hexv, if_neg h1, if_neg h2]
      refine .inr (.inr ⟨by omega, ?_⟩)
      simp [amongL, hexDigits]; omega

section
variable {w0 w : World} {v0 : Value} {b : Nat} {s : ByteArray} {L : List Sy} {vs vn : Value} {i : Nat} {d : Int} {szs : List Int}

def CodePost (w0 : World) (v0 : Value) (b : Nat) (s : ByteArray) (L : List Sy) (vs vn : Value) (i : Nat) (d : Int) (szs : List Int) (x : Ending) (w' : World) : Prop :=
  ∃ z i' e' p', x = .returned (.int .i64 z) ∧ Hid (St w0 v0 w' b s L vs vn i' d szs e' p') ∧ i + 1 ≤ i' ∧ Ends (codeS s.size (L.drop (i + 1))) L i' e' p' ∧ ∀ y, codeS s.size (L.drop (i + 1)) = .ok y → z = y.1

/-- look, said of what stands at a place. -/
theorem look_at {j : Nat} {c : Int} (h : hd (L.drop j) = c) : Hid (∀ w1, Hid (St w0 v0 w1 b s L vs vn j d szs 0 0) → Calls Tryz.prog 205 #[.pointer (some ⟨b, 0, none⟩)] w1 fun x w' => x = .returned (.int .i64 c) ∧ Hid (St w0 v0 w' b s L vs vn j d szs 0 0)) := by
  intro w1 hs; rw [← h]; exact look_st hs
theorem look_err {j : Nat} {e p : Int} (he : Hid (¬ e = 0)) : Hid (∀ w1, Hid (St w0 v0 w1 b s L vs vn j d szs e p) → Calls Tryz.prog 205 #[.pointer (some ⟨b, 0, none⟩)] w1 fun x w' => x = .returned (.int .i64 (-1)) ∧ Hid (St w0 v0 w' b s L vs vn j d szs e p)) := by
  intro w1 hs
  have := look_st hs
  rw [lookV, if_neg (unhide he)] at this
  exact this

def HexRel (R : Int × Nat × List Sy) (w0 : World) (v0 : Value) (wr : World) (b : Nat) (s : ByteArray) (L : List Sy) (vs vn : Value) (i : Nat) (d : Int) (szs : List Int) (v : Int) (k j : Nat) : Prop :=
  hexS (6 - k) v k (L.drop j) = R ∧ Hid (St w0 v0 wr b s L vs vn j d szs 0 0) ∧ i + 2 ≤ j ∧ 0 ≤ v ∧ v < (16 : Int) ^ k

theorem hex_step {v : Int} {k j : Nat} (hk : k < 6) (h : 0 ≤ hexv (hd (L.drop j))) : hexS (6 - k) v k (L.drop j) = hexS (6 - (k + 1)) (16 * v + hexv (hd (L.drop j))) (k + 1) (L.drop (j + 1)) := by
  rw [show 6 - k = (6 - (k + 1)) + 1 from by omega, hexS, if_pos h, drop_tail]
theorem hex_stop {v : Int} {k j : Nat} (hk : k = 6 ∨ hexv (hd (L.drop j)) < 0) (hk6 : k ≤ 6) : hexS (6 - k) v k (L.drop j) = (v, k, L.drop j) := by
  by_cases h6 : k = 6
  · subst h6; rfl
  · rw [show 6 - k = (6 - (k + 1)) + 1 from by omega, hexS, if_neg (by omega)]

set_option maxRecDepth 100000 in
set_option maxHeartbeats 2000000 in
theorem code_no (h : Hid (St w0 v0 w b s L vs vn i d szs 0 0)) (hi : i < L.length) (hne : ¬ hd (L.drop (i + 1)) = 123) :
    Calls Tryz.prog 303 #[.pointer (some ⟨b, 0, none⟩)] w (CodePost w0 v0 b s L vs vn i d szs) := by
  have hlen := (unhide h).rs.len
  have q2 := (unhide h).rs.c2
  have f2 := (unhide h).rs.fz 2
  have HW := hide (want_no (St.up h hi) 123 (by decide) (by decide) hne)
  have HX : Hid (codeS s.size (L.drop (i + 1)) = bad 2 s.size (L.drop (i + 1))) := by show _ = _; rw [codeS, if_neg hne]
  have H2 : Hid (¬ (2 : Int) = 0) := by show ¬ _; decide
  clear h hne
  go_enter Tryz.func303, Tryz.ntmps303
  go_wp2_with (go_at_call 272; refine (unhide HW).mono ?_; clear HW; rintro x w1 ⟨rfl, HS⟩)
  refine wp_loop_rounds 1 ?_
  rw [rounds_succ]
  go_wp2_with (first
    | (go_at_call 205; refine (unhide (look_err H2) _ HS).mono ?_; clear HS; rintro x w2 ⟨rfl, HS⟩)
    | (go_at_call 140; refine (wrong_old HS 2 H2).mono ?_; clear HS; rintro x w2 ⟨rfl, HS⟩))
  go_ret
  refine ⟨0, i + 1, 2, _, rfl, HS, Nat.le_refl _, ?_, ?_⟩
  · rw [unhide HX]; exact ends_bad 2 (by decide) _ _ _
  · intro y hy; rw [unhide HX] at hy; cases hy

theorem code_done {w' : World} {v : Int} {k j : Nat} (hx : codeS s.size (L.drop (i + 1)) = codeEnd s.size (v, k, L.drop j)) (hij : i + 2 ≤ j) :
    (k = 0 ∨ ¬ hd (L.drop j) = 125 → Hid (St w0 v0 w' b s L vs vn j d szs 2 (plc s.size (L.drop j))) → CodePost w0 v0 b s L vs vn i d szs (.returned (.int .i64 0)) w') ∧
    (¬ (k = 0 ∨ ¬ hd (L.drop j) = 125) → isSym v = false → Hid (St w0 v0 w' b s L vs vn j d szs 3 (plc s.size (L.drop j))) → CodePost w0 v0 b s L vs vn i d szs (.returned (.int .i64 0)) w') ∧
    (¬ (k = 0 ∨ ¬ hd (L.drop j) = 125) → isSym v = true → Hid (St w0 v0 w' b s L vs vn (j + 1) d szs 0 0) → CodePost w0 v0 b s L vs vn i d szs (.returned (.int .i64 v)) w') := by
  refine ⟨fun h hs => ?_, fun h hv hs => ?_, fun h hv hs => ?_⟩
  · rw [codeEnd, if_pos h] at hx
    refine ⟨0, j, 2, _, rfl, hs, by omega, by rw [hx]; exact ends_bad 2 (by decide) _ _ _, fun y hy => ?_⟩
    rw [hx] at hy; cases hy
  · rw [codeEnd, if_neg h, if_neg (by dsimp only; rw [hv]; decide)] at hx
    refine ⟨0, j, 3, _, rfl, hs, by omega, by rw [hx]; exact ends_bad 3 (by decide) _ _ _, fun y hy => ?_⟩
    rw [hx] at hy; cases hy
  · rw [codeEnd, if_neg h, if_pos hv] at hx
    dsimp only at hx
    rw [drop_tail] at hx
    refine ⟨v, j + 1, 0, 0, rfl, hs, by omega, by rw [hx]; exact ends_ok _ _ _, fun y hy => ?_⟩
    rw [hx] at hy; cases hy; rfl

set_option maxRecDepth 100000 in
set_option maxHeartbeats 4000000 in
theorem code_yes (h : Hid (St w0 v0 w b s L vs vn i d szs 0 0)) (hi : i < L.length) (hne : hd (L.drop (i + 1)) = 123) :
    Calls Tryz.prog 303 #[.pointer (some ⟨b, 0, none⟩)] w (CodePost w0 v0 b s L vs vn i d szs) := by
  have hlen := (unhide h).rs.len
  have q2 := (unhide h).rs.c2
  have f2 := (unhide h).rs.fz 2
  have HW := hide (want_yes (St.up h hi) 123 (by decide) (by decide) hne)
  obtain ⟨R, hR⟩ : ∃ R, hexS 6 0 0 (L.drop (i + 2)) = R := ⟨_, rfl⟩
  have HX : Hid (codeS s.size (L.drop (i + 1)) = codeEnd s.size R) := by show _ = _; rw [codeS, if_pos hne, drop_tail, hR]
  have HR := hide hR
  clear h hne hR
  go_enter Tryz.func303, Tryz.ntmps303
  go_wp2_with (go_at_call 272; refine (unhide HW).mono ?_; clear HW; rintro x w1 ⟨rfl, HS⟩)
  clear q2 f2
  go_loopw [3, 4] (fun n k wr => ∃ (v : Int) (m j : Nat), m ≤ 6 ∧ n = .int .i64 v ∧ k = .int .i64 m ∧ Hid (HexRel R w0 v0 wr b s L vs vn i d szs v m j)) (fun _ k _ => 6 - (intOf k).toNat)
  case atStart => exact ⟨0, 0, i + 2, by omega, rfl, rfl, ⟨unhide HR, HS, Nat.le_refl _, by decide, by decide⟩⟩
  case round =>
    clear HS HR
    obtain ⟨v, m, j, hm, rfl, rfl, HRel⟩ := hrel
    obtain ⟨hr1, HS, hr3, hr4, hr5⟩ := unhide HRel
    obtain ⟨hp1, hp2⟩ := pow16 m hm
    have hvb : v < 16777216 := by omega
    have hc := hd_ge (L.drop j)
    by_cases hm6 : m < 6
    · rcases hex_cases (hd (L.drop j)) with ⟨g0, g1, g2, g3, g4⟩ | ⟨g0, g1, g2, g3, g4⟩ | ⟨g0, g4⟩
      · have hj := drop_lt (show 0 ≤ hd (L.drop j) by omega)
        have g3' : hexv (hd (L.drop j)) = hd (L.drop j) - 48 := by omega
        have HE : Hid (hexS (6 - (m + 1)) (16 * v + (hd (L.drop j) - 48)) (m + 1) (L.drop (j + 1)) = R) := by show _ = _; rw [← g3', ← hex_step hm6 g0]; exact hr1
        have HP : Hid (16 * v + (hd (L.drop j) - 48) < (16 : Int) ^ (m + 1)) := by show _ < _; rw [Int.pow_succ]; omega
        have HL := look_at (w0 := w0) (v0 := v0) (b := b) (s := s) (L := L) (vs := vs) (vn := vn) (d := d) (szs := szs) (j := j) rfl
        have HA := hide (fun w1 => refAmong_any (hd (L.drop j)) hexDigits w1 (by unfold maxLen; decide))
        rw [g4] at HA
        clear hr1 hr5 g0 g3 g3' g4 HRel hp1 hp2 HX
        generalize hd (L.drop j) = c at *
        go_wp2_with (first
          | (go_at_call 205; refine (unhide HL _ HS).mono ?_; clear HS; rintro x w2 ⟨rfl, HS⟩; (try clear q2 f2); have q2 := (unhide HS).rs.c2; have f2 := (unhide HS).rs.fz 2)
          | (go_at_call 206; refine (unhide HA _).mono ?_; rintro x w2 ⟨rfl, rfl⟩))
        go_roundw
        case rel => exact ⟨_, m + 1, j + 1, by omega, rfl, by go_num, ⟨unhide HE, St.up HS hj, by omega, by omega, unhide HP⟩⟩
        case measure => simp [intOf]; omega
      · have hj := drop_lt (show 0 ≤ hd (L.drop j) by omega)
        have g3' : hexv (hd (L.drop j)) = hd (L.drop j) - 97 + 10 := by omega
        have HE : Hid (hexS (6 - (m + 1)) (16 * v + (hd (L.drop j) - 97 + 10)) (m + 1) (L.drop (j + 1)) = R) := by show _ = _; rw [← g3', ← hex_step hm6 g0]; exact hr1
        have HP : Hid (16 * v + (hd (L.drop j) - 97 + 10) < (16 : Int) ^ (m + 1)) := by show _ < _; rw [Int.pow_succ]; omega
        have HL := look_at (w0 := w0) (v0 := v0) (b := b) (s := s) (L := L) (vs := vs) (vn := vn) (d := d) (szs := szs) (j := j) rfl
        have HA := hide (fun w1 => refAmong_any (hd (L.drop j)) hexDigits w1 (by unfold maxLen; decide))
        rw [g4] at HA
        clear hr1 hr5 g0 g3 g3' g4 HRel hp1 hp2 HX
        generalize hd (L.drop j) = c at *
        go_wp2_with (first
          | (go_at_call 205; refine (unhide HL _ HS).mono ?_; clear HS; rintro x w2 ⟨rfl, HS⟩; (try clear q2 f2); have q2 := (unhide HS).rs.c2; have f2 := (unhide HS).rs.fz 2)
          | (go_at_call 206; refine (unhide HA _).mono ?_; rintro x w2 ⟨rfl, rfl⟩))
        go_roundw
        case rel => exact ⟨_, m + 1, j + 1, by omega, rfl, by go_num, ⟨unhide HE, St.up HS hj, by omega, by omega, unhide HP⟩⟩
        case measure => simp [intOf]; omega
      · have HF : Hid (codeS s.size (L.drop (i + 1)) = codeEnd s.size (v, m, L.drop j)) := by show _ = _; rw [unhide HX, ← hr1, hex_stop (.inr g0) hm]
        have HL := look_at (w0 := w0) (v0 := v0) (b := b) (s := s) (L := L) (vs := vs) (vn := vn) (d := d) (szs := szs) (j := j) rfl
        have HA := hide (fun w1 => refAmong_any (hd (L.drop j)) hexDigits w1 (by unfold maxLen; decide))
        rw [g4] at HA
        clear hr1 hr5 g0 g4 HRel hp1 hp2 HX
        obtain ⟨c, hcc⟩ : ∃ c, hd (L.drop j) = c := ⟨_, rfl⟩
        rw [hcc] at HL HA hc
        have HCC := hide hcc
        clear hcc
        by_cases hneg : c < 0
        · have hbad : m = 0 ∨ ¬ c = 125 := by omega
          have hng : decide ((0 : Int) ≤ c) = false := by simp; omega
          have HD := hide (fun w' => (code_done (w' := w') (w0 := w0) (v0 := v0) (b := b) (vs := vs) (vn := vn) (d := d) (szs := szs) (unhide HF) (by omega)).1 (by rw [unhide HCC]; exact hbad))
          have hz : m = 0 ∨ 0 < m := by omega
          rcases hz with hz | hz
          · have hz' : ((m : Int) == 0) = true := by simp [hz]
            clear hbad hz
            go_wp2_with (first
            | (go_at_call 205; refine (unhide HL _ HS).mono ?_; clear HS; rintro x w2 ⟨rfl, HS⟩; (try clear q2 f2); have q2 := (unhide HS).rs.c2; have f2 := (unhide HS).rs.fz 2)
            | (go_at_call 140; refine (wrong_new HS 2).mono ?_; clear HS; rintro x w3 ⟨rfl, HS⟩))
            go_ret
            exact (unhide HD) _ HS
          · have hz' : ((m : Int) == 0) = false := by simp; omega
            have hb' : (c != 125) = true := by simp; omega
            clear hbad
            go_wp2_with (first
            | (go_at_call 205; refine (unhide HL _ HS).mono ?_; clear HS; rintro x w2 ⟨rfl, HS⟩; (try clear q2 f2); have q2 := (unhide HS).rs.c2; have f2 := (unhide HS).rs.fz 2)
            | (go_at_call 140; refine (wrong_new HS 2).mono ?_; clear HS; rintro x w3 ⟨rfl, HS⟩))
            go_ret
            exact (unhide HD) _ HS
        · have hng : (0 : Int) ≤ c := by omega
          clear hneg
          have hz : m = 0 ∨ 0 < m := by omega
          by_cases hbad : m = 0 ∨ ¬ c = 125
          · have HD := hide (fun w' => (code_done (w' := w') (w0 := w0) (v0 := v0) (b := b) (vs := vs) (vn := vn) (d := d) (szs := szs) (unhide HF) (by omega)).1 (by rw [unhide HCC]; exact hbad))
            rcases hz with hz | hz
            · have hz' : ((m : Int) == 0) = true := by simp [hz]
              clear hbad hz
              go_wp2_with (first
              | (go_at_call 205; refine (unhide HL _ HS).mono ?_; clear HS; rintro x w2 ⟨rfl, HS⟩; (try clear q2 f2); have q2 := (unhide HS).rs.c2; have f2 := (unhide HS).rs.fz 2)
              | (go_at_call 206; refine (unhide HA _).mono ?_; rintro x w2 ⟨rfl, rfl⟩)
              | (go_at_call 140; refine (wrong_new HS 2).mono ?_; clear HS; rintro x w3 ⟨rfl, HS⟩))
              go_ret
              exact (unhide HD) _ HS
            · have hz' : ((m : Int) == 0) = false := by simp; omega
              have hb' : (c != 125) = true := by simp; omega
              clear hbad
              go_wp2_with (first
              | (go_at_call 205; refine (unhide HL _ HS).mono ?_; clear HS; rintro x w2 ⟨rfl, HS⟩; (try clear q2 f2); have q2 := (unhide HS).rs.c2; have f2 := (unhide HS).rs.fz 2)
              | (go_at_call 206; refine (unhide HA _).mono ?_; rintro x w2 ⟨rfl, rfl⟩)
              | (go_at_call 140; refine (wrong_new HS 2).mono ?_; clear HS; rintro x w3 ⟨rfl, HS⟩))
              go_ret
              exact (unhide HD) _ HS
          · have hz' : ((m : Int) == 0) = false := by simp; omega
            have hb' : (c != 125) = false := by simp; omega
            have hj := drop_lt (show 0 ≤ hd (L.drop j) by rw [unhide HCC]; omega)
            have D2 := hide (fun w' => (code_done (w' := w') (w0 := w0) (v0 := v0) (b := b) (vs := vs) (vn := vn) (d := d) (szs := szs) (unhide HF) (by omega)).2.1 (by rw [unhide HCC]; exact hbad))
            have D3 := hide (fun w' => (code_done (w' := w') (w0 := w0) (v0 := v0) (b := b) (vs := vs) (vn := vn) (d := d) (szs := szs) (unhide HF) (by omega)).2.2 (by rw [unhide HCC]; exact hbad))
            clear hbad
            have HY := hide (fun w1 => refIsSymbol_any v w1)
            cases hsy : isSym v
            · rw [hsy] at HY
              have HSY := hide hsy
              clear hsy
              go_wp2_with (first
              | (go_at_call 205; refine (unhide HL _ HS).mono ?_; clear HS; rintro x w2 ⟨rfl, HS⟩; (try clear q2 f2); have q2 := (unhide HS).rs.c2; have f2 := (unhide HS).rs.fz 2)
              | (go_at_call 206; refine (unhide HA _).mono ?_; rintro x w2 ⟨rfl, rfl⟩)
              | (go_at_call 242; refine (unhide HY _).mono ?_; rintro x w2 ⟨rfl, rfl⟩)
              | (go_at_call 140; refine (wrong_new HS 3).mono ?_; clear HS; rintro x w3 ⟨rfl, HS⟩))
              go_ret
              exact (unhide D2) _ (unhide HSY) HS
            · rw [hsy] at HY
              have HSY := hide hsy
              clear hsy
              go_wp2_with (first
              | (go_at_call 205; refine (unhide HL _ HS).mono ?_; clear HS; rintro x w2 ⟨rfl, HS⟩; (try clear q2 f2); have q2 := (unhide HS).rs.c2; have f2 := (unhide HS).rs.fz 2)
              | (go_at_call 206; refine (unhide HA _).mono ?_; rintro x w2 ⟨rfl, rfl⟩)
              | (go_at_call 242; refine (unhide HY _).mono ?_; rintro x w2 ⟨rfl, rfl⟩))
              go_ret
              exact (unhide D3) _ (unhide HSY) (St.up HS hj)
    · have hm' : decide ((m : Int) < 6) = false := by simp; omega
      have HF : Hid (codeS s.size (L.drop (i + 1)) = codeEnd s.size (v, m, L.drop j)) := by show _ = _; rw [unhide HX, ← hr1, hex_stop (.inl (by omega)) hm]
      have HL := look_at (w0 := w0) (v0 := v0) (b := b) (s := s) (L := L) (vs := vs) (vn := vn) (d := d) (szs := szs) (j := j) rfl
      clear hr1 hr5 HRel hp1 hp2 HX
      obtain ⟨c, hcc⟩ : ∃ c, hd (L.drop j) = c := ⟨_, rfl⟩
      rw [hcc] at HL hc
      have HCC := hide hcc
      clear hcc
      have hz : m = 0 ∨ 0 < m := by omega
      by_cases hbad : m = 0 ∨ ¬ c = 125
      · have HD := hide (fun w' => (code_done (w' := w') (w0 := w0) (v0 := v0) (b := b) (vs := vs) (vn := vn) (d := d) (szs := szs) (unhide HF) (by omega)).1 (by rw [unhide HCC]; exact hbad))
        rcases hz with hz | hz
        · have hz' : ((m : Int) == 0) = true := by simp [hz]
          clear hbad hz
          go_wp2_with (first
          | (go_at_call 205; refine (unhide HL _ HS).mono ?_; clear HS; rintro x w2 ⟨rfl, HS⟩; (try clear q2 f2); have q2 := (unhide HS).rs.c2; have f2 := (unhide HS).rs.fz 2)
          | (go_at_call 140; refine (wrong_new HS 2).mono ?_; clear HS; rintro x w3 ⟨rfl, HS⟩))
          go_ret
          exact (unhide HD) _ HS
        · have hz' : ((m : Int) == 0) = false := by simp; omega
          have hb' : (c != 125) = true := by simp; omega
          clear hbad
          go_wp2_with (first
          | (go_at_call 205; refine (unhide HL _ HS).mono ?_; clear HS; rintro x w2 ⟨rfl, HS⟩; (try clear q2 f2); have q2 := (unhide HS).rs.c2; have f2 := (unhide HS).rs.fz 2)
          | (go_at_call 140; refine (wrong_new HS 2).mono ?_; clear HS; rintro x w3 ⟨rfl, HS⟩))
          go_ret
          exact (unhide HD) _ HS
      · have hz' : ((m : Int) == 0) = false := by simp; omega
        have hb' : (c != 125) = false := by simp; omega
        have hj := drop_lt (show 0 ≤ hd (L.drop j) by rw [unhide HCC]; omega)
        have D2 := hide (fun w' => (code_done (w' := w') (w0 := w0) (v0 := v0) (b := b) (vs := vs) (vn := vn) (d := d) (szs := szs) (unhide HF) (by omega)).2.1 (by rw [unhide HCC]; exact hbad))
        have D3 := hide (fun w' => (code_done (w' := w') (w0 := w0) (v0 := v0) (b := b) (vs := vs) (vn := vn) (d := d) (szs := szs) (unhide HF) (by omega)).2.2 (by rw [unhide HCC]; exact hbad))
        clear hbad
        have HY := hide (fun w1 => refIsSymbol_any v w1)
        cases hsy : isSym v
        · rw [hsy] at HY
          have HSY := hide hsy
          clear hsy
          go_wp2_with (first
          | (go_at_call 205; refine (unhide HL _ HS).mono ?_; clear HS; rintro x w2 ⟨rfl, HS⟩; (try clear q2 f2); have q2 := (unhide HS).rs.c2; have f2 := (unhide HS).rs.fz 2)
          | (go_at_call 242; refine (unhide HY _).mono ?_; rintro x w2 ⟨rfl, rfl⟩)
          | (go_at_call 140; refine (wrong_new HS 3).mono ?_; clear HS; rintro x w3 ⟨rfl, HS⟩))
          go_ret
          exact (unhide D2) _ (unhide HSY) HS
        · rw [hsy] at HY
          have HSY := hide hsy
          clear hsy
          go_wp2_with (first
          | (go_at_call 205; refine (unhide HL _ HS).mono ?_; clear HS; rintro x w2 ⟨rfl, HS⟩; (try clear q2 f2); have q2 := (unhide HS).rs.c2; have f2 := (unhide HS).rs.fz 2)
          | (go_at_call 242; refine (unhide HY _).mono ?_; rintro x w2 ⟨rfl, rfl⟩))
          go_ret
          exact (unhide D3) _ (unhide HSY) (St.up HS hj)

theorem code_st (h : Hid (St w0 v0 w b s L vs vn i d szs 0 0)) (hi : i < L.length) :
    Calls Tryz.prog 303 #[.pointer (some ⟨b, 0, none⟩)] w (CodePost w0 v0 b s L vs vn i d szs) := by
  by_cases hne : hd (L.drop (i + 1)) = 123
  · exact code_yes h hi hne
  · exact code_no h hi hne
end
end Go.Proofs.YtfolanohokflkaaGreatDoor
