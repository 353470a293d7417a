import Derived.Test.YthopgbacdmgfgaaGreatDoorRefS
import Derived.WalkKit
import Derived.WalkSpells
import Derived.WalkLawsBesides
namespace Go.Proofs.YthopgbacdmgfgaaGreatDoor
open Go.RowKit

def toOne {a : Type} : Res a → Res Int
  | .error x => .error x
  | .ok x => .ok (1, x.2)
theorem toOne_match {a : Type} (r : Res a) : (match r with | .error x => (.error x : Res Int) | .ok (_, l1) => .ok (1, l1)) = toOne r := by
  cases r <;> rfl
/-- what a method answers that makes a part: its number; of a right reading its size. -/
def NodePost (kk pr : Nat) (R : Res Int) (w0 : World) (v0 : Value) (b : Nat) (s : ByteArray) (L : List Sy) (vs : Value) (i : Nat) (d : Int) (szs : List Int) (x : Ending) (w' : World) : Prop :=
  ∃ (n : Nat) (vn' : Value) (i' : Nat) (e' p' : Int) (more : List Int), x = .returned (.int .i64 n) ∧ Hid (St w0 v0 w' b s L vs vn' i' d (szs ++ more) e' p') ∧ i ≤ i' ∧ more.length ≤ 4 * (i' - i) + kk ∧ SzOk (szs ++ more) ∧ (n < (szs ++ more).length ∨ n = 0) ∧ Ends R L i' e' p' ∧ ∀ y, R = .ok y → n < (szs ++ more).length ∧ (szs ++ more).getD n 0 = y.1 ∧ i + pr ≤ i'

def markList : ByteArray := ⟨#[124, 38, 126, 42, 43, 63, 123, 125, 91, 93, 41]⟩
theorem mark_among (c : Int) (h1 : ¬ c = 40) (h2 : ¬ c = 46) (h3 : ¬ c = 92) : amongL c markList.data.toList = isMark c := by
  rw [Bool.eq_iff_iff]; simp [amongL, markList, isMark]; omega

section
variable {w0 w : World} {v0 : Value} {b : Nat} {s : ByteArray} {L : List Sy} {vs vn : Value} {i : Nat} {d : Int} {szs : List Int} {e p : Int}

theorem node_leaf {w' : World} {vn' : Value} {i' : Nat} {e' p' : Int} {R : Res Int} {a : Type} {R2 : Res a} (hR : R = toOne R2) (HS : Hid (St w0 v0 w' b s L vs vn' i' d (szs ++ [1]) e' p')) (hi : i + 1 ≤ i') (hok : SzOk szs) (hen : Ends R2 L i' e' p') :
    NodePost 0 1 R w0 v0 b s L vs i d szs (.returned (.int .i64 szs.length)) w' := by
  refine ⟨szs.length, vn', i', e', p', [1], rfl, HS, by omega, by simp; omega, hok.snoc (by decide) (by decide), .inl (by simp), ?_, ?_⟩
  · rw [hR]
    cases R2 with
    | error x => exact hen
    | ok x => exact hen
  · intro y hy
    refine ⟨by simp, ?_, hi⟩
    rw [hR] at hy
    cases R2 with
    | error x => cases hy
    | ok x => cases hy; simp
theorem node_bad {w' : World} {i' : Nat} {R : Res Int} {er : Int} (hR : R = bad er s.size (L.drop i')) (he : ¬ er = 0) (HS : Hid (St w0 v0 w' b s L vs vn i' d szs er (plc s.size (L.drop i')))) (hi : i ≤ i') (hok : SzOk szs) (kk pr : Nat) :
    NodePost kk pr R w0 v0 b s L vs i d szs (.returned (.int .i64 0)) w' := by
  refine ⟨0, vn, i', er, _, [], rfl, by rw [List.append_nil]; exact HS, hi, by simp, by rw [List.append_nil]; exact hok, .inr rfl, by rw [hR]; exact ends_bad er he _ _ _, ?_⟩
  intro y hy; rw [hR] at hy; cases hy

set_option maxRecDepth 100000 in
set_option maxHeartbeats 8000000 in
theorem atom_leaf (h : Hid (St w0 v0 w b s L vs vn i d szs 0 0)) (hc : ¬ hd (L.drop i) = 40) (hok : SzOk szs) (hsz : szs.length ≤ 10000) :
    Calls Tryz.prog 89 #[.pointer (some ⟨b, 0, none⟩)] w (NodePost 0 1 (leafS s.size (L.drop i)) w0 v0 b s L vs i d szs) := by
  have hlen := (unhide h).rs.len
  have HS := h
  have HOK := hide hok
  have hge := hd_ge (L.drop i)
  clear h hok
  obtain ⟨c, hcc⟩ : ∃ c, hd (L.drop i) = c := ⟨_, rfl⟩
  have HL := look_at (w0 := w0) (v0 := v0) (b := b) (s := s) (L := L) (vs := vs) (vn := vn) (d := d) (szs := szs) hcc
  have HJ : Hid (0 ≤ c → i < L.length) := fun hx => drop_lt (by rw [hcc]; exact hx)
  have HE : Hid (leafS s.size (L.drop i) = ((if c = 91 then toOne (classS s.size (L.drop (i + 1))) else if c = 92 then (if isSet (L.drop i) = true then .ok (1, L.drop (i + 2)) else toOne (escapeS s.size (L.drop (i + 1)))) else if c = 46 then .ok (1, L.drop (i + 1)) else if c < 0 ∨ isMark c = true then bad 2 s.size (L.drop i) else .ok (1, L.drop (i + 1))) : Res Int)) := by
    show _ = _
    rw [leafS, hcc, drop_tail, drop_tail]
    cases classS s.size (L.drop (i + 1)) <;> cases escapeS s.size (L.drop (i + 1)) <;> rfl
  have HT : Hid (isSet (L.drop i) = decide (c = 92 ∧ (hd (L.drop (i + 1)) = 100 ∨ hd (L.drop (i + 1)) = 119))) := by show _ = _; rw [isSet_drop, hcc]
  rw [hcc] at hge hc
  clear hcc
  have k40 : (c == 40) = false := by simpa using hc
  by_cases h91 : c = 91
  · subst h91
    have hj := unhide HJ (by decide)
    have HX := hide ((unhide HE).trans (if_pos rfl))
    clear HE HJ HT k40 hc hge
    go_enter Tryz.func89, Tryz.ntmps89
    go_wp2_with (first
      | (go_at_call 70; refine (unhide HL _ HS).mono ?_; clear HS; rintro x w2 ⟨rfl, HS⟩; have q2 := (unhide HS).rs.c2; have f2 := (unhide HS).rs.fz 2)
      | (go_at_call 97; refine (class_st (St.up HS hj)).mono ?_; clear HS q2 f2; rintro x w3 ⟨ao, n, cp, i', e', p', rfl, HS, hi', hen⟩; have HEN := hide hen; clear hen)
      | (go_at_call 98; refine (leaf_st HS hsz ao n cp).mono ?_; clear HS; rintro x w4 ⟨rfl, vn', HS⟩))
    go_ret
    exact node_leaf (unhide HX) HS (by omega) (unhide HOK) (unhide HEN)
  · have k91 : (c == 91) = false := by simpa using h91
    by_cases h92 : c = 92
    · subst h92
      have hj := unhide HJ (by decide)
      have HX := hide (((unhide HE).trans (if_neg h91)).trans (if_pos rfl))
      clear HE HJ k40 hc hge h91 k91
      by_cases hset : hd (L.drop (i + 1)) = 100 ∨ hd (L.drop (i + 1)) = 119
      · have HY := hide ((unhide HX).trans (if_pos (by rw [unhide HT]; simp; exact hset)))
        have HSET := hide hset
        clear HX HT hset
        go_enter Tryz.func89, Tryz.ntmps89
        go_wp2_with (first
          | (go_at_call 70; refine (unhide HL _ HS).mono ?_; clear HS; rintro x w2 ⟨rfl, HS⟩; have q2 := (unhide HS).rs.c2; have f2 := (unhide HS).rs.fz 2)
          | (go_at_call 99; refine (escape_set HS hj (unhide HSET) (.error (0, 0))).mono ?_; clear HS q2 f2; rintro x w3 ⟨ao, n, cp, l, HF, hl, ⟨-, rfl, HS⟩ | ⟨hx, -⟩⟩ <;> (try cases hx))
          | (go_at_call 98; refine (leaf_st HS hsz ao n cp).mono ?_; clear HS; rintro x w4 ⟨rfl, vn', HS⟩))
        go_ret
        exact node_leaf (R2 := (.ok ((), L.drop (i + 2)) : Res Unit)) (unhide HY) HS (by omega) (unhide HOK) (ends_ok _ _ _)
      · have HY := hide ((unhide HX).trans (if_neg (by rw [unhide HT]; simp; omega)))
        have HSET := hide hset
        clear HX HT hset
        go_enter Tryz.func89, Tryz.ntmps89
        go_wp2_with (first
          | (go_at_call 70; refine (unhide HL _ HS).mono ?_; clear HS; rintro x w2 ⟨rfl, HS⟩; have q2 := (unhide HS).rs.c2; have f2 := (unhide HS).rs.fz 2)
          | (go_at_call 99; refine (escape_one false HS hj (.inr (unhide HSET))).mono ?_; clear HS q2 f2; rintro x w3 ⟨ao, n, cp, l, HF, hl, ⟨hx, -⟩ | ⟨-, rfl, i', e', p', HS, hi', hen, -⟩⟩ <;> (first | cases hx | (have HEN := hide hen; clear hen)))
          | (go_at_call 98; refine (leaf_st HS hsz ao n cp).mono ?_; clear HS; rintro x w4 ⟨rfl, vn', HS⟩))
        go_ret
        exact node_leaf (unhide HY) HS (by omega) (unhide HOK) (unhide HEN)
    · have k92 : (c == 92) = false := by simpa using h92
      have HX := hide (((unhide HE).trans (if_neg h91)).trans (if_neg h92))
      clear HE HT
      by_cases h46 : c = 46
      · subst h46
        have hj := unhide HJ (by decide)
        have HY := hide ((unhide HX).trans (if_pos rfl))
        have HA := hide (fun w1 => refAmong_any 46 markList w1 (by unfold maxLen; decide))
        rw [show amongL 46 markList.data.toList = false from by decide] at HA
        clear HX HJ hc h91 h92 k40 k91 k92 hge
        go_enter Tryz.func89, Tryz.ntmps89
        go_wp2_with (first
          | (go_at_call 70; refine (unhide HL _ HS).mono ?_; clear HS; rintro x w2 ⟨rfl, HS⟩; have q2 := (unhide HS).rs.c2; have f2 := (unhide HS).rs.fz 2)
          | (go_at_call 71; refine (unhide HA _).mono ?_; rintro x w2 ⟨rfl, rfl⟩)
          | (go_at_call 100; refine (every_st (St.up HS hj)).mono ?_; clear HS q2 f2; rintro x w3 ⟨ao, n, cp, rfl, HS⟩)
          | (go_at_call 98; refine (leaf_st HS hsz ao n cp).mono ?_; clear HS; rintro x w4 ⟨rfl, vn', HS⟩))
        go_ret
        exact node_leaf (R2 := (.ok ((), L.drop (i + 1)) : Res Unit)) (unhide HY) HS (by omega) (unhide HOK) (ends_ok _ _ _)
      · have HY := hide ((unhide HX).trans (if_neg h46))
        have k46 : (c == 46) = false := by simpa using h46
        have HA := hide (fun w1 => refAmong_any c markList w1 (by unfold maxLen; decide))
        rw [mark_among c hc h46 h92] at HA
        by_cases hneg : c < 0
        · have HZ := hide ((unhide HY).trans (if_pos (.inl hneg)))
          clear HX HY HJ hc h91 h92 h46
          go_enter Tryz.func89, Tryz.ntmps89
          go_wp2_with (first
            | (go_at_call 70; refine (unhide HL _ HS).mono ?_; clear HS; rintro x w2 ⟨rfl, HS⟩; have q2 := (unhide HS).rs.c2; have f2 := (unhide HS).rs.fz 2)
            | (go_at_call 46; refine (wrong_new HS 2).mono ?_; clear HS; rintro x w3 ⟨rfl, HS⟩))
          go_ret
          exact node_bad (unhide HZ) (by decide) HS (Nat.le_refl _) (unhide HOK) 0 1
        · have hj := unhide HJ (by omega)
          have kn : decide (c < 0) = false := by simp; omega
          cases hm : isMark c
          · have HZ := hide ((unhide HY).trans (if_neg (by rw [hm]; simp; omega)))
            rw [hm] at HA
            clear HX HY HJ hc h91 h92 h46 hm hneg
            go_enter Tryz.func89, Tryz.ntmps89
            go_wp2_with (first
              | (go_at_call 70; refine (unhide HL _ HS).mono ?_; clear HS; rintro x w2 ⟨rfl, HS⟩; have q2 := (unhide HS).rs.c2; have f2 := (unhide HS).rs.fz 2)
              | (go_at_call 71; refine (unhide HA _).mono ?_; rintro x w2 ⟨rfl, rfl⟩)
              | (go_at_call 101; refine (single_st (St.up HS hj) c).mono ?_; clear HS q2 f2; rintro x w3 ⟨ao, n, cp, rfl, HS, -⟩)
              | (go_at_call 98; refine (leaf_st HS hsz ao n cp).mono ?_; clear HS; rintro x w4 ⟨rfl, vn', HS⟩))
            go_ret
            exact node_leaf (R2 := (.ok ((), L.drop (i + 1)) : Res Unit)) (unhide HZ) HS (by omega) (unhide HOK) (ends_ok _ _ _)
          · have HZ := hide ((unhide HY).trans (if_pos (.inr hm)))
            rw [hm] at HA
            clear HX HY HJ hc h91 h92 h46 hm hneg
            go_enter Tryz.func89, Tryz.ntmps89
            go_wp2_with (first
              | (go_at_call 70; refine (unhide HL _ HS).mono ?_; clear HS; rintro x w2 ⟨rfl, HS⟩; have q2 := (unhide HS).rs.c2; have f2 := (unhide HS).rs.fz 2)
              | (go_at_call 71; refine (unhide HA _).mono ?_; rintro x w2 ⟨rfl, rfl⟩)
              | (go_at_call 46; refine (wrong_new HS 2).mono ?_; clear HS; rintro x w3 ⟨rfl, HS⟩))
            go_ret
            exact node_bad (unhide HZ) (by decide) HS (Nat.le_refl _) (unhide HOK) 0 1
end
end Go.Proofs.YthopgbacdmgfgaaGreatDoor
