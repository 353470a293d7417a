import Derived.Test.YtihjfoldgnoolaaGreatDoorRefS
import Derived.WalkKit
import Derived.WalkSpells
import Derived.WalkLawsBesides
namespace Go.Proofs.YtihjfoldgnoolaaGreatDoor
open Go.RowKit

def toOne {a : Type} : Res a → Res Int
  | .error x => .error x
  | .ok x => .ok (1, x.2)
theorem toOne_match {a : Type} (r : Res a) : (match r with | .error x => (.error x : Res Int) | .ok (_, l1) => .ok (1, l1)) = toOne r := by
  cases r <;> rfl
/-- what a method answers that makes a part: its number; of a right reading its size. -/
def NodePost (kk pr : Nat) (R : Res Int) (w0 : World) (v0 : Value) (b : Nat) (s : ByteArray) (L : List Sy) (vs : Value) (i : Nat) (d : Int) (szs : List Int) (x : Ending) (w' : World) : Prop :=
  ∃ (n : Nat) (vn' : Value) (i' : Nat) (e' p' : Int) (more : List Int), x = .returned (.int .i64 n) ∧ Hid (St w0 v0 w' b s L vs vn' i' d (szs ++ more) e' p') ∧ i ≤ i' ∧ more.length ≤ 4 * (i' - i) + kk ∧ SzOk (szs ++ more) ∧ (n < (szs ++ more).length ∨ n = 0) ∧ Ends R L i' e' p' ∧ ∀ y, R = .ok y → n < (szs ++ more).length ∧ (szs ++ more).getD n 0 = y.1 ∧ i + pr ≤ i'

def markList : ByteArray := ⟨#[124, 38, 126, 42, 43, 63, 123, 125, 91, 93, 41]⟩
theorem mark_among (c : Int) (h1 : ¬ c = 40) (h2 : ¬ c = 46) (h3 : ¬ c = 92) : amongL c markList.data.toList = isMark c := by
  rw [Bool.eq_iff_iff]; simp [amongL, markList, isMark]; omega

section
variable {w0 w : World} {v0 : Value} {b : Nat} {s : ByteArray} {L : List Sy} {vs vn : Value} {i : Nat} {d : Int} {szs : List Int} {e p : Int}

theorem node_leaf {w' : World} {vn' : Value} {i' : Nat} {e' p' : Int} {R : Res Int} {a : Type} {R2 : Res a} (hR : R = toOne R2) (HS : Hid (St w0 v0 w' b s L vs vn' i' d (szs ++ [1]) e' p')) (hi : i + 1 ≤ i') (hok : SzOk szs) (hen : Ends R2 L i' e' p') :
    NodePost 0 1 R w0 v0 b s L vs i d szs (.returned (.int .i64 szs.length)) w' := by
  refine ⟨szs.length, vn', i', e', p', [1], rfl, HS, by omega, by simp; omega, hok.snoc (by decide) (by decide), .inl (by simp), ?_, ?_⟩
  · rw [hR]
    cases R2 with
    | error x => exact hen
    | ok x => exact hen
  · intro y hy
    refine ⟨by simp, ?_, hi⟩
    rw [hR] at hy
    cases R2 with
    | error x => cases hy
    | ok x => cases hy; simp
theorem node_bad {w' : World} {i' : Nat} {R : Res Int} {er : Int} (hR : R = bad er s.size (L.drop i')) (he : ¬ er = 0) (HS : Hid (St w0 v0 w' b s L vs vn i' d szs er (plc s.size (L.drop i')))) (hi : i ≤ i') (hok : SzOk szs) (kk pr : Nat) :
    NodePost kk pr R w0 v0 b s L vs i d szs (.returned (.int .i64 0)) w' := by
  refine ⟨0, vn, i', er, _, [], rfl, by rw [List.append_nil]; exact HS, hi, by simp, by rw [List.append_nil]; exact hok, .inr rfl, by rw [hR]; exact ends_bad er he _ _ _, ?_⟩
  intro y hy; rw [hR] at hy; cases hy

set_option maxRecDepth 100000 in
set_option maxHeartbeats 8000000 in
theorem atom_leaf (h : Hid (St w0 v0 w b s L vs vn i d szs 0 0)) (hc : ¬ hd (L.drop i) = 40) (hok : SzOk szs) (hsz : szs.length ≤ 10000) :
    Calls Tryz.prog 235 #[.pointer (some ⟨b, 0, none⟩)] w (NodePost 0 1 (leafS s.size (L.drop i)) w0 v0 b s L vs i d szs) := by
  have hlen := (unhide h).rs.len
  have HS := h
  have HOK := hide hok
  have hge := hd_ge (L.drop i)
  clear h hok
  obtain ⟨c, hcc⟩ : ∃ c, hd (L.drop i) = c := ⟨_, rfl⟩
  have HL := look_at (w0 := w0) (v0 := v0) (b := b) (s := s) (L := L) (vs := vs) (vn := vn) (d := d) (szs := szs) hcc
  have HJ : Hid (0 ≤ c → i < L.length) := fun hx => drop_lt (by rw [hcc]; exact hx)
  have HE : Hid (leafS s.size (L.drop i) = ((if c = 91 then toOne (classS s.size (L.drop (i + 1))) else if c = 92 then (if isSet (L.drop i) = true then .ok (1, L.drop (i + 2)) else toOne (escapeS s.size (L.drop (i + 1)))) else if c = 46 then .ok (1, L.drop (i + 1)) else if c < 0 ∨ isMark c = true then bad 2 s.size (L.drop i) else .ok (1, L.drop (i + 1))) : Res Int)) := by
    show _ = _
    rw [leafS, hcc, drop_tail, drop_tail]
    cases classS s.size (L.drop (i + 1)) <;> cases escapeS s.size (L.drop (i + 1)) <;> rfl
  have HT : Hid (isSet (L.drop i) = decide (c = 92 ∧ (hd (L.drop (i + 1)) = 100 ∨ hd (L.drop (i + 1)) = 119))) := by show _ = _; rw [isSet_drop, hcc]
  rw [hcc] at hge hc
  clear hcc
  have k40 : (c == 40) = false := by simpa using hc
  by_cases h91 : c = 91
  · subst h91
    have hj := unhide HJ (by decide)
    have HX := hide ((unhide HE).trans (if_pos rfl))
    clear HE HJ HT k40 hc hge
    go_enter Tryz.func235, Tryz.ntmps235
    go_wp2_with (first
      | (go_at_call 171; refine (unhide HL _ HS).mono ?_; clear HS; rintro x w2 ⟨rfl, HS⟩; have q2 := (unhide HS).rs.c2; have f2 := (unhide HS).rs.fz 2)
      | (go_at_call 264; refine (class_st (St.up HS hj)).mono ?_; clear HS q2 f2; rintro x w3 ⟨ao, n, cp, i', e', p', rfl, HS, hi', hen⟩; have HEN := hide hen; clear hen)
      | (go_at_call 265; refine (leaf_st HS hsz ao n cp).mono ?_; clear HS; rintro x w4 ⟨rfl, vn', HS⟩))
    go_ret
    exact node_leaf (unhide HX) HS (by omega) (unhide HOK) (unhide HEN)
  · have k91 : (c == 91) = false := by simpa using h91
    by_cases h92 : c = 92
    · subst h92
      have hj := unhide HJ (by decide)
      have HX := hide (((unhide HE).trans (if_neg h91)).trans (if_pos rfl))
      clear HE HJ k40 hc hge h91 k91
      by_cases hset : hd (L.drop (i + 1)) = 100 ∨ hd (L.drop (i + 1)) = 119
      · have HY := hide ((unhide HX).trans (if_pos (by rw [unhide HT]; simp; exact hset)))
        have HSET := hide hset
        clear HX HT hset
        go_enter Tryz.func235, Tryz.ntmps235
        go_wp2_with (first
          | (go_at_call 171; refine (unhide HL _ HS).mono ?_; clear HS; rintro x w2 ⟨rfl, HS⟩; have q2 := (unhide HS).rs.c2; have f2 := (unhide HS).rs.fz 2)
          | (go_at_call 266; refine (escape_set HS hj (unhide HSET) (.error (0, 0))).mono ?_; clear HS q2 f2; rintro x w3 ⟨ao, n, cp, l, HF, hl, ⟨-, rfl, HS⟩ | ⟨hx, -⟩⟩ <;> (try cases hx))
          | (go_at_call 265; refine (leaf_st HS hsz ao n cp).mono ?_; clear HS; rintro x w4 ⟨rfl, vn', HS⟩))
        go_ret
        exact node_leaf (R2 := (.ok ((), L.drop (i + 2)) : Res Unit)) (unhide HY) HS (by omega) (unhide HOK) (ends_ok _ _ _)
      · have HY := hide ((unhide HX).trans (if_neg (by rw [unhide HT]; simp; omega)))
        have HSET := hide hset
        clear HX HT hset
        go_enter Tryz.func235, Tryz.ntmps235
        go_wp2_with (first
          | (go_at_call 171; refine (unhide HL _ HS).mono ?_; clear HS; rintro x w2 ⟨rfl, HS⟩; have q2 := (unhide HS).rs.c2; have f2 := (unhide HS).rs.fz 2)
          | (go_at_call 266; refine (escape_one false HS hj (.inr (unhide HSET))).mono ?_; clear HS q2 f2; rintro x w3 ⟨ao, n, cp, l, HF, hl, ⟨hx, -⟩ | ⟨-, rfl, i', e', p', HS, hi', hen, -⟩⟩ <;> (first | cases hx | (have HEN := hide hen; clear hen)))
          | (go_at_call 265; refine (leaf_st HS hsz ao n cp).mono ?_; clear HS; rintro x w4 ⟨rfl, vn', HS⟩))
        go_ret
        exact node_leaf (unhide HY) HS (by omega) (unhide HOK) (unhide HEN)
    · have k92 : (c == 92) = false := by simpa using h92
      have HX := hide (((unhide HE).trans (if_neg h91)).trans (if_neg h92))
      clear HE HT
      by_cases h46 : c = 46
      · subst h46
        have hj := unhide HJ (by decide)
        have HY := hide ((unhide HX).trans (if_pos rfl))
        have HA := hide (fun w1 => refAmong_any 46 markList w1 (by unfold maxLen; decide))
        rw [show amongL 46 markList.data.toList = false from by decide] at HA
        clear HX HJ hc h91 h92 k40 k91 k92 hge
        go_enter Tryz.func235, Tryz.ntmps235
        go_wp2_with (first
          | (go_at_call 171; refine (unhide HL _ HS).mono ?_; clear HS; rintro x w2 ⟨rfl, HS⟩; have q2 := (unhide HS).rs.c2; have f2 := (unhide HS).rs.fz 2)
          | (go_at_call 172; refine (unhide HA _).mono ?_; rintro x w2 ⟨rfl, rfl⟩)
          | (go_at_call 267; refine (every_st (St.up HS hj)).mono ?_; clear HS q2 f2; rintro x w3 ⟨ao, n, cp, rfl, HS⟩)
          | (go_at_call 265; refine (leaf_st HS hsz ao n cp).mono ?_; clear HS; rintro x w4 ⟨rfl, vn', HS⟩))
        go_ret
        exact node_leaf (R2 := (.ok ((), L.drop (i + 1)) : Res Unit)) (unhide HY) HS (by omega) (unhide HOK) (ends_ok _ _ _)
      · have HY := hide ((unhide HX).trans (if_neg h46))
        have k46 : (c == 46) = false := by simpa using h46
        have HA := hide (fun w1 => refAmong_any c markList w1 (by unfold maxLen; decide))
        rw [mark_among c hc h46 h92] at HA
        by_cases hneg : c < 0
        · have HZ := hide ((unhide HY).trans (if_pos (.inl hneg)))
          clear HX HY HJ hc h91 h92 h46
          go_enter Tryz.func235, Tryz.ntmps235
          go_wp2_with (first
            | (go_at_call 171; refine (unhide HL _ HS).mono ?_; clear HS; rintro x w2 ⟨rfl, HS⟩; have q2 := (unhide HS).rs.c2; have f2 := (unhide HS).rs.fz 2)
            | (go_at_call 126; refine (wrong_new HS 2).mono ?_; clear HS; rintro x w3 ⟨rfl, HS⟩))
          go_ret
          exact node_bad (unhide HZ) (by decide) HS (Nat.le_refl _) (unhide HOK) 0 1
        · have hj := unhide HJ (by omega)
          have kn : decide (c < 0) = false := by simp; omega
          cases hm : isMark c
          · have HZ := hide ((unhide HY).trans (if_neg (by rw [hm]; simp; omega)))
            rw [hm] at HA
            clear HX HY HJ hc h91 h92 h46 hm hneg
            go_enter Tryz.func235, Tryz.ntmps235
            go_wp2_with (first
              | (go_at_call 171; refine (unhide HL _ HS).mono ?_; clear HS; rintro x w2 ⟨rfl, HS⟩; have q2 := (unhide HS).rs.c2; have f2 := (unhide HS).rs.fz 2)
              | (go_at_call 172; refine (unhide HA _).mono ?_; rintro x w2 ⟨rfl, rfl⟩)
              | (go_at_call 268; refine (single_st (St.up HS hj) c).mono ?_; clear HS q2 f2; rintro x w3 ⟨ao, n, cp, rfl, HS, -⟩)
              | (go_at_call 265; refine (leaf_st HS hsz ao n cp).mono ?_; clear HS; rintro x w4 ⟨rfl, vn', HS⟩))
            go_ret
            exact node_leaf (R2 := (.ok ((), L.drop (i + 1)) : Res Unit)) (unhide HZ) HS (by omega) (unhide HOK) (ends_ok _ _ _)
          · have HZ := hide ((unhide HY).trans (if_pos (.inr hm)))
            rw [hm] at HA
            clear HX HY HJ hc h91 h92 h46 hm hneg
            go_enter Tryz.func235, Tryz.ntmps235
            go_wp2_with (first
              | (go_at_call 171; refine (unhide HL _ HS).mono ?_; clear HS; rintro x w2 ⟨rfl, HS⟩; have q2 := (unhide HS).rs.c2; have f2 := (unhide HS).rs.fz 2)
              | (go_at_call 172; refine (unhide HA _).mono ?_; rintro x w2 ⟨rfl, rfl⟩)
              | (go_at_call 126; refine (wrong_new HS 2).mono ?_; clear HS; rintro x w3 ⟨rfl, HS⟩))
            go_ret
            exact node_bad (unhide HZ) (by decide) HS (Nat.le_refl _) (unhide HOK) 0 1
end
end Go.Proofs.YtihjfoldgnoolaaGreatDoor

namespace Go.Proofs.YtihjfoldgnoolaaGreatDoor
open Go.RowKit

def repList : ByteArray := ⟨#[42, 43, 63, 123]⟩
theorem rep_among (c : Int) : amongL c repList.data.toList = isRep c := by
  rw [Bool.eq_iff_iff]; simp [amongL, repList, isRep]; omega

/-- what is asked of atom at a depth. -/
def AtomOK (s : ByteArray) (at_ : List Sy → Res Int) (d : Int) : Prop :=
  ∀ (w0 : World) (v0 : Value) (w : World) (b : Nat) (L : List Sy) (vs vn : Value) (i : Nat) (szs : List Int), Hid (St w0 v0 w b s L vs vn i d szs 0 0) → SzOk szs → szs.length ≤ 4 * i + 10 →
    Calls Tryz.prog 235 #[.pointer (some ⟨b, 0, none⟩)] w (NodePost 0 1 (at_ (L.drop i)) w0 v0 b s L vs i d szs)

section
variable {w0 w : World} {v0 : Value} {b : Nat} {s : ByteArray} {L : List Sy} {vs vn : Value} {i : Nat} {d : Int} {szs : List Int} {e p : Int}

theorem repeat_st (h : Hid (St w0 v0 w b s L vs vn i d szs 0 0)) (hc : isRep (hd (L.drop i)) = true) :
    Calls Tryz.prog 236 #[.pointer (some ⟨b, 0, none⟩)] w (RepPost w0 v0 b s L vs vn i d szs (repeatS s.size (L.drop i))) := by
  simp only [isRep, decide_eq_true_eq] at hc
  rcases hc with hc | hc | hc | hc
  · exact repeat_sign h (.inl hc)
  · exact repeat_sign h (.inr (.inl hc))
  · exact repeat_sign h (.inr (.inr hc))
  · exact repeat_brace h hc

theorem closeS_ok {n : Nat} {m : Int} {l : List Sy} {y : Int × List Sy} (h : closeS n m l = .ok y) : y.1 = m := by
  unfold closeS at h
  split at h
  · cases h; rfl
  · cases h
theorem pos1_b {m : Int} (h0 : 0 ≤ m) (h1 : m ≤ 12) : 1 ≤ pos1 m ∧ pos1 m ≤ 13 := by unfold pos1; split <;> omega
theorem repeatS_b {n : Nat} {l : List Sy} {y : Int × List Sy} (h : repeatS n l = .ok y) : 1 ≤ y.1 ∧ y.1 ≤ 13 := by
  unfold repeatS at h
  split at h
  · unfold boundsS at h
    split at h
    · cases h
    · rename_i a l1 ha
      obtain ⟨-, -, -, h12, h0⟩ := numberS_ok ha
      split at h
      · split at h
        · cases h; exact ⟨by dsimp only; omega, by dsimp only; omega⟩
        · split at h
          · cases h
          · rename_i m l2 hm
            obtain ⟨-, -, -, k12, k0⟩ := numberS_ok hm
            rw [closeS_ok h]; exact pos1_b k0 k12
      · rw [closeS_ok h]; exact pos1_b h0 h12
  · cases h; exact ⟨by dsimp only; omega, by dsimp only; omega⟩

/-- the size of a part, in memory. -/
theorem node_cell (h : Hid (St w0 v0 w b s L vs vn i d szs e p)) {n : Nat} (hn : n < szs.length) :
    ∃ g c, vn = .slice (some ⟨g, 0, none⟩) szs.length c ∧ g < w.heap.size ∧ w.cell? ⟨g, n * 6 + 5, none⟩ = some (.int .i64 (szs.getD n 0)) := by
  obtain ⟨xs, h1, h2⟩ := (unhide h).rs.nodes
  obtain ⟨ao, cp, rfl, hv⟩ := own_view h1
  obtain ⟨g, rfl, -, hg, hc, -⟩ := hv (by omega)
  exact ⟨g, cp, rfl, hg, by rw [hc _ (by omega)]; exact h2 n hn⟩

def RepRel (R : Res Int) (w0 : World) (v0 : Value) (wr : World) (b : Nat) (s : ByteArray) (L : List Sy) (vs : Value) (i : Nat) (d : Int) (szs : List Int) (n : Nat) : Prop :=
  ∃ (vn : Value) (j f : Nat) (more : List Int), Hid (St w0 v0 wr b s L vs vn j d (szs ++ more) 0 0) ∧ repsS s.size f ((szs ++ more).getD n 0) (L.drop j) = R ∧ (L.drop j).length < f ∧ i + 1 ≤ j ∧ more.length ≤ 4 * (j - i) ∧ SzOk (szs ++ more) ∧ n < (szs ++ more).length

theorem rep_next {w7 : World} {vn7 : Value} {R : Res Int} {more : List Int} {j j2 f2 : Nat} {z : Int} {l2 : List Sy} (HS : Hid (St w0 v0 w7 b s L vs vn7 j2 d (szs ++ more ++ [z]) 0 0)) (hR : R = repsS s.size f2 z l2) (hd2 : L.drop j2 = l2) (hf : (L.drop j).length < f2 + 1) (hij : i + 1 ≤ j) (hj2 : j + 1 ≤ j2)
    (hm : more.length ≤ 4 * (j - i)) (hok : SzOk (szs ++ more)) (h0 : 0 ≤ z) (h1 : z ≤ 61) : Hid (RepRel R w0 v0 w7 b s L vs i d szs (szs.length + more.length)) := by
  have hle := (unhide HS).le
  rw [← List.length_append]
  refine ⟨vn7, j2, f2, more ++ [z], by rw [← List.append_assoc]; exact HS, ?_, ?_, by omega, by simp only [List.length_append, List.length_cons, List.length_nil]; omega, by rw [← List.append_assoc]; exact hok.snoc h0 h1, by simp⟩
  · rw [← List.append_assoc]
    have : (szs ++ more ++ [z]).getD (szs ++ more).length 0 = z := by simp [List.getD]
    rw [this, hd2, hR]
  · rw [hd2] ; rw [← hd2]; simp only [List.length_drop] at hf ⊢; omega

set_option maxRecDepth 100000 in
set_option maxHeartbeats 8000000 in
/-- item where no not stands. -/
theorem item_atom {at_ : List Sy → Res Int} (HA : AtomOK s at_ d) (h : Hid (St w0 v0 w b s L vs vn i d szs 0 0)) (hok : SzOk szs) (hsz : szs.length ≤ 4 * i + 10) (h126 : ¬ hd (L.drop i) = 126) (f : Nat) :
    Calls Tryz.prog 173 #[.pointer (some ⟨b, 0, none⟩)] w (NodePost 0 1 (itemS s.size at_ (f + 1) (L.drop i)) w0 v0 b s L vs i d szs) := by
  have hlen := (unhide h).rs.len
  have hle := (unhide h).le
  have HN := hide (is_no h 126 (by decide) (by decide) (by show ¬ lookV 0 (L.drop i) = 126; exact h126))
  obtain ⟨R, hR⟩ : ∃ R, itemS s.size at_ (f + 1) (L.drop i) = R := ⟨_, rfl⟩
  have HR : Hid (R = match at_ (L.drop i) with | .error x => .error x | .ok (z, l1) => repsS s.size (l1.length + 1) z l1) := by show _ = _; rw [← hR, itemS, if_neg h126]; rfl
  rw [hR]
  have HAT := hide (fun w1 hs => HA w0 v0 w1 b L vs vn i szs hs hok hsz)
  clear h hR h126 HA
  go_enter Tryz.func173, Tryz.ntmps173
  go_wp2_with (first
    | (go_at_call 175; refine (unhide HN).mono ?_; clear HN; rintro x w1 ⟨rfl, HS⟩)
    | (go_at_call 235; refine (unhide HAT _ HS).mono ?_; clear HS HAT; rintro x w2 ⟨n, vn1, i1, e1, p1, more, rfl, HS, hi1, hm1, hok1, hn1, hen1, hy1⟩))
  cases hat : at_ (L.drop i) with
  | error y =>
    rw [hat] at hen1 HR
    obtain ⟨rfl, rfl, hy0⟩ := hen1
    have q5 := (unhide HS).rs.c5
    have hy0' : (y.1 == 0) = false := by simpa using hy0
    have HY0 := hide hy0
    clear hy0 hy1
    refine wp_loop_rounds 1 ?_
    rw [rounds_succ]
    go_wp2_with fail
    go_ret
    refine ⟨n, vn1, i1, _, _, more, rfl, HS, hi1, hm1, hok1, hn1, by rw [unhide HR]; exact ⟨rfl, rfl, unhide HY0⟩, ?_⟩
    intro y' h'; rw [unhide HR] at h'; cases h'
  | ok y =>
    obtain ⟨z, l1⟩ := y
    rw [hat] at hen1 HR hy1
    obtain ⟨rfl, rfl, hd1⟩ := hen1
    obtain ⟨hn2, hz, hpr⟩ := hy1 _ rfl
    have HRel : Hid (RepRel R w0 v0 w2 b s L vs i d szs n) := ⟨vn1, i1, _, more, HS, by rw [hz, hd1]; exact (unhide HR).symm, by rw [hd1]; exact Nat.lt_succ_self _, hpr, by omega, hok1, hn2⟩
    clear hat HR hy1 hn1 hm1 hok1 hd1 hn2 hz hpr HS
    go_loopw [6] (fun v wr => ∃ m : Nat, v = .int .i64 m ∧ Hid (RepRel R w0 v0 wr b s L vs i d szs m)) (fun _ wr => L.length - cellN wr b)
    case atStart => exact ⟨n, rfl, HRel⟩
    case round =>
      clear HRel
      obtain ⟨m, rfl, HRel⟩ := hrel
      obtain ⟨vn2, j, f2, more, HS, hre, hf2, hij, hm, hok2, hmn⟩ := unhide HRel
      have q5 := (unhide HS).rs.c5
      have hjle := (unhide HS).le
      have HCN : cellN wr b = j := cellN_eq (unhide HS).rs.c2
      have HL := look_at (w0 := w0) (v0 := v0) (b := b) (s := s) (L := L) (vs := vs) (vn := vn2) (d := d) (szs := szs ++ more) (j := j) rfl
      have HAM := hide (fun w1 => refAmong_any (hd (L.drop j)) repList w1 (by unfold maxLen; decide))
      rw [rep_among] at HAM
      obtain ⟨f2, rfl⟩ : ∃ k, f2 = k + 1 := ⟨f2 - 1, by omega⟩
      cases hrep : isRep (hd (L.drop j))
      · rw [hrep] at HAM
        have HF : Hid (R = .ok ((szs ++ more).getD m 0, L.drop j)) := by show _ = _; rw [← hre, repsS, if_neg (by rw [hrep]; decide)]
        have HP := hide (show m < (szs ++ more).length ∧ SzOk (szs ++ more) ∧ more.length ≤ 4 * (j - i) from ⟨hmn, hok2, hm⟩)
        clear hre hrep hok2 hmn hm HRel hf2
        generalize hd (L.drop j) = c at HL HAM
        go_wp2_with (first
          | (go_at_call 171; refine (unhide HL _ HS).mono ?_; clear HS HL; rintro x w3 ⟨rfl, HS⟩)
          | (go_at_call 172; refine (unhide HAM _).mono ?_; rintro x w4 ⟨rfl, rfl⟩))
        go_ret
        obtain ⟨g1, g2, g3⟩ := unhide HP
        refine ⟨m, vn2, j, 0, 0, more, rfl, HS, by omega, by omega, g2, .inl g1, by rw [unhide HF]; exact ends_ok _ _ _, ?_⟩
        intro y hy; rw [unhide HF] at hy; cases hy; exact ⟨g1, rfl, hij⟩
      · rw [hrep] at HAM
        have HRP := hide (fun w1 (hs : Hid (St w0 v0 w1 b s L vs vn2 j d (szs ++ more) 0 0)) => repeat_st hs hrep)
        have HRE : Hid (R = match repeatS s.size (L.drop j) with | .error x => .error x | .ok (m', l1) => repsS s.size f2 (cap61 ((szs ++ more).getD m 0 * m')) l1) := by show _ = _; rw [← hre, repsS, if_pos hrep]; rfl
        have hjl := drop_lt (L := L) (i := j) (by have := hrep; simp [isRep] at this; omega)
        cases hrs : repeatS s.size (L.drop j) with
        | error y =>
          rw [hrs] at HRE HRP
          have HP := hide (show m < (szs ++ more).length ∧ SzOk (szs ++ more) ∧ more.length ≤ 4 * (j - i) from ⟨hmn, hok2, hm⟩)
          clear hre hrep hok2 hmn hm HRel hf2 hrs
          generalize hd (L.drop j) = c at HL HAM
          go_wp2_with (first
            | (go_at_call 171; refine (unhide HL _ HS).mono ?_; clear HS HL; rintro x w3 ⟨rfl, HS⟩)
            | (go_at_call 172; refine (unhide HAM _).mono ?_; rintro x w4 ⟨rfl, rfl⟩)
            | (go_at_call 236; refine (unhide HRP _ HS).mono ?_; clear HS HRP q5; rintro x w5 ⟨a1, a2, a3, j2, e2, p2, rfl, HS, hj2, ⟨rfl, rfl, hy0⟩, -⟩; have q5 := (unhide HS).rs.c5; have hy0' : (y.1 != 0) = true := (by simpa using hy0); have HY0 := hide hy0; clear hy0))
          go_ret
          obtain ⟨g1, g2, g3⟩ := unhide HP
          refine ⟨m, vn2, j2, _, _, more, rfl, HS, by omega, by omega, g2, .inl g1, by rw [unhide HRE]; exact ⟨rfl, rfl, unhide HY0⟩, ?_⟩
          intro y' h'; rw [unhide HRE] at h'; cases h'
        | ok y =>
          obtain ⟨t, l2⟩ := y
          obtain ⟨hb1, hb2⟩ := repeatS_b hrs
          dsimp only at hb1 hb2
          rw [hrs] at HRE HRP
          obtain ⟨hz0, hz1⟩ := hok2.at m
          have hmul0 : 0 ≤ (szs ++ more).getD m 0 * t := Int.mul_nonneg hz0 (by omega)
          have hmul1 : (szs ++ more).getD m 0 * t ≤ 61 * 13 := Int.mul_le_mul hz1 hb2 (by omega) (by decide)
          obtain ⟨gn, cn, rfl, -, -⟩ := node_cell HS hmn
          have hszb : (szs ++ more).length ≤ 10000 := by simp only [List.length_append]; omega
          have HP := hide (show SzOk (szs ++ more) ∧ more.length ≤ 4 * (j - i) from ⟨hok2, hm⟩)
          have HF2 := hide hf2
          have HCNH := hide HCN
          clear HCN
          have HMN := hide hmn
          have hmn2 : m < szs.length + more.length := by simpa using hmn
          clear hre hrep hok2 hm HRel hf2 hrs
          generalize hd (L.drop j) = c at HL HAM
          obtain ⟨zz, hzz⟩ : ∃ zz, (szs ++ more).getD m 0 = zz := ⟨_, rfl⟩
          rw [hzz] at HRE hmul0 hmul1 hz0 hz1
          have HZZ := hide hzz
          clear hzz
          go_wp2_with (first
            | (go_at_call 171; refine (unhide HL _ HS).mono ?_; clear HS HL; rintro x w3 ⟨rfl, HS⟩)
            | (go_at_call 172; refine (unhide HAM _).mono ?_; rintro x w4 ⟨rfl, rfl⟩)
            | (go_at_call 236; refine (unhide HRP _ HS).mono ?_; clear HS HRP q5; rintro x w5 ⟨a1, a2, a3, j2, e2, p2, rfl, HS, hj2, ⟨rfl, rfl, hdj2⟩, hy3⟩; obtain rfl : a3 = t := hy3 _ rfl; have q5 := (unhide HS).rs.c5; have q4 := (unhide HS).rs.c4; have hbl := (unhide HS).rs.lt; obtain ⟨g5, c5, hv5, hg5, hc5⟩ := node_cell HS (unhide HMN); cases hv5; rw [unhide HZZ] at hc5; have HDJ := hide hdj2; clear hdj2 hy3)
            | (go_at_call 234; refine (refCapped_any _ _).mono ?_; rintro x w6 ⟨rfl, rfl⟩)
            | (go_at_call 233; refine (add_st (St.below HS ((Below.refl _ _).alloc (Nat.le_refl _) _)) hszb 5 a1 a2 _ (.slice none 0 0) (.slice (some ⟨w5.heap.size, 0, none⟩) 1 1) rfl rfl).mono ?_; rintro x w7 ⟨rfl, vn7, HS7⟩))
          go_roundw
          case rel => exact ⟨_, rfl, rep_next HS7 (unhide HRE) (unhide HDJ) (unhide HF2) hij hj2 (unhide HP).2 (unhide HP).1 (cap61_ge hmul0) (cap61_le _)⟩
          case measure =>
            rw [cellN_eq (unhide HS7).rs.c2, unhide HCNH]
            have := (unhide HS7).le
            omega

theorem not_next {w7 : World} {vn7 : Value} {R : Res Int} {more : List Int} {j2 : Nat} {z : Int} {l2 : List Sy} (HS : Hid (St w0 v0 w7 b s L vs vn7 j2 d (szs ++ more ++ [z]) 0 0)) (hR : R = .ok (z, l2)) (hd2 : L.drop j2 = l2) (hj2 : i + 1 ≤ j2)
    (hm : more.length ≤ 4 * (j2 - (i + 1)) + 0) (hok : SzOk (szs ++ more)) (h0 : 0 ≤ z) (h1 : z ≤ 61) : NodePost 0 1 R w0 v0 b s L vs i d szs (.returned (.int .i64 ((szs.length : Int) + (more.length : Int)))) w7 := by
  refine ⟨(szs ++ more).length, vn7, j2, 0, 0, more ++ [z], by simp, by rw [← List.append_assoc]; exact HS, by omega, by simp only [List.length_append, List.length_cons, List.length_nil]; omega, by rw [← List.append_assoc]; exact hok.snoc h0 h1, .inl (by simp), by rw [hR, ← hd2]; exact ends_ok _ _ _, ?_⟩
  intro y hy
  rw [hR] at hy; cases hy
  refine ⟨by simp, ?_, hj2⟩
  rw [← List.append_assoc]; simp [List.getD]

set_option maxRecDepth 100000 in
set_option maxHeartbeats 8000000 in
theorem item_st {at_ : List Sy → Res Int} (HA : AtomOK s at_ d) : ∀ (f : Nat) (w0 : World) (v0 : Value) (w : World) (vn : Value) (i : Nat) (szs : List Int), (L.drop i).length < f → Hid (St w0 v0 w b s L vs vn i d szs 0 0) → SzOk szs → szs.length ≤ 4 * i + 10 →
    Calls Tryz.prog 173 #[.pointer (some ⟨b, 0, none⟩)] w (NodePost 0 1 (itemS s.size at_ f (L.drop i)) w0 v0 b s L vs i d szs) := by
  intro f
  induction f with
  | zero => intro w0 v0 w vn i szs hf; omega
  | succ f ih =>
    intro w0 v0 w vn i szs hf h hok hsz
    by_cases h126 : hd (L.drop i) = 126
    · have hlen := (unhide h).rs.len
      have hj := drop_lt (L := L) (i := i) (by omega)
      have HY := hide (is_yes h 126 (by decide) (by decide) (by show lookV 0 (L.drop i) = 126; exact h126))
      obtain ⟨R, hR⟩ : ∃ R, itemS s.size at_ (f + 1) (L.drop i) = R := ⟨_, rfl⟩
      have HR : Hid (R = match itemS s.size at_ f (L.drop (i + 1)) with | .error x => .error x | .ok (z, l1) => .ok (cap61 (z + 1), l1)) := by show _ = _; rw [← hR, itemS, if_pos h126, drop_tail]; rfl
      rw [hR]
      have HIH := hide (fun w1 hs => ih w0 v0 w1 vn (i + 1) szs (by simp only [List.length_drop] at hf ⊢; omega) hs hok (by omega))
      clear h hR h126 HA ih hf
      cases hit : itemS s.size at_ f (L.drop (i + 1)) with
      | error y =>
        rw [hit] at HR HIH
        clear hit
        go_enter Tryz.func173, Tryz.ntmps173
        go_wp2_with (first
          | (go_at_call 175; refine (unhide HY).mono ?_; clear HY; rintro x w1 ⟨rfl, HS⟩)
          | (go_at_call 173; refine (unhide HIH _ HS).mono ?_; clear HS HIH; rintro x w2 ⟨n, vn1, i1, e1, p1, more, rfl, HS, hi1, hm1, hok1, hn1, ⟨rfl, rfl, hy0⟩, -⟩; have q5 := (unhide HS).rs.c5; have hy0' : (y.1 != 0) = true := (by simpa using hy0); have HP := hide (show more.length ≤ 4 * (i1 - (i + 1)) + 0 ∧ SzOk (szs ++ more) ∧ (n < (szs ++ more).length ∨ n = 0) ∧ ¬ y.1 = 0 from ⟨hm1, hok1, hn1, hy0⟩); clear hm1 hok1 hn1 hy0))
        go_ret
        obtain ⟨g1, g2, g3, g4⟩ := unhide HP
        refine ⟨n, vn1, i1, _, _, more, rfl, HS, by omega, by omega, g2, g3, by rw [unhide HR]; exact ⟨rfl, rfl, g4⟩, ?_⟩
        intro y' h'; rw [unhide HR] at h'; cases h'
      | ok y =>
        obtain ⟨z, l1⟩ := y
        rw [hit] at HR HIH
        clear hit
        go_enter Tryz.func173, Tryz.ntmps173
        go_wp2_with (first
          | (go_at_call 175; refine (unhide HY).mono ?_; clear HY; rintro x w1 ⟨rfl, HS⟩)
          | (go_at_call 173; refine (unhide HIH _ HS).mono ?_; clear HS HIH; rintro x w2 ⟨n, vn1, i1, e1, p1, more, rfl, HS, hi1, hm1, hok1, -, ⟨rfl, rfl, hd1⟩, hy1⟩; obtain ⟨hnl, hnz, -⟩ := hy1 _ rfl; have q5 := (unhide HS).rs.c5; have hbl := (unhide HS).rs.lt; obtain ⟨g5, c5, rfl, hg5, hc5⟩ := node_cell HS hnl; have q4 := (unhide HS).rs.c4; obtain ⟨hz0, hz1⟩ := hok1.at n; rw [hnz] at hc5 hz0 hz1; dsimp only at hc5 hz0 hz1; have hn2 : n < szs.length + more.length := (by simpa using hnl); have hszb : (szs ++ more).length ≤ 10000 := (by have := (unhide HS).le; simp only [List.length_append]; omega); have HP := hide (show more.length ≤ 4 * (i1 - (i + 1)) + 0 ∧ SzOk (szs ++ more) ∧ L.drop i1 = l1 from ⟨hm1, hok1, hd1⟩); clear hm1 hok1 hd1 hy1 hnz)
          | (go_at_call 234; refine (refCapped_any _ _).mono ?_; rintro x w6 ⟨rfl, rfl⟩)
          | (go_at_call 233; refine (add_st (St.below HS ((Below.refl _ _).alloc (Nat.le_refl _) _)) hszb 4 0 0 _ (.slice none 0 0) (.slice (some ⟨w2.heap.size, 0, none⟩) 1 1) rfl rfl).mono ?_; rintro x w7 ⟨rfl, vn7, HS7⟩))
        go_ret
        obtain ⟨g1, g2, g3⟩ := unhide HP
        exact not_next HS7 (unhide HR) g3 (by omega) g1 g2 (cap61_ge (by omega)) (cap61_le _)
    · exact item_atom HA h hok hsz h126 f
end
end Go.Proofs.YtihjfoldgnoolaaGreatDoor
