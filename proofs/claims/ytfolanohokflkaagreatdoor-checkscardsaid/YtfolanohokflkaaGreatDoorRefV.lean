import Derived.Test.YtfolanohokflkaaGreatDoorRefT
import Derived.WalkKit
import Derived.WalkSpells
import Derived.WalkLawsBesides
namespace Go.Proofs.YtfolanohokflkaaGreatDoor
open Go.RowKit

def repList : ByteArray := ⟨#[42, 43, 63, 123]⟩
theorem rep_among (c : Int) : amongL c repList.data.toList = isRep c := by
  rw [Bool.eq_iff_iff]; simp [amongL, repList, isRep]; omega

/-- what is asked of atom at a depth. -/
def AtomOK (s : ByteArray) (at_ : List Sy → Res Int) (d : Int) : Prop :=
  ∀ (w0 : World) (v0 : Value) (w : World) (b : Nat) (L : List Sy) (vs vn : Value) (i : Nat) (szs : List Int), Hid (St w0 v0 w b s L vs vn i d szs 0 0) → SzOk szs → szs.length ≤ 4 * i + 10 →
    Calls Tryz.prog 245 #[.pointer (some ⟨b, 0, none⟩)] w (NodePost 0 1 (at_ (L.drop i)) w0 v0 b s L vs i d szs)

section
variable {w0 w : World} {v0 : Value} {b : Nat} {s : ByteArray} {L : List Sy} {vs vn : Value} {i : Nat} {d : Int} {szs : List Int} {e p : Int}

theorem repeat_st (h : Hid (St w0 v0 w b s L vs vn i d szs 0 0)) (hc : isRep (hd (L.drop i)) = true) :
    Calls Tryz.prog 246 #[.pointer (some ⟨b, 0, none⟩)] w (RepPost w0 v0 b s L vs vn i d szs (repeatS s.size (L.drop i))) := by
  simp only [isRep, decide_eq_true_eq] at hc
  rcases hc with hc | hc | hc | hc
  · exact repeat_sign h (.inl hc)
  · exact repeat_sign h (.inr (.inl hc))
  · exact repeat_sign h (.inr (.inr hc))
  · exact repeat_brace h hc

theorem closeS_ok {n : Nat} {m : Int} {l : List Sy} {y : Int × List Sy} (h : closeS n m l = .ok y) : y.1 = m := by
  unfold closeS at h
  split at h
  · cases h; rfl
  · cases h
theorem pos1_b {m : Int} (h0 : 0 ≤ m) (h1 : m ≤ 12) : 1 ≤ pos1 m ∧ pos1 m ≤ 13 := by unfold pos1; split <;> omega
theorem repeatS_b {n : Nat} {l : List Sy} {y : Int × List Sy} (h : repeatS n l = .ok y) : 1 ≤ y.1 ∧ y.1 ≤ 13 := by
  unfold repeatS at h
  split at h
  · unfold boundsS at h
    split at h
    · cases h
    · rename_i a l1 ha
      obtain ⟨-, -, -, h12, h0⟩ := numberS_ok ha
      split at h
      · split at h
        · cases h; exact ⟨by dsimp only; omega, by dsimp only; omega⟩
        · split at h
          · cases h
          · rename_i m l2 hm
            obtain ⟨-, -, -, k12, k0⟩ := numberS_ok hm
            rw [closeS_ok h]; exact pos1_b k0 k12
      · rw [closeS_ok h]; exact pos1_b h0 h12
  · cases h; exact ⟨by dsimp only; omega, by dsimp only; omega⟩

/-- the size of a part, in memory. -/
theorem node_cell (h : Hid (St w0 v0 w b s L vs vn i d szs e p)) {n : Nat} (hn : n < szs.length) :
    ∃ g c, vn = .slice (some ⟨g, 0, none⟩) szs.length c ∧ g < w.heap.size ∧ w.cell? ⟨g, n * 6 + 5, none⟩ = some (.int .i64 (szs.getD n 0)) := by
  obtain ⟨xs, h1, h2⟩ := (unhide h).rs.nodes
  obtain ⟨ao, cp, rfl, hv⟩ := own_view h1
  obtain ⟨g, rfl, -, hg, hc, -⟩ := hv (by omega)
  exact ⟨g, cp, rfl, hg, by rw [hc _ (by omega)]; exact h2 n hn⟩

def RepRel (R : Res Int) (w0 : World) (v0 : Value) (wr : World) (b : Nat) (s : ByteArray) (L : List Sy) (vs : Value) (i : Nat) (d : Int) (szs : List Int) (n : Nat) : Prop :=
  ∃ (vn : Value) (j f : Nat) (more : List Int), Hid (St w0 v0 wr b s L vs vn j d (szs ++ more) 0 0) ∧ repsS s.size f ((szs ++ more).getD n 0) (L.drop j) = R ∧ (L.drop j).length < f ∧ i + 1 ≤ j ∧ more.length ≤ 4 * (j - i) ∧ SzOk (szs ++ more) ∧ n < (szs ++ more).length

theorem rep_next {w7 : World} {vn7 : Value} {R : Res Int} {more : List Int} {j j2 f2 : Nat} {z : Int} {l2 : List Sy} (HS : Hid (St w0 v0 w7 b s L vs vn7 j2 d (szs ++ more ++ [z]) 0 0)) (hR : R = repsS s.size f2 z l2) (hd2 : L.drop j2 = l2) (hf : (L.drop j).length < f2 + 1) (hij : i + 1 ≤ j) (hj2 : j + 1 ≤ j2)
    (hm : more.length ≤ 4 * (j - i)) (hok : SzOk (szs ++ more)) (h0 : 0 ≤ z) (h1 : z ≤ 61) : Hid (RepRel R w0 v0 w7 b s L vs i d szs (szs.length + more.length)) := by
  have hle := (unhide HS).le
  rw [← List.length_append]
  refine ⟨vn7, j2, f2, more ++ [z], by rw [← List.append_assoc]; exact HS, ?_, ?_, by omega, by simp only [List.length_append, List.length_cons, List.length_nil]; omega, by rw [← List.append_assoc]; exact hok.snoc h0 h1, by simp⟩
  · rw [← List.append_assoc]
    have : (szs ++ more ++ [z]).getD (szs ++ more).length 0 = z := by simp [List.getD]
    rw [this, hd2, hR]
  · rw [hd2] ; rw [← hd2]; simp only [List.length_drop] at hf ⊢; omega

set_option maxRecDepth 100000 in
set_option maxHeartbeats 8000000 in
/-- item where no not stands. -/
theorem item_atom {at_ : List Sy → Res Int} (HA : AtomOK s at_ d) (h : Hid (St w0 v0 w b s L vs vn i d szs 0 0)) (hok : SzOk szs) (hsz : szs.length ≤ 4 * i + 10) (h126 : ¬ hd (L.drop i) = 126) (f : Nat) :
    Calls Tryz.prog 207 #[.pointer (some ⟨b, 0, none⟩)] w (NodePost 0 1 (itemS s.size at_ (f + 1) (L.drop i)) w0 v0 b s L vs i d szs) := by
  have hlen := (unhide h).rs.len
  have hle := (unhide h).le
  have HN := hide (is_no h 126 (by decide) (by decide) (by show ¬ lookV 0 (L.drop i) = 126; exact h126))
  obtain ⟨R, hR⟩ : ∃ R, itemS s.size at_ (f + 1) (L.drop i) = R := ⟨_, rfl⟩
  have HR : Hid (R = match at_ (L.drop i) with | .error x => .error x | .ok (z, l1) => repsS s.size (l1.length + 1) z l1) := by show _ = _; rw [← hR, itemS, if_neg h126]; rfl
  rw [hR]
  have HAT := hide (fun w1 hs => HA w0 v0 w1 b L vs vn i szs hs hok hsz)
  clear h hR h126 HA
  go_enter Tryz.func207, Tryz.ntmps207
  go_wp2_with (first
    | (go_at_call 209; refine (unhide HN).mono ?_; clear HN; rintro x w1 ⟨rfl, HS⟩)
    | (go_at_call 245; refine (unhide HAT _ HS).mono ?_; clear HS HAT; rintro x w2 ⟨n, vn1, i1, e1, p1, more, rfl, HS, hi1, hm1, hok1, hn1, hen1, hy1⟩))
  cases hat : at_ (L.drop i) with
  | error y =>
    rw [hat] at hen1 HR
    obtain ⟨rfl, rfl, hy0⟩ := hen1
    have q5 := (unhide HS).rs.c5
    have hy0' : (y.1 == 0) = false := by simpa using hy0
    have HY0 := hide hy0
    clear hy0 hy1
    refine wp_loop_rounds 1 ?_
    rw [rounds_succ]
    go_wp2_with fail
    go_ret
    refine ⟨n, vn1, i1, _, _, more, rfl, HS, hi1, hm1, hok1, hn1, by rw [unhide HR]; exact ⟨rfl, rfl, unhide HY0⟩, ?_⟩
    intro y' h'; rw [unhide HR] at h'; cases h'
  | ok y =>
    obtain ⟨z, l1⟩ := y
    rw [hat] at hen1 HR hy1
    obtain ⟨rfl, rfl, hd1⟩ := hen1
    obtain ⟨hn2, hz, hpr⟩ := hy1 _ rfl
    have HRel : Hid (RepRel R w0 v0 w2 b s L vs i d szs n) := ⟨vn1, i1, _, more, HS, by rw [hz, hd1]; exact (unhide HR).symm, by rw [hd1]; exact Nat.lt_succ_self _, hpr, by omega, hok1, hn2⟩
    clear hat HR hy1 hn1 hm1 hok1 hd1 hn2 hz hpr HS
    go_loopw [6] (fun v wr => ∃ m : Nat, v = .int .i64 m ∧ Hid (RepRel R w0 v0 wr b s L vs i d szs m)) (fun _ wr => L.length - cellN wr b)
    case atStart => exact ⟨n, rfl, HRel⟩
    case round =>
      clear HRel
      obtain ⟨m, rfl, HRel⟩ := hrel
      obtain ⟨vn2, j, f2, more, HS, hre, hf2, hij, hm, hok2, hmn⟩ := unhide HRel
      have q5 := (unhide HS).rs.c5
      have hjle := (unhide HS).le
      have HCN : cellN wr b = j := cellN_eq (unhide HS).rs.c2
      have HL := look_at (w0 := w0) (v0 := v0) (b := b) (s := s) (L := L) (vs := vs) (vn := vn2) (d := d) (szs := szs ++ more) (j := j) rfl
      have HAM := hide (fun w1 => refAmong_any (hd (L.drop j)) repList w1 (by unfold maxLen; decide))
      rw [rep_among] at HAM
      obtain ⟨f2, rfl⟩ : ∃ k, f2 = k + 1 := ⟨f2 - 1, by omega⟩
      cases hrep : isRep (hd (L.drop j))
      · rw [hrep] at HAM
        have HF : Hid (R = .ok ((szs ++ more).getD m 0, L.drop j)) := by show _ = _; rw [← hre, repsS, if_neg (by rw [hrep]; decide)]
        have HP := hide (show m < (szs ++ more).length ∧ SzOk (szs ++ more) ∧ more.length ≤ 4 * (j - i) from ⟨hmn, hok2, hm⟩)
        clear hre hrep hok2 hmn hm HRel hf2
        generalize hd (L.drop j) = c at HL HAM
        go_wp2_with (first
          | (go_at_call 205; refine (unhide HL _ HS).mono ?_; clear HS HL; rintro x w3 ⟨rfl, HS⟩)
          | (go_at_call 206; refine (unhide HAM _).mono ?_; rintro x w4 ⟨rfl, rfl⟩))
        go_ret
        obtain ⟨g1, g2, g3⟩ := unhide HP
        refine ⟨m, vn2, j, 0, 0, more, rfl, HS, by omega, by omega, g2, .inl g1, by rw [unhide HF]; exact ends_ok _ _ _, ?_⟩
        intro y hy; rw [unhide HF] at hy; cases hy; exact ⟨g1, rfl, hij⟩
      · rw [hrep] at HAM
        have HRP := hide (fun w1 (hs : Hid (St w0 v0 w1 b s L vs vn2 j d (szs ++ more) 0 0)) => repeat_st hs hrep)
        have HRE : Hid (R = match repeatS s.size (L.drop j) with | .error x => .error x | .ok (m', l1) => repsS s.size f2 (cap61 ((szs ++ more).getD m 0 * m')) l1) := by show _ = _; rw [← hre, repsS, if_pos hrep]; rfl
        have hjl := drop_lt (L := L) (i := j) (by have := hrep; simp [isRep] at this; omega)
        cases hrs : repeatS s.size (L.drop j) with
        | error y =>
          rw [hrs] at HRE HRP
          have HP := hide (show m < (szs ++ more).length ∧ SzOk (szs ++ more) ∧ more.length ≤ 4 * (j - i) from ⟨hmn, hok2, hm⟩)
          clear hre hrep hok2 hmn hm HRel hf2 hrs
          generalize hd (L.drop j) = c at HL HAM
          go_wp2_with (first
            | (go_at_call 205; refine (unhide HL _ HS).mono ?_; clear HS HL; rintro x w3 ⟨rfl, HS⟩)
            | (go_at_call 206; refine (unhide HAM _).mono ?_; rintro x w4 ⟨rfl, rfl⟩)
            | (go_at_call 246; refine (unhide HRP _ HS).mono ?_; clear HS HRP q5; rintro x w5 ⟨a1, a2, a3, j2, e2, p2, rfl, HS, hj2, ⟨rfl, rfl, hy0⟩, -⟩; have q5 := (unhide HS).rs.c5; have hy0' : (y.1 != 0) = true := (by simpa using hy0); have HY0 := hide hy0; clear hy0))
          go_ret
          obtain ⟨g1, g2, g3⟩ := unhide HP
          refine ⟨m, vn2, j2, _, _, more, rfl, HS, by omega, by omega, g2, .inl g1, by rw [unhide HRE]; exact ⟨rfl, rfl, unhide HY0⟩, ?_⟩
          intro y' h'; rw [unhide HRE] at h'; cases h'
        | ok y =>
          obtain ⟨t, l2⟩ := y
          obtain ⟨hb1, hb2⟩ := repeatS_b hrs
          dsimp only at hb1 hb2
          rw [hrs] at HRE HRP
          obtain ⟨hz0, hz1⟩ := hok2.at m
          have hmul0 : 0 ≤ (szs ++ more).getD m 0 * t := Int.mul_nonneg hz0 (by omega)
          have hmul1 : (szs ++ more).getD m 0 * t ≤ 61 * 13 := Int.mul_le_mul hz1 hb2 (by omega) (by decide)
          obtain ⟨gn, cn, rfl, -, -⟩ := node_cell HS hmn
          have hszb : (szs ++ more).length ≤ 10000 := by simp only [List.length_append]; omega
          have HP := hide (show SzOk (szs ++ more) ∧ more.length ≤ 4 * (j - i) from ⟨hok2, hm⟩)
          have HF2 := hide hf2
          have HCNH := hide HCN
          clear HCN
          have HMN := hide hmn
          have hmn2 : m < szs.length + more.length := by simpa using hmn
          clear hre hrep hok2 hm HRel hf2 hrs
          generalize hd (L.drop j) = c at HL HAM
          obtain ⟨zz, hzz⟩ : ∃ zz, (szs ++ more).getD m 0 = zz := ⟨_, rfl⟩
          rw [hzz] at HRE hmul0 hmul1 hz0 hz1
          have HZZ := hide hzz
          clear hzz
          go_wp2_with (first
            | (go_at_call 205; refine (unhide HL _ HS).mono ?_; clear HS HL; rintro x w3 ⟨rfl, HS⟩)
            | (go_at_call 206; refine (unhide HAM _).mono ?_; rintro x w4 ⟨rfl, rfl⟩)
            | (go_at_call 246; refine (unhide HRP _ HS).mono ?_; clear HS HRP q5; rintro x w5 ⟨a1, a2, a3, j2, e2, p2, rfl, HS, hj2, ⟨rfl, rfl, hdj2⟩, hy3⟩; obtain rfl : a3 = t := hy3 _ rfl; have q5 := (unhide HS).rs.c5; have q4 := (unhide HS).rs.c4; have hbl := (unhide HS).rs.lt; obtain ⟨g5, c5, hv5, hg5, hc5⟩ := node_cell HS (unhide HMN); cases hv5; rw [unhide HZZ] at hc5; have HDJ := hide hdj2; clear hdj2 hy3)
            | (go_at_call 244; refine (refCapped_any _ _).mono ?_; rintro x w6 ⟨rfl, rfl⟩)
            | (go_at_call 243; refine (add_st (St.below HS ((Below.refl _ _).alloc (Nat.le_refl _) _)) hszb 5 a1 a2 _ (.slice none 0 0) (.slice (some ⟨w5.heap.size, 0, none⟩) 1 1) rfl rfl).mono ?_; rintro x w7 ⟨rfl, vn7, HS7⟩))
          go_roundw
          case rel => exact ⟨_, rfl, rep_next HS7 (unhide HRE) (unhide HDJ) (unhide HF2) hij hj2 (unhide HP).2 (unhide HP).1 (cap61_ge hmul0) (cap61_le _)⟩
          case measure =>
            rw [cellN_eq (unhide HS7).rs.c2, unhide HCNH]
            have := (unhide HS7).le
            omega

theorem not_next {w7 : World} {vn7 : Value} {R : Res Int} {more : List Int} {j2 : Nat} {z : Int} {l2 : List Sy} (HS : Hid (St w0 v0 w7 b s L vs vn7 j2 d (szs ++ more ++ [z]) 0 0)) (hR : R = .ok (z, l2)) (hd2 : L.drop j2 = l2) (hj2 : i + 1 ≤ j2)
    (hm : more.length ≤ 4 * (j2 - (i + 1)) + 0) (hok : SzOk (szs ++ more)) (h0 : 0 ≤ z) (h1 : z ≤ 61) : NodePost 0 1 R w0 v0 b s L vs i d szs (.returned (.int .i64 ((szs.length : Int) + (more.length : Int)))) w7 := by
  refine ⟨(szs ++ more).length, vn7, j2, 0, 0, more ++ [z], by simp, by rw [← List.append_assoc]; exact HS, by omega, by simp only [List.length_append, List.length_cons, List.length_nil]; omega, by rw [← List.append_assoc]; exact hok.snoc h0 h1, .inl (by simp), by rw [hR, ← hd2]; exact ends_ok _ _ _, ?_⟩
  intro y hy
  rw [hR] at hy; cases hy
  refine ⟨by simp, ?_, hj2⟩
  rw [← List.append_assoc]; simp [List.getD]

set_option maxRecDepth 100000 in
set_option maxHeartbeats 8000000 in
theorem item_st {at_ : List Sy → Res Int} (HA : AtomOK s at_ d) : ∀ (f : Nat) (w0 : World) (v0 : Value) (w : World) (vn : Value) (i : Nat) (szs : List Int), (L.drop i).length < f → Hid (St w0 v0 w b s L vs vn i d szs 0 0) → SzOk szs → szs.length ≤ 4 * i + 10 →
    Calls Tryz.prog 207 #[.pointer (some ⟨b, 0, none⟩)] w (NodePost 0 1 (itemS s.size at_ f (L.drop i)) w0 v0 b s L vs i d szs) := by
  intro f
  induction f with
  | zero => intro w0 v0 w vn i szs hf; omega
  | succ f ih =>
    intro w0 v0 w vn i szs hf h hok hsz
    by_cases h126 : hd (L.drop i) = 126
    · have hlen := (unhide h).rs.len
      have hj := drop_lt (L := L) (i := i) (by omega)
      have HY := hide (is_yes h 126 (by decide) (by decide) (by show lookV 0 (L.drop i) = 126; exact h126))
      obtain ⟨R, hR⟩ : ∃ R, itemS s.size at_ (f + 1) (L.drop i) = R := ⟨_, rfl⟩
      have HR : Hid (R = match itemS s.size at_ f (L.drop (i + 1)) with | .error x => .error x | .ok (z, l1) => .ok (cap61 (z + 1), l1)) := by show _ = _; rw [← hR, itemS, if_pos h126, drop_tail]; rfl
      rw [hR]
      have HIH := hide (fun w1 hs => ih w0 v0 w1 vn (i + 1) szs (by simp only [List.length_drop] at hf ⊢; omega) hs hok (by omega))
      clear h hR h126 HA ih hf
      cases hit : itemS s.size at_ f (L.drop (i + 1)) with
      | error y =>
        rw [hit] at HR HIH
        clear hit
        go_enter Tryz.func207, Tryz.ntmps207
        go_wp2_with (first
          | (go_at_call 209; refine (unhide HY).mono ?_; clear HY; rintro x w1 ⟨rfl, HS⟩)
          | (go_at_call 207; refine (unhide HIH _ HS).mono ?_; clear HS HIH; rintro x w2 ⟨n, vn1, i1, e1, p1, more, rfl, HS, hi1, hm1, hok1, hn1, ⟨rfl, rfl, hy0⟩, -⟩; have q5 := (unhide HS).rs.c5; have hy0' : (y.1 != 0) = true := (by simpa using hy0); have HP := hide (show more.length ≤ 4 * (i1 - (i + 1)) + 0 ∧ SzOk (szs ++ more) ∧ (n < (szs ++ more).length ∨ n = 0) ∧ ¬ y.1 = 0 from ⟨hm1, hok1, hn1, hy0⟩); clear hm1 hok1 hn1 hy0))
        go_ret
        obtain ⟨g1, g2, g3, g4⟩ := unhide HP
        refine ⟨n, vn1, i1, _, _, more, rfl, HS, by omega, by omega, g2, g3, by rw [unhide HR]; exact ⟨rfl, rfl, g4⟩, ?_⟩
        intro y' h'; rw [unhide HR] at h'; cases h'
      | ok y =>
        obtain ⟨z, l1⟩ := y
        rw [hit] at HR HIH
        clear hit
        go_enter Tryz.func207, Tryz.ntmps207
        go_wp2_with (first
          | (go_at_call 209; refine (unhide HY).mono ?_; clear HY; rintro x w1 ⟨rfl, HS⟩)
          | (go_at_call 207; refine (unhide HIH _ HS).mono ?_; clear HS HIH; rintro x w2 ⟨n, vn1, i1, e1, p1, more, rfl, HS, hi1, hm1, hok1, -, ⟨rfl, rfl, hd1⟩, hy1⟩; obtain ⟨hnl, hnz, -⟩ := hy1 _ rfl; have q5 := (unhide HS).rs.c5; have hbl := (unhide HS).rs.lt; obtain ⟨g5, c5, rfl, hg5, hc5⟩ := node_cell HS hnl; have q4 := (unhide HS).rs.c4; obtain ⟨hz0, hz1⟩ := hok1.at n; rw [hnz] at hc5 hz0 hz1; dsimp only at hc5 hz0 hz1; have hn2 : n < szs.length + more.length := (by simpa using hnl); have hszb : (szs ++ more).length ≤ 10000 := (by have := (unhide HS).le; simp only [List.length_append]; omega); have HP := hide (show more.length ≤ 4 * (i1 - (i + 1)) + 0 ∧ SzOk (szs ++ more) ∧ L.drop i1 = l1 from ⟨hm1, hok1, hd1⟩); clear hm1 hok1 hd1 hy1 hnz)
          | (go_at_call 244; refine (refCapped_any _ _).mono ?_; rintro x w6 ⟨rfl, rfl⟩)
          | (go_at_call 243; refine (add_st (St.below HS ((Below.refl _ _).alloc (Nat.le_refl _) _)) hszb 4 0 0 _ (.slice none 0 0) (.slice (some ⟨w2.heap.size, 0, none⟩) 1 1) rfl rfl).mono ?_; rintro x w7 ⟨rfl, vn7, HS7⟩))
        go_ret
        obtain ⟨g1, g2, g3⟩ := unhide HP
        exact not_next HS7 (unhide HR) g3 (by omega) g1 g2 (cap61_ge (by omega)) (cap61_le _)
    · exact item_atom HA h hok hsz h126 f
end
end Go.Proofs.YtfolanohokflkaaGreatDoor

namespace Go.Proofs.YtfolanohokflkaaGreatDoor
open Go.RowKit

theorem cap61_min (x : Int) : cap61 x = min x 61 := by unfold cap61; split <;> omega
def ssum (szs : List Int) : List Nat → Int
  | [] => 0
  | n :: r => szs.getD n 0 + ssum szs r
theorem ssum_ge {szs : List Int} (h : SzOk szs) : ∀ ns : List Nat, 0 ≤ ssum szs ns
  | [] => by simp [ssum]
  | n :: r => by have := h.at n; have := ssum_ge h r; simp only [ssum]; omega
def zgo (szs : List Int) : Int → List Nat → Int
  | z, [] => z
  | z, n :: r => zgo szs (cap61 (z + 1 + szs.getD n 0)) r
def zrun (szs : List Int) : List Nat → Int
  | [] => 1
  | n :: r => zgo szs (szs.getD n 0) r
theorem zgo_snoc (szs : List Int) : ∀ (ns : List Nat) (z : Int) (n : Nat), zgo szs z (ns ++ [n]) = cap61 (zgo szs z ns + 1 + szs.getD n 0)
  | [], _, _ => rfl
  | m :: r, z, n => by rw [List.cons_append, zgo, zgo_snoc szs r, zgo]
theorem zrun_snoc (szs : List Int) (ns : List Nat) (n : Nat) (h : ns ≠ []) : zrun szs (ns ++ [n]) = cap61 (zrun szs ns + 1 + szs.getD n 0) := by
  cases ns with
  | nil => exact absurd rfl h
  | cons m r => rw [List.cons_append, zrun, zrun, zgo_snoc]
theorem gfold_eq {szs : List Int} (h : SzOk szs) : ∀ (ns : List Nat) (z : Int), 0 ≤ z → ns ≠ [] → gfold szs z ns = min (z + ssum szs ns) 61
  | [], _, _, hn => absurd rfl hn
  | [n], z, h0, _ => by have := h.at n; rw [gfold, gfold, cap61_min]; simp [ssum]
  | n :: m :: r, z, h0, _ => by
    have h1 := h.at n
    have h2 := ssum_ge h (m :: r)
    rw [gfold, gfold_eq h (m :: r) _ (cap61_ge (by omega)) (by simp), cap61_min]
    simp only [ssum] at h2 ⊢
    omega
theorem zgo_eq {szs : List Int} (h : SzOk szs) : ∀ (ns : List Nat) (z : Int), 0 ≤ z → ns ≠ [] → zgo szs z ns = min (z + ns.length + ssum szs ns) 61
  | [], _, _, hn => absurd rfl hn
  | [n], z, h0, _ => by have := h.at n; rw [zgo, zgo, cap61_min]; simp [ssum]
  | n :: m :: r, z, h0, _ => by
    have h1 := h.at n
    have h2 := ssum_ge h (m :: r)
    rw [zgo, zgo_eq h (m :: r) _ (cap61_ge (by omega)) (by simp), cap61_min]
    simp only [ssum, List.length_cons, Int.natCast_add, Int.natCast_one] at h2 ⊢
    omega
theorem gsize_zrun {szs : List Int} (h : SzOk szs) (ns : List Nat) (h1 : ¬ ns.length = 1) : gsize szs ns = zrun szs ns := by
  match ns, h1 with
  | [], _ => rfl
  | n :: m :: r, _ =>
    have := h.at n
    rw [gsize, if_neg (by simp), gfold_eq h _ _ (by simp only [List.length_cons, Int.natCast_add, Int.natCast_one]; omega) (by simp), zrun, zgo_eq h _ _ (by omega) (by simp)]
    simp only [ssum, List.length_cons, Int.natCast_add, Int.natCast_one]
    omega
theorem zgo_b {szs : List Int} (h : SzOk szs) : ∀ (ns : List Nat) (z : Int), 0 ≤ z → z ≤ 61 → 0 ≤ zgo szs z ns ∧ zgo szs z ns ≤ 61
  | [], z, h0, h1 => ⟨h0, h1⟩
  | n :: r, z, h0, h1 => by
    have := h.at n
    exact zgo_b h r _ (cap61_ge (by omega)) (cap61_le _)
theorem zrun_b {szs : List Int} (h : SzOk szs) : ∀ (ns : List Nat), 0 ≤ zrun szs ns ∧ zrun szs ns ≤ 61
  | [] => by simp [zrun]
  | n :: r => by have := h.at n; exact zgo_b h r _ (by omega) (by omega)
theorem getD_ext (szs more : List Int) (n : Nat) (h : n < szs.length) : (szs ++ more).getD n 0 = szs.getD n 0 := by
  simp only [List.getD, List.getElem?_append_left h]
theorem zgo_ext (szs more : List Int) : ∀ (ns : List Nat) (z : Int), (∀ n ∈ ns, n < szs.length) → zgo (szs ++ more) z ns = zgo szs z ns
  | [], _, _ => rfl
  | n :: r, z, h => by
    rw [zgo, zgo, getD_ext _ _ _ (h n (by simp)), zgo_ext szs more r _ (fun m hm => h m (by simp [hm]))]
theorem zrun_ext (szs more : List Int) (ns : List Nat) (h : ∀ n ∈ ns, n < szs.length) : zrun (szs ++ more) ns = zrun szs ns := by
  cases ns with
  | nil => rfl
  | cons n r => rw [zrun, zrun, getD_ext _ _ _ (h n (by simp)), zgo_ext szs more r _ (fun m hm => h m (by simp [hm]))]

/-- the numbers of the parts that were gathered, in a slice of the call's own. -/
structure OfOK (w0 w : World) (vn v : Value) (ns : List Nat) : Prop where
  own : w.ownsRow w0.heap.size 3 1 v ns.length (ints (nats ns))
  nn : ∀ k, v.ownBlock = some k → vn.ownBlock ≠ some k

section
variable {w0 w : World} {v0 : Value} {b : Nat} {s : ByteArray} {L : List Sy} {vs vn : Value} {i : Nat} {d : Int} {szs : List Int} {e p : Int}

theorem OfOK.nil (w0 w : World) (vn : Value) : Hid (OfOK w0 w vn (.slice none 0 0) []) := ⟨World.ownsRow_nil _ _ _ _, fun k hk => by simp [Value.ownBlock] at hk⟩
theorem OfOK.fr {w' : World} {vn' v : Value} {ns : List Nat} (h : Hid (OfOK w0 w vn v ns)) (hb : b < w0.heap.size) (hf : Fr b vn w w' vn') : Hid (OfOK w0 w' vn' v ns) := by
  obtain ⟨h1, h2⟩ := hf.own (unhide h).own (fun e => by have := ((unhide h).own.lt b e).1; omega) (unhide h).nn
  exact ⟨h1, h2⟩
theorem nats_snoc (ns : List Nat) (n : Nat) : nats (ns ++ [n]) = nats ns ++ [(n : Int)] := by simp [nats]

/-- 'of = append(of, n)'. -/
theorem app_of {ops : Array Oper} {rest : List Oper} {o : Oper} {a : Act} {Q : Exit → Act → World → Prop} (ns : List Nat) (v : Value) (n : Nat) (sl x : Operand) (hg : o.guard = none)
    (hop : o.op = .call { callee := .builtin .append, args := #[sl, x], argTypes := #[31, 31] }) (hs : a.eval sl = v) (hx : a.eval x = .slice (some ⟨w.heap.size, 0, none⟩) 1 1)
    (h : Hid (St w0 v0 w b s L vs vn i d szs e p)) (hb : b < w0.heap.size) (hvs : ∀ k, vs.ownBlock = some k → k < w0.heap.size) (ho : Hid (OfOK w0 w vn v ns)) (hl : ns.length ≤ 2000)
    (K : ∀ v' w', Hid (St w0 v0 w' b s L vs vn i d szs e p) → Hid (OfOK w0 w' vn v' (ns ++ [n])) → wpList Tryz.prog ops Q rest (a.put o.dst v') w') :
    wpList Tryz.prog ops Q (o :: rest) a (w.alloc (.cells #[.int .i64 n] 3)) := by
  obtain ⟨i0, hi, hz0, hz1, hz2⟩ := info_parts infoInt
  have hsz := (unhide h).fr.size
  refine wpList_append_lies _ hg sl x 31 hop w0.heap.size 3 i0 (.int .i64 0) 1 8 Tryz.underlying31 hi hz0 hz1 hz2 rfl (by decide) v ns.length (ints (nats ns)) hs ((unhide ho).own.alloc _) ⟨w.heap.size, 0, none⟩ 1 1 [.int .i64 n] hx rfl (cells_new w [.int .i64 n] _) (c_one _ rfl) (by decide) (by unfold maxLen; omega) (by omega) (by simp; omega) (w.heap.size + 1) (by simp) ?_
  intro g cap w' hown hgrow hat hlt
  obtain ⟨r, f, l⟩ := unhide h
  have hbw := r.lt
  have hblk : ∀ k, k < w.heap.size → v.ownBlock ≠ some k → w'.heap[k]? = w.heap[k]? := fun k hk hne => by
    rw [hgrow.block k (by simp; omega) (Ne.symm hne), Below.heap_alloc _ _ _ hk]
  have hvb : v.ownBlock ≠ some b := fun e => by have := ((unhide ho).own.lt b e).1; omega
  have hbb := hblk b hbw hvb
  have hc : ∀ k u, w.cell? ⟨b, k, none⟩ = some u → w'.cell? ⟨b, k, none⟩ = some u := fun k u q => (World.cell?_of_block hbb).trans q
  obtain ⟨xs, x1, x2⟩ := r.nodes
  have hsize := hgrow.size
  simp only [World.size_alloc] at hsize
  refine K _ w' ⟨⟨hc _ _ r.c0, hc _ _ r.c1, hc _ _ r.c2, hc _ _ r.c3, hc _ _ r.c4, hc _ _ r.c5, hc _ _ r.c6, fun k => by rw [World.frozen?_of_block hbb]; exact r.fz k, own_block r.syms (fun k hk hv => hblk k hk (fun e => by have := ((unhide ho).own.lt k e).1; have := hvs k hv; omega)), r.symsNe, ⟨xs, own_block x1 (fun k hk hv => hblk k hk (fun e => (unhide ho).nn k e hv)), x2⟩, r.nodesNe, r.apart, r.len, r.small⟩, ?_, l⟩ ⟨?_, ?_⟩
  · refine ⟨hgrow.os.trans f.os, hgrow.tape.trans f.tape, hgrow.output.trans f.output, by omega, fun k hk hkb hkv => ?_, f.nb⟩
    rw [hblk k (by omega) (fun e => by have := ((unhide ho).own.lt k e).1; omega)]
    exact f.block k hk hkb hkv
  · rw [nats_snoc, ints_snoc, List.length_append]
    exact hown
  · intro k hk
    have hkg : g = k := by simpa [Value.ownBlock] using hk
    subst hkg
    rcases hat with h1 | h1
    · exact (unhide ho).nn g h1
    · intro e
      have := (x1.lt g e).2
      omega
end
end Go.Proofs.YtfolanohokflkaaGreatDoor
