import Derived.Test.YthopgbacdmgfgaaGreatDoorRefX
import Derived.WalkKit
import Derived.WalkSpells
import Derived.WalkLawsBesides
import Derived.Deep.QuietTactic
import Derived.BigQuiet
namespace Go.Proofs.YthopgbacdmgfgaaGreatDoor
open Go.RowKit

section
variable {w0 w : World} {v0 : Value} {b : Nat} {s : ByteArray} {L : List Sy} {vs vn : Value} {i : Nat} {d : Int} {szs : List Int} {e p : Int}

def grpS (n : Nat) : Res Int → Res Int
  | .error x => .error x
  | .ok (z, l1) => if hd l1 = 41 then .ok (z, l1.tail) else bad 2 n l1
theorem dep_back {d1 d2 : Int} (h : Hid (St w0 v0 w b s L vs vn i d1 szs e p)) (hd : d2 = d) : Hid (St w0 v0 (w.setCell ⟨b, 3, none⟩ (.int .i64 d2)) b s L vs vn i d szs e p) := by
  subst hd; exact St.dep h d2

set_option maxRecDepth 100000 in
set_option maxHeartbeats 4000000 in
theorem atom_deep (h : Hid (St w0 v0 w b s L vs vn i 8 szs 0 0)) (hc : hd (L.drop i) = 40) (hok : SzOk szs) :
    Calls Tryz.prog 89 #[.pointer (some ⟨b, 0, none⟩)] w (NodePost 0 1 (bad 4 s.size (L.drop i)) w0 v0 b s L vs i 8 szs) := by
  have HL := look_at (w0 := w0) (v0 := v0) (b := b) (s := s) (L := L) (vs := vs) (vn := vn) (d := 8) (szs := szs) hc
  have HOK := hide hok
  have HS := h
  clear h hc hok
  go_enter Tryz.func89, Tryz.ntmps89
  go_wp2_with (first
    | (go_at_call 70; refine (unhide HL _ HS).mono ?_; clear HS; rintro x w2 ⟨rfl, HS⟩; have q2 := (unhide HS).rs.c2; have f2 := (unhide HS).rs.fz 2; have q3 := (unhide HS).rs.c3; have f3 := (unhide HS).rs.fz 3)
    | (go_at_call 46; refine (wrong_new HS 4).mono ?_; clear HS; rintro x w3 ⟨rfl, HS⟩))
  go_ret
  exact node_bad rfl (by decide) HS (Nat.le_refl _) (unhide HOK) 0 1

set_option maxRecDepth 100000 in
set_option maxHeartbeats 8000000 in
theorem atom_group {at_ : List Sy → Res Int} (HA : AtomOK s at_ (d + 1)) (h : Hid (St w0 v0 w b s L vs vn i d szs 0 0)) (hc : hd (L.drop i) = 40) (hd0 : 0 ≤ d) (hd7 : d ≤ 7) (hok : SzOk szs) (hsz : szs.length ≤ 4 * i + 10) :
    Calls Tryz.prog 89 #[.pointer (some ⟨b, 0, none⟩)] w (NodePost 0 1 (grpS s.size (choiceS s.size at_ (L.drop (i + 1)))) w0 v0 b s L vs i d szs) := by
  have hlen := (unhide h).rs.len
  have hj := drop_lt (L := L) (i := i) (by omega)
  obtain ⟨R, hR⟩ : ∃ R, grpS s.size (choiceS s.size at_ (L.drop (i + 1))) = R := ⟨_, rfl⟩
  rw [hR]
  have HR := hide hR
  clear hR
  have HL := look_at (w0 := w0) (v0 := v0) (b := b) (s := s) (L := L) (vs := vs) (vn := vn) (d := d) (szs := szs) hc
  have HLV := hide (fun w1 (hs : Hid (St w0 v0 w1 b s L vs vn (i + 1) (d + 1) szs 0 0)) => level0_st HA hs hok (by omega))
  have h8 : (d == 8) = false := by simp; omega
  have HS := h
  clear h hc hok HA
  go_enter Tryz.func89, Tryz.ntmps89
  go_wp2_with (first
    | (go_at_call 70; refine (unhide HL _ HS).mono ?_; clear HS; rintro x w2 ⟨rfl, HS⟩; have q2 := (unhide HS).rs.c2; have f2 := (unhide HS).rs.fz 2; have q3 := (unhide HS).rs.c3; have f3 := (unhide HS).rs.fz 3)
    | (go_at_call 45; refine (unhide HLV _ (St.dep (St.up HS hj) (d + 1))).mono ?_; clear HS HLV q2 f2 q3 f3; rintro x w3 ⟨n, vn1, i1, e1, p1, more, rfl, HS, hi1, hm1, hok1, hn1, hen1, hy1⟩; have HQ := hide (show more.length ≤ 4 * (i1 - (i + 1)) + 3 ∧ SzOk (szs ++ more) ∧ (n < (szs ++ more).length ∨ n = 0) ∧ Ends (choiceS s.size at_ (L.drop (i + 1))) L i1 e1 p1 ∧ (∀ y, choiceS s.size at_ (L.drop (i + 1)) = .ok y → n < (szs ++ more).length ∧ (szs ++ more).getD n 0 = y.1 ∧ i + 1 + 0 ≤ i1) from ⟨hm1, hok1, hn1, hen1, hy1⟩); clear hm1 hok1 hn1 hen1 hy1))
  obtain ⟨hm1, hok1, hn1, hen1, hy1⟩ := unhide HQ
  have q3 := (unhide HS).rs.c3
  have hi1le := (unhide HS).le
  have hdd : d + 1 - 1 = d := by omega
  cases hch : choiceS s.size at_ (L.drop (i + 1)) with
  | error y =>
    rw [hch] at hen1 HR
    obtain ⟨rfl, rfl, hy0⟩ := hen1
    have HE := hide hy0
    clear hch hy0 hy1 HQ q3
    have HP := hide (show SzOk (szs ++ more) ∧ (n < (szs ++ more).length ∨ n = 0) from ⟨hok1, hn1⟩)
    clear hok1 hn1 hdd
    go_wp2_with (go_at_call 96; refine (want_old HS 41 (by decide) (by decide) HE).mono ?_; clear HS; rintro x w5 ⟨rfl, HS⟩; have q3 := (unhide HS).rs.c3; have f3 := (unhide HS).rs.fz 3)
    go_ret
    refine ⟨n, vn1, i1, _, _, more, rfl, dep_back HS (by omega), by omega, by omega, (unhide HP).1, (unhide HP).2, by rw [← unhide HR]; exact ⟨rfl, rfl, unhide HE⟩, fun y' h' => by rw [← unhide HR] at h'; cases h'⟩
  | ok y =>
    obtain ⟨z, l1⟩ := y
    rw [hch] at hen1 hy1 HR
    obtain ⟨rfl, rfl, hd1⟩ := hen1
    obtain ⟨k1, k2, -⟩ := hy1 _ rfl
    have HP := hide (show SzOk (szs ++ more) ∧ n < (szs ++ more).length ∧ (szs ++ more).getD n 0 = z ∧ L.drop i1 = l1 from ⟨hok1, k1, k2, hd1⟩)
    clear hch hy1 HQ q3 hdd k1 k2 hok1 hn1
    by_cases h41 : hd l1 = 41
    · have HR2 : Hid (R = .ok (z, l1.tail)) := by show _ = _; rw [← unhide HR, grpS, if_pos h41]
      have HY : Hid (Hid (lookV 0 (L.drop i1) = 41)) := by show hd (L.drop i1) = 41; rw [hd1]; exact h41
      clear h41 hd1
      go_wp2_with (go_at_call 96; refine (want_yes HS 41 (by decide) (by decide) (unhide HY)).mono ?_; clear HS; rintro x w5 ⟨rfl, HS⟩; have q3 := (unhide HS).rs.c3; have f3 := (unhide HS).rs.fz 3)
      go_ret
      obtain ⟨g1, g2, g3, g4⟩ := unhide HP
      refine ⟨n, vn1, i1 + 1, 0, 0, more, rfl, dep_back HS (by omega), by omega, by omega, g1, .inl g2, by rw [unhide HR2]; exact ⟨rfl, rfl, by rw [← drop_tail, g4]⟩, fun y' h' => ?_⟩
      rw [unhide HR2] at h'; cases h'; exact ⟨g2, g3, by omega⟩
    · have HR2 : Hid (R = bad 2 s.size l1) := by show _ = _; rw [← unhide HR, grpS, if_neg h41]
      have HY : Hid (Hid (¬ lookV 0 (L.drop i1) = 41)) := by show ¬ hd (L.drop i1) = 41; rw [hd1]; exact h41
      clear h41 hd1
      go_wp2_with (go_at_call 96; refine (want_no HS 41 (by decide) (by decide) (unhide HY)).mono ?_; clear HS; rintro x w5 ⟨rfl, HS⟩; have q3 := (unhide HS).rs.c3; have f3 := (unhide HS).rs.fz 3)
      go_ret
      obtain ⟨g1, g2, g3, g4⟩ := unhide HP
      refine ⟨n, vn1, i1, 2, _, more, rfl, dep_back HS (by omega), by omega, by omega, g1, .inl g2, by rw [unhide HR2, ← g4]; exact ends_bad 2 (by decide) _ _ _, fun y' h' => by rw [unhide HR2] at h'; cases h'⟩

theorem atomOK (s : ByteArray) : ∀ k : Nat, k ≤ 8 → AtomOK s (atomS s.size k) (8 - (k : Int))
  | 0, _ => by
    intro w0 v0 w b L vs vn i szs h hok hsz
    have hb : i ≤ L.length := (unhide h).le
    have hl := (unhide h).rs.len
    by_cases hc : hd (L.drop i) = 40
    · rw [atomS, if_pos hc]; exact atom_deep h hc hok
    · rw [atomS, if_neg hc]; exact atom_leaf h hc hok (by omega)
  | k + 1, hk => by
    intro w0 v0 w b L vs vn i szs h hok hsz
    have hb : i ≤ L.length := (unhide h).le
    have hl := (unhide h).rs.len
    by_cases hc : hd (L.drop i) = 40
    · have hg : atomS s.size (k + 1) (L.drop i) = grpS s.size (choiceS s.size (atomS s.size k) (L.drop (i + 1))) := by
        rw [atomS, if_pos hc, drop_tail]; cases choiceS s.size (atomS s.size k) (L.drop (i + 1)) <;> rfl
      rw [hg]
      have ih := atomOK s k (by omega)
      rw [show (8 : Int) - (k : Int) = 8 - ((k + 1 : Nat) : Int) + 1 from by omega] at ih
      exact atom_group ih h hc (by omega) (by omega) hok hsz
    · rw [atomS, if_neg hc]; exact atom_leaf h hc hok (by omega)
end
end Go.Proofs.YthopgbacdmgfgaaGreatDoor
