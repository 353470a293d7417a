import Derived.Test.YtihjfoldgnoolaaGreatDoorRefX
import Derived.WalkKit
import Derived.WalkSpells
import Derived.WalkLawsBesides
import Derived.Deep.QuietTactic
import Derived.BigQuiet
namespace Go.Proofs.YtihjfoldgnoolaaGreatDoor
open Go.RowKit

section
variable {w0 w : World} {v0 : Value} {b : Nat} {s : ByteArray} {L : List Sy} {vs vn : Value} {i : Nat} {d : Int} {szs : List Int} {e p : Int}

def grpS (n : Nat) : Res Int → Res Int
  | .error x => .error x
  | .ok (z, l1) => if hd l1 = 41 then .ok (z, l1.tail) else bad 2 n l1
theorem dep_back {d1 d2 : Int} (h : Hid (St w0 v0 w b s L vs vn i d1 szs e p)) (hd : d2 = d) : Hid (St w0 v0 (w.setCell ⟨b, 3, none⟩ (.int .i64 d2)) b s L vs vn i d szs e p) := by
  subst hd; exact St.dep h d2

set_option maxRecDepth 100000 in
set_option maxHeartbeats 4000000 in
theorem atom_deep (h : Hid (St w0 v0 w b s L vs vn i 8 szs 0 0)) (hc : hd (L.drop i) = 40) (hok : SzOk szs) :
    Calls Tryz.prog 235 #[.pointer (some ⟨b, 0, none⟩)] w (NodePost 0 1 (bad 4 s.size (L.drop i)) w0 v0 b s L vs i 8 szs) := by
  have HL := look_at (w0 := w0) (v0 := v0) (b := b) (s := s) (L := L) (vs := vs) (vn := vn) (d := 8) (szs := szs) hc
  have HOK := hide hok
  have HS := h
  clear h hc hok
  go_enter Tryz.func235, Tryz.ntmps235
  go_wp2_with (first
    | (go_at_call 171; refine (unhide HL _ HS).mono ?_; clear HS; rintro x w2 ⟨rfl, HS⟩; have q2 := (unhide HS).rs.c2; have f2 := (unhide HS).rs.fz 2; have q3 := (unhide HS).rs.c3; have f3 := (unhide HS).rs.fz 3)
    | (go_at_call 126; refine (wrong_new HS 4).mono ?_; clear HS; rintro x w3 ⟨rfl, HS⟩))
  go_ret
  exact node_bad rfl (by decide) HS (Nat.le_refl _) (unhide HOK) 0 1

set_option maxRecDepth 100000 in
set_option maxHeartbeats 8000000 in
theorem atom_group {at_ : List Sy → Res Int} (HA : AtomOK s at_ (d + 1)) (h : Hid (St w0 v0 w b s L vs vn i d szs 0 0)) (hc : hd (L.drop i) = 40) (hd0 : 0 ≤ d) (hd7 : d ≤ 7) (hok : SzOk szs) (hsz : szs.length ≤ 4 * i + 10) :
    Calls Tryz.prog 235 #[.pointer (some ⟨b, 0, none⟩)] w (NodePost 0 1 (grpS s.size (choiceS s.size at_ (L.drop (i + 1)))) w0 v0 b s L vs i d szs) := by
  have hlen := (unhide h).rs.len
  have hj := drop_lt (L := L) (i := i) (by omega)
  obtain ⟨R, hR⟩ : ∃ R, grpS s.size (choiceS s.size at_ (L.drop (i + 1))) = R := ⟨_, rfl⟩
  rw [hR]
  have HR := hide hR
  clear hR
  have HL := look_at (w0 := w0) (v0 := v0) (b := b) (s := s) (L := L) (vs := vs) (vn := vn) (d := d) (szs := szs) hc
  have HLV := hide (fun w1 (hs : Hid (St w0 v0 w1 b s L vs vn (i + 1) (d + 1) szs 0 0)) => level0_st HA hs hok (by omega))
  have h8 : (d == 8) = false := by simp; omega
  have HS := h
  clear h hc hok HA
  go_enter Tryz.func235, Tryz.ntmps235
  go_wp2_with (first
    | (go_at_call 171; refine (unhide HL _ HS).mono ?_; clear HS; rintro x w2 ⟨rfl, HS⟩; have q2 := (unhide HS).rs.c2; have f2 := (unhide HS).rs.fz 2; have q3 := (unhide HS).rs.c3; have f3 := (unhide HS).rs.fz 3)
    | (go_at_call 125; refine (unhide HLV _ (St.dep (St.up HS hj) (d + 1))).mono ?_; clear HS HLV q2 f2 q3 f3; rintro x w3 ⟨n, vn1, i1, e1, p1, more, rfl, HS, hi1, hm1, hok1, hn1, hen1, hy1⟩; have HQ := hide (show more.length ≤ 4 * (i1 - (i + 1)) + 3 ∧ SzOk (szs ++ more) ∧ (n < (szs ++ more).length ∨ n = 0) ∧ Ends (choiceS s.size at_ (L.drop (i + 1))) L i1 e1 p1 ∧ (∀ y, choiceS s.size at_ (L.drop (i + 1)) = .ok y → n < (szs ++ more).length ∧ (szs ++ more).getD n 0 = y.1 ∧ i + 1 + 0 ≤ i1) from ⟨hm1, hok1, hn1, hen1, hy1⟩); clear hm1 hok1 hn1 hen1 hy1))
  obtain ⟨hm1, hok1, hn1, hen1, hy1⟩ := unhide HQ
  have q3 := (unhide HS).rs.c3
  have hi1le := (unhide HS).le
  have hdd : d + 1 - 1 = d := by omega
  cases hch : choiceS s.size at_ (L.drop (i + 1)) with
  | error y =>
    rw [hch] at hen1 HR
    obtain ⟨rfl, rfl, hy0⟩ := hen1
    have HE := hide hy0
    clear hch hy0 hy1 HQ q3
    have HP := hide (show SzOk (szs ++ more) ∧ (n < (szs ++ more).length ∨ n = 0) from ⟨hok1, hn1⟩)
    clear hok1 hn1 hdd
    go_wp2_with (go_at_call 263; refine (want_old HS 41 (by decide) (by decide) HE).mono ?_; clear HS; rintro x w5 ⟨rfl, HS⟩; have q3 := (unhide HS).rs.c3; have f3 := (unhide HS).rs.fz 3)
    go_ret
    refine ⟨n, vn1, i1, _, _, more, rfl, dep_back HS (by omega), by omega, by omega, (unhide HP).1, (unhide HP).2, by rw [← unhide HR]; exact ⟨rfl, rfl, unhide HE⟩, fun y' h' => by rw [← unhide HR] at h'; cases h'⟩
  | ok y =>
    obtain ⟨z, l1⟩ := y
    rw [hch] at hen1 hy1 HR
    obtain ⟨rfl, rfl, hd1⟩ := hen1
    obtain ⟨k1, k2, -⟩ := hy1 _ rfl
    have HP := hide (show SzOk (szs ++ more) ∧ n < (szs ++ more).length ∧ (szs ++ more).getD n 0 = z ∧ L.drop i1 = l1 from ⟨hok1, k1, k2, hd1⟩)
    clear hch hy1 HQ q3 hdd k1 k2 hok1 hn1
    by_cases h41 : hd l1 = 41
    · have HR2 : Hid (R = .ok (z, l1.tail)) := by show _ = _; rw [← unhide HR, grpS, if_pos h41]
      have HY : Hid (Hid (lookV 0 (L.drop i1) = 41)) := by show hd (L.drop i1) = 41; rw [hd1]; exact h41
      clear h41 hd1
      go_wp2_with (go_at_call 263; refine (want_yes HS 41 (by decide) (by decide) (unhide HY)).mono ?_; clear HS; rintro x w5 ⟨rfl, HS⟩; have q3 := (unhide HS).rs.c3; have f3 := (unhide HS).rs.fz 3)
      go_ret
      obtain ⟨g1, g2, g3, g4⟩ := unhide HP
      refine ⟨n, vn1, i1 + 1, 0, 0, more, rfl, dep_back HS (by omega), by omega, by omega, g1, .inl g2, by rw [unhide HR2]; exact ⟨rfl, rfl, by rw [← drop_tail, g4]⟩, fun y' h' => ?_⟩
      rw [unhide HR2] at h'; cases h'; exact ⟨g2, g3, by omega⟩
    · have HR2 : Hid (R = bad 2 s.size l1) := by show _ = _; rw [← unhide HR, grpS, if_neg h41]
      have HY : Hid (Hid (¬ lookV 0 (L.drop i1) = 41)) := by show ¬ hd (L.drop i1) = 41; rw [hd1]; exact h41
      clear h41 hd1
      go_wp2_with (go_at_call 263; refine (want_no HS 41 (by decide) (by decide) (unhide HY)).mono ?_; clear HS; rintro x w5 ⟨rfl, HS⟩; have q3 := (unhide HS).rs.c3; have f3 := (unhide HS).rs.fz 3)
      go_ret
      obtain ⟨g1, g2, g3, g4⟩ := unhide HP
      refine ⟨n, vn1, i1, 2, _, more, rfl, dep_back HS (by omega), by omega, by omega, g1, .inl g2, by rw [unhide HR2, ← g4]; exact ends_bad 2 (by decide) _ _ _, fun y' h' => by rw [unhide HR2] at h'; cases h'⟩

theorem atomOK (s : ByteArray) : ∀ k : Nat, k ≤ 8 → AtomOK s (atomS s.size k) (8 - (k : Int))
  | 0, _ => by
    intro w0 v0 w b L vs vn i szs h hok hsz
    have hb : i ≤ L.length := (unhide h).le
    have hl := (unhide h).rs.len
    by_cases hc : hd (L.drop i) = 40
    · rw [atomS, if_pos hc]; exact atom_deep h hc hok
    · rw [atomS, if_neg hc]; exact atom_leaf h hc hok (by omega)
  | k + 1, hk => by
    intro w0 v0 w b L vs vn i szs h hok hsz
    have hb : i ≤ L.length := (unhide h).le
    have hl := (unhide h).rs.len
    by_cases hc : hd (L.drop i) = 40
    · have hg : atomS s.size (k + 1) (L.drop i) = grpS s.size (choiceS s.size (atomS s.size k) (L.drop (i + 1))) := by
        rw [atomS, if_pos hc, drop_tail]; cases choiceS s.size (atomS s.size k) (L.drop (i + 1)) <;> rfl
      rw [hg]
      have ih := atomOK s k (by omega)
      rw [show (8 : Int) - (k : Int) = 8 - ((k + 1 : Nat) : Int) + 1 from by omega] at ih
      exact atom_group ih h hc (by omega) (by omega) hok hsz
    · rw [atomS, if_neg hc]; exact atom_leaf h hc hok (by omega)
end
end Go.Proofs.YtihjfoldgnoolaaGreatDoor

namespace Go.Proofs.YtihjfoldgnoolaaGreatDoor
open Go.RowKit

/-- what Parse answers, as far as Check asks. -/
def ParsePost (w : World) (s : ByteArray) (x : Ending) (w' : World) : Prop :=
  ∃ v n, x = .returned (.tuple #[v, .int .i64 n, .int .i64 (checkS s).1, .int .i64 (checkS s).2]) ∧ Below w.heap.size w w'

/-- the reader as it is laid. -/
theorem rs_new (w : World) (s : ByteArray) (L : List Sy) (vs : Value) (ho : w.ownsRow 0 235 3 vs L.length (symCells L)) (hl : L.length ≤ 100) (hs : s.size ≤ 1000) :
    RS (w.alloc (.cells #[.string s, vs, .int .i64 0, .int .i64 0, .slice none 0 0, .int .i64 0, .int .i64 0] 201)) w.heap.size s L vs (.slice none 0 0) 0 0 [] 0 0 := by
  have hc : ∀ k, (w.alloc (.cells #[.string s, vs, .int .i64 0, .int .i64 0, .slice none 0 0, .int .i64 0, .int .i64 0] 201)).cell? ⟨w.heap.size, k, none⟩ = (#[.string s, vs, .int .i64 0, .int .i64 0, .slice none 0 0, .int .i64 0, .int .i64 0] : Array Value)[k]? := fun k => World.cell?_alloc_at _ _ _ _ rfl
  refine ⟨hc 0, hc 1, hc 2, hc 3, hc 4, hc 5, hc 6, fun k => World.frozen?_alloc_at _ _ _ _ rfl, ho.alloc _, fun e => by have := (ho.lt _ e).2; omega, ⟨[], World.ownsRow_nil _ _ _ _, fun i hi => by simp at hi⟩, by simp [Value.ownBlock], fun k hk => by simp [Value.ownBlock] at hk, hl, hs⟩

theorem below_fr {w w1 w2 : World} {o : Obj} {vn : Value} (hb : Below w.heap.size w w1) (hf : Fr w1.heap.size (.slice none 0 0) (w1.alloc o) w2 vn) : Below w.heap.size w w2 := by
  have hs := hb.size
  have hs2 := hf.size
  simp only [World.size_alloc] at hs2
  refine ⟨hf.os.trans hb.os, hf.tape.trans hb.tape, hf.output.trans hb.output, by omega, fun k hk => ?_⟩
  rw [hf.block k (by simp; omega) (by omega) (by simp [Value.ownBlock]), Below.heap_alloc _ _ _ (by omega)]
  exact hb.block k hk

theorem below_st {w w4 w5 : World} {b : Nat} {vn vn' : Value} (hb : Below w.heap.size w w4) (hv : ∀ k, vn.ownBlock = some k → w.heap.size ≤ k) (hbl : w.heap.size ≤ b) (hf : Fr b vn w4 w5 vn') : Below w.heap.size w w5 := by
  have hs := hb.size
  refine ⟨hf.os.trans hb.os, hf.tape.trans hb.tape, hf.output.trans hb.output, Nat.le_trans hb.size hf.size, fun k hk => ?_⟩
  rw [hf.block k (by omega) (by omega) (fun e => by have := hv k e; omega)]
  exact hb.block k hk

theorem refParse_long (s : ByteArray) (w : World) (h : 60 < s.size) (hm : s.size ≤ maxLen) :
    Calls Tryz.prog 85 #[.string s] w (ParsePost w s) := by
  unfold maxLen at hm
  have hc : checkS s = (1, 0) := by rw [checkS, if_pos h]
  have HC := hide hc
  clear hc
  go_enter Tryz.func85, Tryz.ntmps85
  go_wp2_with fail
  refine bodyPost_ret (v := .tuple #[.slice none 0 0, .int .i64 0, .int .i64 1, .int .i64 0]) (by simp [results, Tryz.results85, go_sem]) rfl ?_
  exact ⟨_, _, by rw [unhide HC], Below.refl _ _⟩

set_option maxRecDepth 100000 in
set_option maxHeartbeats 8000000 in
theorem refParse_short (s : ByteArray) (w : World) (h : s.size ≤ 60) :
    Calls Tryz.prog 85 #[.string s] w (ParsePost w s) := by
  have hs : s.size ≤ 1000 := by omega
  have HSY := hide (refSymbols_any s w hs)
  have hl : (symsFrom s 0).length ≤ 60 := by have := symsFrom_len s 0; omega
  have HCK : Hid (checkS s = checkEnd s.size (choiceS s.size (atomS s.size 8) (symsFrom s 0))) := by show _ = _; rw [checkS, if_neg (by omega)]
  obtain ⟨L, hL⟩ : ∃ L, symsFrom s 0 = L := ⟨_, rfl⟩
  rw [hL] at hl HSY HCK
  clear hL
  have hA : AtomOK s (atomS s.size 8) 0 := atomOK s 8 (by omega)
  have HA := hide hA
  clear hA
  go_enter Tryz.func85, Tryz.ntmps85
  go_wp2_with (first
    | (go_at_call 113; refine (unhide HSY).mono ?_; clear HSY; rintro x w1 ⟨v1, rfl, ho1, hb1⟩; have HO1 := hide (own_base ho1 (Nat.zero_le _)); have HB1 := hide hb1; obtain ⟨a1, c1, rfl, -⟩ := own_view ho1; clear ho1 hb1))
  have HS : Hid (St (w1.alloc (.cells #[.string s, .slice a1 L.length c1, .int .i64 0, .int .i64 0, .slice none 0 0, .int .i64 0, .int .i64 0] 201)) (.slice none 0 0) (w1.alloc (.cells #[.string s, .slice a1 L.length c1, .int .i64 0, .int .i64 0, .slice none 0 0, .int .i64 0, .int .i64 0] 201)) w1.heap.size s L (.slice a1 L.length c1) (.slice none 0 0) 0 0 [] 0 0) :=
    ⟨rs_new w1 s L _ (unhide HO1) (by omega) hs, Fr.refl _ _ _, Nat.zero_le _⟩
  refine (level0_st (unhide HA) HS (by intro z hz; simp at hz) (by simp)).mono ?_
  clear HS HA HO1
  rintro x w4 ⟨n, vn1, i1, e1, p1, more, rfl, HS, hi1, hm1, hok1, hn1, hen1, hy1⟩
  rw [List.drop_zero, List.nil_append] at *
  have HB4 := hide (below_fr (unhide HB1) (unhide HS).fr)
  have HBLE : Hid (w.heap.size ≤ w1.heap.size) := (unhide HB1).size
  have HVB : Hid (∀ k, vn1.ownBlock = some k → w.heap.size ≤ k) := fun k hk => by
    rcases (unhide HS).fr.nb k hk with h1 | h1
    · simp [Value.ownBlock] at h1
    · simp only [World.size_alloc] at h1; have := (unhide HB1).size; omega
  generalize w1.heap.size = b at HS HBLE
  have q1 := (unhide HS).rs.c1
  have q2 := (unhide HS).rs.c2
  have q5 := (unhide HS).rs.c5
  have q6 := (unhide HS).rs.c6
  have hi1le := (unhide HS).le
  clear hm1 hok1 hn1 HB1
  cases hch : choiceS s.size (atomS s.size 8) L with
  | error y =>
    rw [hch] at hen1 HCK
    obtain ⟨rfl, rfl, hy0⟩ := hen1
    have hy0a : (y.1 == 0) = false := by simpa using hy0
    have hy0b : (y.1 != 0) = true := by simpa using hy0
    clear hch hy0 hy1
    go_wp2_with fail
    go_quiet (fail)
    go_wp2_with fail
    go_quiet (fail)
    go_wp2_with fail
    refine bodyPost_ret (v := .tuple #[.slice none 0 0, .int .i64 0, .int .i64 y.1, .int .i64 y.2]) (by simp [results, Tryz.results85, go_sem]) rfl ?_
    exact ⟨_, _, by rw [unhide HCK]; rfl, ⟨(unhide HB4).os, (unhide HB4).tape, (unhide HB4).output, (unhide HB4).size, (unhide HB4).block⟩⟩
  | ok y =>
    obtain ⟨z, l1⟩ := y
    rw [hch] at hen1 HCK hy1
    obtain ⟨rfl, rfl, hd1⟩ := hen1
    obtain ⟨k1, k2, -⟩ := hy1 _ rfl
    have hd2 : L.drop i1 = l1 := hd1
    clear hch hy1 hd1
    by_cases hlt : i1 < L.length
    · have HC : Hid (checkS s = (2, plc s.size (L.drop i1))) := by
        show _ = _
        rw [unhide HCK, checkEnd, ← hd2, if_neg]
        rw [List.drop_eq_getElem_cons hlt]; simp [hd]
      have hltI : (i1 : Int) < (L.length : Int) := by omega
      have HSh := St.here HS
      clear HCK hd2 k1 k2
      go_wp2_with fail
      go_quiet (fail)
      have HSq : Hid (St w4 vn1 (w4.drewN nq) b s L (.slice a1 L.length c1) vn1 i1 0 more 0 0) := St.below HSh ⟨rfl, rfl, rfl, Nat.le_refl _, fun _ _ => rfl⟩
      have HBW := hide (show Below w.heap.size w w4 from unhide HB4)
      have hble : w.heap.size ≤ b := unhide HBLE
      go_wp2_with (go_at_call 126; refine (wrong_new HSq 2).mono ?_; clear q5 q6; rintro x w5 ⟨rfl, HS5⟩; have q5 := (unhide HS5).rs.c5; have q6 := (unhide HS5).rs.c6)
      go_quiet (fail)
      go_wp2_with fail
      refine bodyPost_ret (v := .tuple #[.slice none 0 0, .int .i64 0, .int .i64 2, .int .i64 (plc s.size (L.drop i1))]) (by simp [results, Tryz.results85, go_sem]) rfl ?_
      have hb5 := below_st (unhide HBW) (unhide HVB) hble (unhide HS5).fr
      exact ⟨_, _, by rw [unhide HC], ⟨hb5.os, hb5.tape, hb5.output, hb5.size, hb5.block⟩⟩
    · have hnil : L.drop i1 = [] := List.drop_eq_nil_of_le (by omega)
      have hge : decide ((i1 : Int) < (L.length : Int)) = false := by simp; omega
      have HC : Hid (checkS s = if 60 < z then (5, 0) else (0, 0)) := by
        show _ = _
        rw [unhide HCK, checkEnd, ← hd2, hnil, if_pos (by decide)]
      obtain ⟨g5, c5, rfl, hg5, hc5⟩ := node_cell HS k1
      have q4 := (unhide HS).rs.c4
      rw [k2] at hc5
      dsimp only at hc5
      clear HCK hd2 k2 hnil
      by_cases hz : 60 < z
      · go_wp2_with fail
        go_quiet (fail)
        go_wp2_with fail
        refine bodyPost_ret (v := .tuple #[.slice none 0 0, .int .i64 0, .int .i64 5, .int .i64 0]) (by simp [results, Tryz.results85, go_sem]) rfl ?_
        exact ⟨_, _, by rw [unhide HC, if_pos hz], ⟨(unhide HB4).os, (unhide HB4).tape, (unhide HB4).output, (unhide HB4).size, (unhide HB4).block⟩⟩
      · go_wp2_with fail
        go_quiet (fail)
        go_wp2_with fail
        refine bodyPost_ret (v := .tuple #[.slice (some ⟨g5, 0, none⟩) more.length c5, .int .i64 n, .int .i64 0, .int .i64 0]) (by simp [results, Tryz.results85, go_sem]) rfl ?_
        exact ⟨_, _, by rw [unhide HC, if_neg (by omega)], ⟨(unhide HB4).os, (unhide HB4).tape, (unhide HB4).output, (unhide HB4).size, (unhide HB4).block⟩⟩

theorem refParse_any (s : ByteArray) (w : World) (hm : s.size ≤ maxLen) : Calls Tryz.prog 85 #[.string s] w (ParsePost w s) := by
  by_cases h : 60 < s.size
  · exact refParse_long s w h hm
  · exact refParse_short s w (by omega)

/-- ████ the document's Check. ████ -/
theorem refCheck_any (s : ByteArray) (w : World) (hm : s.size ≤ maxLen) :
    Calls Tryz.prog 78 #[.string s] w fun x w' => x = .returned (.tuple #[.int .i64 (checkS s).1, .int .i64 (checkS s).2]) ∧ Below w.heap.size w w' := by
  have HP := hide (refParse_any s w hm)
  go_enter Tryz.func78, Tryz.ntmps78
  go_wp2_with (go_at_call 85; refine (unhide HP).mono ?_; clear HP; rintro x w1 ⟨v, n, rfl, hb⟩; have HB := hide hb; clear hb)
  go_ret2
  exact ⟨rfl, unhide HB⟩
end Go.Proofs.YtihjfoldgnoolaaGreatDoor
