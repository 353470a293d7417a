import Derived.Test.YtihjfoldgnoolaaGreatDoorRefW
import Derived.WalkKit
import Derived.WalkSpells
import Derived.WalkLawsBesides
namespace Go.Proofs.YtihjfoldgnoolaaGreatDoor
open Go.RowKit

section
variable {w0 w : World} {v0 : Value} {b : Nat} {s : ByteArray} {L : List Sy} {vs vn : Value} {i : Nat} {d : Int} {szs : List Int} {e p : Int}

/-- what is left of a row of parts with signs between them, ahead of one more part. -/
def sepMore (n : Nat) (sub : List Sy → Res Int) (sign : Int) (f : Nat) (z : Int) (l : List Sy) : Res Int := match sub l with
  | .error x => .error x
  | .ok (y, l1) => sepLoopS n sub sign f (cap61 (z + 1 + y)) l1
theorem sepLoop_sign {n : Nat} {sub : List Sy → Res Int} {sign : Int} {f : Nat} {z : Int} {l : List Sy} (h : hd l = sign) : sepLoopS n sub sign (f + 1) z l = sepMore n sub sign f z l.tail := by
  rw [sepLoopS, if_pos h]; rfl
def SepRR (R : Res Int) (n : Nat) (sub : List Sy → Res Int) (sign : Int) (sz : List Int) (i j : Nat) (L : List Sy) (ns : List Nat) : Prop :=
  (ns = [] ∧ j = i ∧ sepS n sub sign (L.drop j) = R) ∨ (ns ≠ [] ∧ ∃ f, sepMore n sub sign f (zrun sz ns) (L.drop j) = R ∧ (L.drop j).length < f)
def SepRel (R : Res Int) (sub : List Sy → Res Int) (sign : Int) (w0 : World) (v0 : Value) (wr : World) (b : Nat) (s : ByteArray) (L : List Sy) (vs : Value) (i : Nat) (d : Int) (szs : List Int) (v : Value) : Prop :=
  ∃ (vn : Value) (j : Nat) (more : List Int) (ns : List Nat), Gath w0 v0 wr b s L vs vn v i j d szs more ns 0 0 ∧ ns.length ≤ j - i ∧ (∀ n ∈ ns, n < (szs ++ more).length) ∧ SepRR R s.size sub sign (szs ++ more) i j L ns
theorem sep_err {R : Res Int} {n : Nat} {sub : List Sy → Res Int} {sign : Int} {sz : List Int} {j : Nat} {ns : List Nat} {y : Int × Int} (h : SepRR R n sub sign sz i j L ns) (hs : sub (L.drop j) = .error y) : R = .error (y.1, y.2) := by
  rcases h with ⟨rfl, rfl, h⟩ | ⟨hne, f, h, hf⟩
  · rw [sepS, hs] at h; exact h.symm
  · rw [sepMore, hs] at h; exact h.symm
/-- behind a part. -/
theorem sep_part {R : Res Int} {n : Nat} {sub : List Sy → Res Int} {sign : Int} {sz m2 : List Int} {j j4 n4 : Nat} {ns : List Nat} {z : Int} {l1 : List Sy} (h : SepRR R n sub sign sz i j L ns) (hs : sub (L.drop j) = .ok (z, l1)) (hd4 : L.drop j4 = l1) (hall : ∀ n ∈ ns, n < sz.length) (hz : (sz ++ m2).getD n4 0 = z) (hjj : j ≤ j4) :
    ∃ f, sepLoopS n sub sign (f + 1) (zrun (sz ++ m2) (ns ++ [n4])) (L.drop j4) = R ∧ (L.drop j4).length ≤ f := by
  rcases h with ⟨rfl, rfl, h⟩ | ⟨hne, f, h, hf⟩
  · rw [sepS, hs] at h
    refine ⟨l1.length, ?_, by rw [hd4]; exact Nat.le_refl _⟩
    rw [hd4, List.nil_append, zrun, zgo, hz]; exact h
  · rw [sepMore, hs] at h
    obtain ⟨f, rfl⟩ : ∃ k, f = k + 1 := ⟨f - 1, by omega⟩
    refine ⟨f, ?_, by simp only [List.length_drop] at hf ⊢; omega⟩
    rw [hd4, zrun_snoc _ _ _ hne, zrun_ext _ _ _ hall, hz]; exact h

set_option maxRecDepth 100000 in
set_option maxHeartbeats 16000000 in
theorem level1_st {at_ : List Sy → Res Int} (HA : AtomOK s at_ d) (h : Hid (St w0 v0 w b s L vs vn i d szs 0 0)) (hok : SzOk szs) (hsz : szs.length ≤ 4 * i + 10) :
    Calls Tryz.prog 125 #[.pointer (some ⟨b, 0, none⟩), .int .i64 1] w (NodePost 2 0 (bothS s.size at_ (L.drop i)) w0 v0 b s L vs i d szs) := by
  have hlen := (unhide h).rs.len
  have hble : b < w.heap.size := (unhide h).rs.lt
  have hvs : ∀ k, vs.ownBlock = some k → k < w.heap.size := fun k hk => ((unhide h).rs.syms.lt k hk).2
  have HVS := hide hvs
  obtain ⟨R, hR⟩ : ∃ R, bothS s.size at_ (L.drop i) = R := ⟨_, rfl⟩
  rw [hR]
  have HSUB := hide (fun (w1 : World) (v1 : Value) (w2 : World) (vn : Value) (j : Nat) (szs : List Int) hs hok hsz => level2_st (w0 := w1) (v0 := v1) (w := w2) (L := L) (b := b) (vs := vs) (vn := vn) (i := j) (szs := szs) HA hs hok hsz)
  have HS0 := h
  have HRel : Hid (SepRel R (rowS s.size at_) 38 w vn w b s L vs i d szs (.slice none 0 0)) := ⟨vn, i, [], [], ⟨by rw [List.append_nil]; exact St.here h, OfOK.nil _ _ _, Nat.le_refl _, by simp, by rw [List.append_nil]; exact hok, by simp⟩, by simp, by simp, .inl ⟨rfl, rfl, hR⟩⟩
  clear hR h HA hvs hok
  go_enter Tryz.func125, Tryz.ntmps125
  go_wp2_with fail
  go_loopw [5] (fun v wr => Hid (SepRel R (rowS s.size at_) 38 w vn wr b s L vs i d szs v)) (fun _ wr => L.length - cellN wr b)
  case atStart => exact HRel
  case round =>
    clear HRel
    obtain ⟨vn2, j, more, ns, ⟨HS, HO, hij, hm, hok2, hnl⟩, hnl2, hall, hRR⟩ := unhide hrel
    have hjle := (unhide HS).le
    have hs2 : (szs ++ more).length ≤ 4 * j + 10 := by simp only [List.length_append]; omega
    have HRR := hide hRR
    have HALL0 := hide hall
    have HOK := hide hok2
    have HSl := St.here HS
    have HCN : Hid (cellN wr b = j) := cellN_eq (unhide HS).rs.c2
    clear hRR hall hok2 hrel
    go_wp2_with (first
      | (go_at_call 125; refine (unhide HSUB wr vn2 wr vn2 j (szs ++ more) HSl (unhide HOK) hs2).mono ?_; clear HSUB; rintro x w4 ⟨n4, vn4, j4, e4, p4, m4, rfl, HS4, hj4, hm4, hok4, hn4, hen4, hy4⟩; have HS4c := St.comp HS HS4; have HO4 := OfOK.fr HO hble (unhide HS4).fr; have HQ4 := hide (show m4.length ≤ 4 * (j4 - j) + 1 ∧ SzOk (szs ++ more ++ m4) ∧ (n4 < (szs ++ more ++ m4).length ∨ n4 = 0) ∧ Ends (rowS s.size at_ (L.drop j)) L j4 e4 p4 ∧ (∀ y, rowS s.size at_ (L.drop j) = .ok y → n4 < (szs ++ more ++ m4).length ∧ (szs ++ more ++ m4).getD n4 0 = y.1 ∧ j + 0 ≤ j4) from ⟨hm4, hok4, hn4, hen4, hy4⟩); clear hm4 hok4 hn4 hen4 hy4)
      | (at_builtin; refine app_of ns _ n4 (.tmp 40) (.tmp 42) rfl rfl rfl rfl HS4c hble (unhide HVS) HO4 (by omega) ?_; intro v5 w5 HS5 HO5))
    obtain ⟨hm4, hok4, hn4, hen4, hy4⟩ := unhide HQ4
    have hj4le := (unhide HS4).le
    have HOK4 := hide hok4
    have hmm : (more ++ m4).length ≤ 4 * (j4 - i) + 1 := by simp only [List.length_append]; omega
    have hsl : (szs ++ (more ++ m4)).length ≤ 10000 := by simp only [List.length_append] at hmm hs2 ⊢; omega
    have hns : (ns ++ [n4]).length ≤ 1000 := by simp only [List.length_append, List.length_cons, List.length_nil]; omega
    rw [List.append_assoc] at HS5 HOK4
    cases hsb : rowS s.size at_ (L.drop j) with
    | error y =>
      rw [hsb] at hen4
      obtain ⟨rfl, rfl, hy0⟩ := hen4
      have HF := hide (sep_err (unhide HRR) hsb)
      have HALL := hide (all_err (unhide HALL0) hn4)
      rw [List.append_assoc] at HALL
      have HE := hide hy0
      have HNO : Hid (Hid (¬ lookV y.1 (L.drop j4) = 38)) := by show ¬ _; rw [lookV, if_neg hy0]; decide
      clear hsb hy0 hy4 hn4 hok4 HQ4 hm4 HS4 HS4c HO4 HSl HRR HALL0 HOK
      go_wp2_with (first
        | (go_at_call 175; refine (is_no (St.here HS5) 38 (by decide) (by decide) (unhide HNO)).mono ?_; rintro x w6 ⟨rfl, HS5b⟩; have HS5c := St.comp HS5 HS5b)
        | (go_at_call 174; refine (group_st HS5c 2 (OfOK.fr HO5 hble (unhide HS5b).fr) HALL HOK4 hsl hns).mono ?_; rintro x w7 ⟨n6, vn6, m6, rfl, HS6, hm6, HP6⟩))
      go_ret
      exact fin_err (kk0 := 1) (more := more ++ m4) HS0 HS6 (unhide HF) (unhide HE) (by omega) hmm hm6 (unhide HP6) 2 0 (by omega)
    | ok y =>
      obtain ⟨z, l1⟩ := y
      rw [hsb] at hen4 hy4
      obtain ⟨rfl, rfl, hd4⟩ := hen4
      obtain ⟨k1, k2, -⟩ := hy4 _ rfl
      obtain ⟨f, hf1, hf2⟩ := sep_part (unhide HRR) hsb hd4 (unhide HALL0) k2 hj4
      have HALL1 := all_ok (unhide HALL0) k1
      rw [List.append_assoc] at HALL1 hf1
      have HALL2 := hide HALL1
      have HALL : Hid ((∀ n ∈ ns ++ [n4], n < (szs ++ (more ++ m4)).length) ∨ ∃ m, ns ++ [n4] = [m] ∧ m = 0) := .inl HALL1
      by_cases hsg : hd (L.drop j4) = 38
      · have hj4l := drop_lt (L := L) (i := j4) (by omega)
        have HYES : Hid (Hid (lookV 0 (L.drop j4) = 38)) := hsg
        have HSP : Hid (sepMore s.size (rowS s.size at_) 38 f (zrun (szs ++ (more ++ m4)) (ns ++ [n4])) (L.drop (j4 + 1)) = R) := by show _ = _; rw [← drop_tail, ← sepLoop_sign hsg]; exact hf1
        have HF2 := hide hf2
        clear hsb hy4 hn4 hok4 HQ4 hm4 HS4 HS4c HO4 HSl HRR HALL0 HOK hsg hf1 hf2 HALL1 HALL hd4 k1 k2
        go_wp2_with (go_at_call 175; refine (is_yes (St.here HS5) 38 (by decide) (by decide) (unhide HYES)).mono ?_; rintro x w6 ⟨rfl, HS5b⟩; have HS5c := St.comp HS5 HS5b)
        go_roundw
        case rel => exact ⟨vn4, j4 + 1, more ++ m4, ns ++ [n4], ⟨HS5c, OfOK.fr HO5 hble (unhide HS5b).fr, by omega, by omega, unhide HOK4, by simp only [List.length_append, List.length_cons, List.length_nil]; omega⟩, by simp only [List.length_append, List.length_cons, List.length_nil]; omega, unhide HALL2, .inr ⟨by simp, f, unhide HSP, by have := unhide HF2; simp only [List.length_drop] at this ⊢; omega⟩⟩
        case measure =>
          rw [unhide HCN, cellN_eq (unhide HS5c).rs.c2]
          omega
      · have HNO : Hid (Hid (¬ lookV 0 (L.drop j4) = 38)) := hsg
        have HF : Hid (R = .ok (zrun (szs ++ (more ++ m4)) (ns ++ [n4]), L.drop j4)) := by show _ = _; rw [← hf1, sepLoopS, if_neg hsg]
        clear hsb hy4 hn4 hok4 HQ4 hm4 HS4 HS4c HO4 HSl HRR HALL0 HOK hsg hf1 hf2 HALL1 hd4 k1 k2
        go_wp2_with (first
          | (go_at_call 175; refine (is_no (St.here HS5) 38 (by decide) (by decide) (unhide HNO)).mono ?_; rintro x w6 ⟨rfl, HS5b⟩; have HS5c := St.comp HS5 HS5b)
          | (go_at_call 174; refine (group_st HS5c 2 (OfOK.fr HO5 hble (unhide HS5b).fr) HALL HOK4 hsl hns).mono ?_; rintro x w7 ⟨n6, vn6, m6, rfl, HS6, hm6, HP6⟩))
        go_ret
        exact fin_ok (kk0 := 1) (more := more ++ m4) HS0 HS6 (unhide HF) (by omega) hmm hm6 (unhide HP6) (unhide HALL2) (1 + 1) (by omega)

set_option maxRecDepth 100000 in
set_option maxHeartbeats 16000000 in
theorem level0_st {at_ : List Sy → Res Int} (HA : AtomOK s at_ d) (h : Hid (St w0 v0 w b s L vs vn i d szs 0 0)) (hok : SzOk szs) (hsz : szs.length ≤ 4 * i + 10) :
    Calls Tryz.prog 125 #[.pointer (some ⟨b, 0, none⟩), .int .i64 0] w (NodePost 3 0 (choiceS s.size at_ (L.drop i)) w0 v0 b s L vs i d szs) := by
  have hlen := (unhide h).rs.len
  have hble : b < w.heap.size := (unhide h).rs.lt
  have hvs : ∀ k, vs.ownBlock = some k → k < w.heap.size := fun k hk => ((unhide h).rs.syms.lt k hk).2
  have HVS := hide hvs
  obtain ⟨R, hR⟩ : ∃ R, choiceS s.size at_ (L.drop i) = R := ⟨_, rfl⟩
  rw [hR]
  have HSUB := hide (fun (w1 : World) (v1 : Value) (w2 : World) (vn : Value) (j : Nat) (szs : List Int) hs hok hsz => level1_st (w0 := w1) (v0 := v1) (w := w2) (L := L) (b := b) (vs := vs) (vn := vn) (i := j) (szs := szs) HA hs hok hsz)
  have HS0 := h
  have HRel : Hid (SepRel R (bothS s.size at_) 124 w vn w b s L vs i d szs (.slice none 0 0)) := ⟨vn, i, [], [], ⟨by rw [List.append_nil]; exact St.here h, OfOK.nil _ _ _, Nat.le_refl _, by simp, by rw [List.append_nil]; exact hok, by simp⟩, by simp, by simp, .inl ⟨rfl, rfl, hR⟩⟩
  clear hR h HA hvs hok
  go_enter Tryz.func125, Tryz.ntmps125
  go_wp2_with fail
  go_loopw [5] (fun v wr => Hid (SepRel R (bothS s.size at_) 124 w vn wr b s L vs i d szs v)) (fun _ wr => L.length - cellN wr b)
  case atStart => exact HRel
  case round =>
    clear HRel
    obtain ⟨vn2, j, more, ns, ⟨HS, HO, hij, hm, hok2, hnl⟩, hnl2, hall, hRR⟩ := unhide hrel
    have hjle := (unhide HS).le
    have hs2 : (szs ++ more).length ≤ 4 * j + 10 := by simp only [List.length_append]; omega
    have HRR := hide hRR
    have HALL0 := hide hall
    have HOK := hide hok2
    have HSl := St.here HS
    have HCN : Hid (cellN wr b = j) := cellN_eq (unhide HS).rs.c2
    clear hRR hall hok2 hrel
    go_wp2_with (first
      | (go_at_call 125; refine (unhide HSUB wr vn2 wr vn2 j (szs ++ more) HSl (unhide HOK) hs2).mono ?_; clear HSUB; rintro x w4 ⟨n4, vn4, j4, e4, p4, m4, rfl, HS4, hj4, hm4, hok4, hn4, hen4, hy4⟩; have HS4c := St.comp HS HS4; have HO4 := OfOK.fr HO hble (unhide HS4).fr; have HQ4 := hide (show m4.length ≤ 4 * (j4 - j) + 2 ∧ SzOk (szs ++ more ++ m4) ∧ (n4 < (szs ++ more ++ m4).length ∨ n4 = 0) ∧ Ends (bothS s.size at_ (L.drop j)) L j4 e4 p4 ∧ (∀ y, bothS s.size at_ (L.drop j) = .ok y → n4 < (szs ++ more ++ m4).length ∧ (szs ++ more ++ m4).getD n4 0 = y.1 ∧ j + 0 ≤ j4) from ⟨hm4, hok4, hn4, hen4, hy4⟩); clear hm4 hok4 hn4 hen4 hy4)
      | (at_builtin; refine app_of ns _ n4 (.tmp 40) (.tmp 42) rfl rfl rfl rfl HS4c hble (unhide HVS) HO4 (by omega) ?_; intro v5 w5 HS5 HO5))
    obtain ⟨hm4, hok4, hn4, hen4, hy4⟩ := unhide HQ4
    have hj4le := (unhide HS4).le
    have HOK4 := hide hok4
    have hmm : (more ++ m4).length ≤ 4 * (j4 - i) + 2 := by simp only [List.length_append]; omega
    have hsl : (szs ++ (more ++ m4)).length ≤ 10000 := by simp only [List.length_append] at hmm hs2 ⊢; omega
    have hns : (ns ++ [n4]).length ≤ 1000 := by simp only [List.length_append, List.length_cons, List.length_nil]; omega
    rw [List.append_assoc] at HS5 HOK4
    cases hsb : bothS s.size at_ (L.drop j) with
    | error y =>
      rw [hsb] at hen4
      obtain ⟨rfl, rfl, hy0⟩ := hen4
      have HF := hide (sep_err (unhide HRR) hsb)
      have HALL := hide (all_err (unhide HALL0) hn4)
      rw [List.append_assoc] at HALL
      have HE := hide hy0
      have HNO : Hid (Hid (¬ lookV y.1 (L.drop j4) = 124)) := by show ¬ _; rw [lookV, if_neg hy0]; decide
      clear hsb hy0 hy4 hn4 hok4 HQ4 hm4 HS4 HS4c HO4 HSl HRR HALL0 HOK
      go_wp2_with (first
        | (go_at_call 175; refine (is_no (St.here HS5) 124 (by decide) (by decide) (unhide HNO)).mono ?_; rintro x w6 ⟨rfl, HS5b⟩; have HS5c := St.comp HS5 HS5b)
        | (go_at_call 174; refine (group_st HS5c 3 (OfOK.fr HO5 hble (unhide HS5b).fr) HALL HOK4 hsl hns).mono ?_; rintro x w7 ⟨n6, vn6, m6, rfl, HS6, hm6, HP6⟩))
      go_ret
      exact fin_err (kk0 := 2) (more := more ++ m4) HS0 HS6 (unhide HF) (unhide HE) (by omega) hmm hm6 (unhide HP6) 3 0 (by omega)
    | ok y =>
      obtain ⟨z, l1⟩ := y
      rw [hsb] at hen4 hy4
      obtain ⟨rfl, rfl, hd4⟩ := hen4
      obtain ⟨k1, k2, -⟩ := hy4 _ rfl
      obtain ⟨f, hf1, hf2⟩ := sep_part (unhide HRR) hsb hd4 (unhide HALL0) k2 hj4
      have HALL1 := all_ok (unhide HALL0) k1
      rw [List.append_assoc] at HALL1 hf1
      have HALL2 := hide HALL1
      have HALL : Hid ((∀ n ∈ ns ++ [n4], n < (szs ++ (more ++ m4)).length) ∨ ∃ m, ns ++ [n4] = [m] ∧ m = 0) := .inl HALL1
      by_cases hsg : hd (L.drop j4) = 124
      · have hj4l := drop_lt (L := L) (i := j4) (by omega)
        have HYES : Hid (Hid (lookV 0 (L.drop j4) = 124)) := hsg
        have HSP : Hid (sepMore s.size (bothS s.size at_) 124 f (zrun (szs ++ (more ++ m4)) (ns ++ [n4])) (L.drop (j4 + 1)) = R) := by show _ = _; rw [← drop_tail, ← sepLoop_sign hsg]; exact hf1
        have HF2 := hide hf2
        clear hsb hy4 hn4 hok4 HQ4 hm4 HS4 HS4c HO4 HSl HRR HALL0 HOK hsg hf1 hf2 HALL1 HALL hd4 k1 k2
        go_wp2_with (go_at_call 175; refine (is_yes (St.here HS5) 124 (by decide) (by decide) (unhide HYES)).mono ?_; rintro x w6 ⟨rfl, HS5b⟩; have HS5c := St.comp HS5 HS5b)
        go_roundw
        case rel => exact ⟨vn4, j4 + 1, more ++ m4, ns ++ [n4], ⟨HS5c, OfOK.fr HO5 hble (unhide HS5b).fr, by omega, by omega, unhide HOK4, by simp only [List.length_append, List.length_cons, List.length_nil]; omega⟩, by simp only [List.length_append, List.length_cons, List.length_nil]; omega, unhide HALL2, .inr ⟨by simp, f, unhide HSP, by have := unhide HF2; simp only [List.length_drop] at this ⊢; omega⟩⟩
        case measure =>
          rw [unhide HCN, cellN_eq (unhide HS5c).rs.c2]
          omega
      · have HNO : Hid (Hid (¬ lookV 0 (L.drop j4) = 124)) := hsg
        have HF : Hid (R = .ok (zrun (szs ++ (more ++ m4)) (ns ++ [n4]), L.drop j4)) := by show _ = _; rw [← hf1, sepLoopS, if_neg hsg]
        clear hsb hy4 hn4 hok4 HQ4 hm4 HS4 HS4c HO4 HSl HRR HALL0 HOK hsg hf1 hf2 HALL1 hd4 k1 k2
        go_wp2_with (first
          | (go_at_call 175; refine (is_no (St.here HS5) 124 (by decide) (by decide) (unhide HNO)).mono ?_; rintro x w6 ⟨rfl, HS5b⟩; have HS5c := St.comp HS5 HS5b)
          | (go_at_call 174; refine (group_st HS5c 3 (OfOK.fr HO5 hble (unhide HS5b).fr) HALL HOK4 hsl hns).mono ?_; rintro x w7 ⟨n6, vn6, m6, rfl, HS6, hm6, HP6⟩))
        go_ret
        exact fin_ok (kk0 := 2) (more := more ++ m4) HS0 HS6 (unhide HF) (by omega) hmm hm6 (unhide HP6) (unhide HALL2) (2 + 1) (by omega)
end
end Go.Proofs.YtihjfoldgnoolaaGreatDoor
