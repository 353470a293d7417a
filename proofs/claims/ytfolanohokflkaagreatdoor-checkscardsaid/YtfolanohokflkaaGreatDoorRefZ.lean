import Derived.Test.YtfolanohokflkaaGreatDoorRefW
import Derived.WalkKit
import Derived.WalkSpells
import Derived.WalkLawsBesides
import Derived.Deep.QuietTactic
import Derived.BigQuiet
namespace Go.Proofs.YtfolanohokflkaaGreatDoor
open Go.RowKit

section
variable {w0 w : World} {v0 : Value} {b : Nat} {s : ByteArray} {L : List Sy} {vs vn : Value} {i : Nat} {d : Int} {szs : List Int} {e p : Int}

/-- what is left of a row of parts with signs between them, ahead of one more part. -/
def sepMore (n : Nat) (sub : List Sy → Res Int) (sign : Int) (f : Nat) (z : Int) (l : List Sy) : Res Int := match sub l with
  | .error x => .error x
  | .ok (y, l1) => sepLoopS n sub sign f (cap61 (z + 1 + y)) l1
theorem sepLoop_sign {n : Nat} {sub : List Sy → Res Int} {sign : Int} {f : Nat} {z : Int} {l : List Sy} (h : hd l = sign) : sepLoopS n sub sign (f + 1) z l = sepMore n sub sign f z l.tail := by
  rw [sepLoopS, if_pos h]; rfl
def SepRR (R : Res Int) (n : Nat) (sub : List Sy → Res Int) (sign : Int) (sz : List Int) (i j : Nat) (L : List Sy) (ns : List Nat) : Prop :=
  (ns = [] ∧ j = i ∧ sepS n sub sign (L.drop j) = R) ∨ (ns ≠ [] ∧ ∃ f, sepMore n sub sign f (zrun sz ns) (L.drop j) = R ∧ (L.drop j).length < f)
def SepRel (R : Res Int) (sub : List Sy → Res Int) (sign : Int) (w0 : World) (v0 : Value) (wr : World) (b : Nat) (s : ByteArray) (L : List Sy) (vs : Value) (i : Nat) (d : Int) (szs : List Int) (v : Value) : Prop :=
  ∃ (vn : Value) (j : Nat) (more : List Int) (ns : List Nat), Gath w0 v0 wr b s L vs vn v i j d szs more ns 0 0 ∧ ns.length ≤ j - i ∧ (∀ n ∈ ns, n < (szs ++ more).length) ∧ SepRR R s.size sub sign (szs ++ more) i j L ns
theorem sep_err {R : Res Int} {n : Nat} {sub : List Sy → Res Int} {sign : Int} {sz : List Int} {j : Nat} {ns : List Nat} {y : Int × Int} (h : SepRR R n sub sign sz i j L ns) (hs : sub (L.drop j) = .error y) : R = .error (y.1, y.2) := by
  rcases h with ⟨rfl, rfl, h⟩ | ⟨hne, f, h, hf⟩
  · rw [sepS, hs] at h; exact h.symm
  · rw [sepMore, hs] at h; exact h.symm
/-- behind a part. -/
theorem sep_part {R : Res Int} {n : Nat} {sub : List Sy → Res Int} {sign : Int} {sz m2 : List Int} {j j4 n4 : Nat} {ns : List Nat} {z : Int} {l1 : List Sy} (h : SepRR R n sub sign sz i j L ns) (hs : sub (L.drop j) = .ok (z, l1)) (hd4 : L.drop j4 = l1) (hall : ∀ n ∈ ns, n < sz.length) (hz : (sz ++ m2).getD n4 0 = z) (hjj : j ≤ j4) :
    ∃ f, sepLoopS n sub sign (f + 1) (zrun (sz ++ m2) (ns ++ [n4])) (L.drop j4) = R ∧ (L.drop j4).length ≤ f := by
  rcases h with ⟨rfl, rfl, h⟩ | ⟨hne, f, h, hf⟩
  · rw [sepS, hs] at h
    refine ⟨l1.length, ?_, by rw [hd4]; exact Nat.le_refl _⟩
    rw [hd4, List.nil_append, zrun, zgo, hz]; exact h
  · rw [sepMore, hs] at h
    obtain ⟨f, rfl⟩ : ∃ k, f = k + 1 := ⟨f - 1, by omega⟩
    refine ⟨f, ?_, by simp only [List.length_drop] at hf ⊢; omega⟩
    rw [hd4, zrun_snoc _ _ _ hne, zrun_ext _ _ _ hall, hz]; exact h

set_option maxRecDepth 100000 in
set_option maxHeartbeats 16000000 in
theorem level1_st {at_ : List Sy → Res Int} (HA : AtomOK s at_ d) (h : Hid (St w0 v0 w b s L vs vn i d szs 0 0)) (hok : SzOk szs) (hsz : szs.length ≤ 4 * i + 10) :
    Calls Tryz.prog 139 #[.pointer (some ⟨b, 0, none⟩), .int .i64 1] w (NodePost 2 0 (bothS s.size at_ (L.drop i)) w0 v0 b s L vs i d szs) := by
  have hlen := (unhide h).rs.len
  have hble : b < w.heap.size := (unhide h).rs.lt
  have hvs : ∀ k, vs.ownBlock = some k → k < w.heap.size := fun k hk => ((unhide h).rs.syms.lt k hk).2
  have HVS := hide hvs
  obtain ⟨R, hR⟩ : ∃ R, bothS s.size at_ (L.drop i) = R := ⟨_, rfl⟩
  rw [hR]
  have HSUB := hide (fun (w1 : World) (v1 : Value) (w2 : World) (vn : Value) (j : Nat) (szs : List Int) hs hok hsz => level2_st (w0 := w1) (v0 := v1) (w := w2) (L := L) (b := b) (vs := vs) (vn := vn) (i := j) (szs := szs) HA hs hok hsz)
  have HS0 := h
  have HRel : Hid (SepRel R (rowS s.size at_) 38 w vn w b s L vs i d szs (.slice none 0 0)) := ⟨vn, i, [], [], ⟨by rw [List.append_nil]; exact St.here h, OfOK.nil _ _ _, Nat.le_refl _, by simp, by rw [List.append_nil]; exact hok, by simp⟩, by simp, by simp, .inl ⟨rfl, rfl, hR⟩⟩
  clear hR h HA hvs hok
  go_enter Tryz.func139, Tryz.ntmps139
  go_wp2_with fail
  go_loopw [5] (fun v wr => Hid (SepRel R (rowS s.size at_) 38 w vn wr b s L vs i d szs v)) (fun _ wr => L.length - cellN wr b)
  case atStart => exact HRel
  case round =>
    clear HRel
    obtain ⟨vn2, j, more, ns, ⟨HS, HO, hij, hm, hok2, hnl⟩, hnl2, hall, hRR⟩ := unhide hrel
    have hjle := (unhide HS).le
    have hs2 : (szs ++ more).length ≤ 4 * j + 10 := by simp only [List.length_append]; omega
    have HRR := hide hRR
    have HALL0 := hide hall
    have HOK := hide hok2
    have HSl := St.here HS
    have HCN : Hid (cellN wr b = j) := cellN_eq (unhide HS).rs.c2
    clear hRR hall hok2 hrel
    go_wp2_with (first
      | (go_at_call 139; refine (unhide HSUB wr vn2 wr vn2 j (szs ++ more) HSl (unhide HOK) hs2).mono ?_; clear HSUB; rintro x w4 ⟨n4, vn4, j4, e4, p4, m4, rfl, HS4, hj4, hm4, hok4, hn4, hen4, hy4⟩; have HS4c := St.comp HS HS4; have HO4 := OfOK.fr HO hble (unhide HS4).fr; have HQ4 := hide (show m4.length ≤ 4 * (j4 - j) + 1 ∧ SzOk (szs ++ more ++ m4) ∧ (n4 < (szs ++ more ++ m4).length ∨ n4 = 0) ∧ Ends (rowS s.size at_ (L.drop j)) L j4 e4 p4 ∧ (∀ y, rowS s.size at_ (L.drop j) = .ok y → n4 < (szs ++ more ++ m4).length ∧ (szs ++ more ++ m4).getD n4 0 = y.1 ∧ j + 0 ≤ j4) from ⟨hm4, hok4, hn4, hen4, hy4⟩); clear hm4 hok4 hn4 hen4 hy4)
      | (at_builtin; refine app_of ns _ n4 (.tmp 40) (.tmp 42) rfl rfl rfl rfl HS4c hble (unhide HVS) HO4 (by omega) ?_; intro v5 w5 HS5 HO5))
    obtain ⟨hm4, hok4, hn4, hen4, hy4⟩ := unhide HQ4
    have hj4le := (unhide HS4).le
    have HOK4 := hide hok4
    have hmm : (more ++ m4).length ≤ 4 * (j4 - i) + 1 := by simp only [List.length_append]; omega
    have hsl : (szs ++ (more ++ m4)).length ≤ 10000 := by simp only [List.length_append] at hmm hs2 ⊢; omega
    have hns : (ns ++ [n4]).length ≤ 1000 := by simp only [List.length_append, List.length_cons, List.length_nil]; omega
    rw [List.append_assoc] at HS5 HOK4
    cases hsb : rowS s.size at_ (L.drop j) with
    | error y =>
      rw [hsb] at hen4
      obtain ⟨rfl, rfl, hy0⟩ := hen4
      have HF := hide (sep_err (unhide HRR) hsb)
      have HALL := hide (all_err (unhide HALL0) hn4)
      rw [List.append_assoc] at HALL
      have HE := hide hy0
      have HNO : Hid (Hid (¬ lookV y.1 (L.drop j4) = 38)) := by show ¬ _; rw [lookV, if_neg hy0]; decide
      clear hsb hy0 hy4 hn4 hok4 HQ4 hm4 HS4 HS4c HO4 HSl HRR HALL0 HOK
      go_wp2_with (first
        | (go_at_call 209; refine (is_no (St.here HS5) 38 (by decide) (by decide) (unhide HNO)).mono ?_; rintro x w6 ⟨rfl, HS5b⟩; have HS5c := St.comp HS5 HS5b)
        | (go_at_call 208; refine (group_st HS5c 2 (OfOK.fr HO5 hble (unhide HS5b).fr) HALL HOK4 hsl hns).mono ?_; rintro x w7 ⟨n6, vn6, m6, rfl, HS6, hm6, HP6⟩))
      go_ret
      exact fin_err (kk0 := 1) (more := more ++ m4) HS0 HS6 (unhide HF) (unhide HE) (by omega) hmm hm6 (unhide HP6) 2 0 (by omega)
    | ok y =>
      obtain ⟨z, l1⟩ := y
      rw [hsb] at hen4 hy4
      obtain ⟨rfl, rfl, hd4⟩ := hen4
      obtain ⟨k1, k2, -⟩ := hy4 _ rfl
      obtain ⟨f, hf1, hf2⟩ := sep_part (unhide HRR) hsb hd4 (unhide HALL0) k2 hj4
      have HALL1 := all_ok (unhide HALL0) k1
      rw [List.append_assoc] at HALL1 hf1
      have HALL2 := hide HALL1
      have HALL : Hid ((∀ n ∈ ns ++ [n4], n < (szs ++ (more ++ m4)).length) ∨ ∃ m, ns ++ [n4] = [m] ∧ m = 0) := .inl HALL1
      by_cases hsg : hd (L.drop j4) = 38
      · have hj4l := drop_lt (L := L) (i := j4) (by omega)
        have HYES : Hid (Hid (lookV 0 (L.drop j4) = 38)) := hsg
        have HSP : Hid (sepMore s.size (rowS s.size at_) 38 f (zrun (szs ++ (more ++ m4)) (ns ++ [n4])) (L.drop (j4 + 1)) = R) := by show _ = _; rw [← drop_tail, ← sepLoop_sign hsg]; exact hf1
        have HF2 := hide hf2
        clear hsb hy4 hn4 hok4 HQ4 hm4 HS4 HS4c HO4 HSl HRR HALL0 HOK hsg hf1 hf2 HALL1 HALL hd4 k1 k2
        go_wp2_with (go_at_call 209; refine (is_yes (St.here HS5) 38 (by decide) (by decide) (unhide HYES)).mono ?_; rintro x w6 ⟨rfl, HS5b⟩; have HS5c := St.comp HS5 HS5b)
        go_roundw
        case rel => exact ⟨vn4, j4 + 1, more ++ m4, ns ++ [n4], ⟨HS5c, OfOK.fr HO5 hble (unhide HS5b).fr, by omega, by omega, unhide HOK4, by simp only [List.length_append, List.length_cons, List.length_nil]; omega⟩, by simp only [List.length_append, List.length_cons, List.length_nil]; omega, unhide HALL2, .inr ⟨by simp, f, unhide HSP, by have := unhide HF2; simp only [List.length_drop] at this ⊢; omega⟩⟩
        case measure =>
          rw [unhide HCN, cellN_eq (unhide HS5c).rs.c2]
          omega
      · have HNO : Hid (Hid (¬ lookV 0 (L.drop j4) = 38)) := hsg
        have HF : Hid (R = .ok (zrun (szs ++ (more ++ m4)) (ns ++ [n4]), L.drop j4)) := by show _ = _; rw [← hf1, sepLoopS, if_neg hsg]
        clear hsb hy4 hn4 hok4 HQ4 hm4 HS4 HS4c HO4 HSl HRR HALL0 HOK hsg hf1 hf2 HALL1 hd4 k1 k2
        go_wp2_with (first
          | (go_at_call 209; refine (is_no (St.here HS5) 38 (by decide) (by decide) (unhide HNO)).mono ?_; rintro x w6 ⟨rfl, HS5b⟩; have HS5c := St.comp HS5 HS5b)
          | (go_at_call 208; refine (group_st HS5c 2 (OfOK.fr HO5 hble (unhide HS5b).fr) HALL HOK4 hsl hns).mono ?_; rintro x w7 ⟨n6, vn6, m6, rfl, HS6, hm6, HP6⟩))
        go_ret
        exact fin_ok (kk0 := 1) (more := more ++ m4) HS0 HS6 (unhide HF) (by omega) hmm hm6 (unhide HP6) (unhide HALL2) (1 + 1) (by omega)

set_option maxRecDepth 100000 in
set_option maxHeartbeats 16000000 in
theorem level0_st {at_ : List Sy → Res Int} (HA : AtomOK s at_ d) (h : Hid (St w0 v0 w b s L vs vn i d szs 0 0)) (hok : SzOk szs) (hsz : szs.length ≤ 4 * i + 10) :
    Calls Tryz.prog 139 #[.pointer (some ⟨b, 0, none⟩), .int .i64 0] w (NodePost 3 0 (choiceS s.size at_ (L.drop i)) w0 v0 b s L vs i d szs) := by
  have hlen := (unhide h).rs.len
  have hble : b < w.heap.size := (unhide h).rs.lt
  have hvs : ∀ k, vs.ownBlock = some k → k < w.heap.size := fun k hk => ((unhide h).rs.syms.lt k hk).2
  have HVS := hide hvs
  obtain ⟨R, hR⟩ : ∃ R, choiceS s.size at_ (L.drop i) = R := ⟨_, rfl⟩
  rw [hR]
  have HSUB := hide (fun (w1 : World) (v1 : Value) (w2 : World) (vn : Value) (j : Nat) (szs : List Int) hs hok hsz => level1_st (w0 := w1) (v0 := v1) (w := w2) (L := L) (b := b) (vs := vs) (vn := vn) (i := j) (szs := szs) HA hs hok hsz)
  have HS0 := h
  have HRel : Hid (SepRel R (bothS s.size at_) 124 w vn w b s L vs i d szs (.slice none 0 0)) := ⟨vn, i, [], [], ⟨by rw [List.append_nil]; exact St.here h, OfOK.nil _ _ _, Nat.le_refl _, by simp, by rw [List.append_nil]; exact hok, by simp⟩, by simp, by simp, .inl ⟨rfl, rfl, hR⟩⟩
  clear hR h HA hvs hok
  go_enter Tryz.func139, Tryz.ntmps139
  go_wp2_with fail
  go_loopw [5] (fun v wr => Hid (SepRel R (bothS s.size at_) 124 w vn wr b s L vs i d szs v)) (fun _ wr => L.length - cellN wr b)
  case atStart => exact HRel
  case round =>
    clear HRel
    obtain ⟨vn2, j, more, ns, ⟨HS, HO, hij, hm, hok2, hnl⟩, hnl2, hall, hRR⟩ := unhide hrel
    have hjle := (unhide HS).le
    have hs2 : (szs ++ more).length ≤ 4 * j + 10 := by simp only [List.length_append]; omega
    have HRR := hide hRR
    have HALL0 := hide hall
    have HOK := hide hok2
    have HSl := St.here HS
    have HCN : Hid (cellN wr b = j) := cellN_eq (unhide HS).rs.c2
    clear hRR hall hok2 hrel
    go_wp2_with (first
      | (go_at_call 139; refine (unhide HSUB wr vn2 wr vn2 j (szs ++ more) HSl (unhide HOK) hs2).mono ?_; clear HSUB; rintro x w4 ⟨n4, vn4, j4, e4, p4, m4, rfl, HS4, hj4, hm4, hok4, hn4, hen4, hy4⟩; have HS4c := St.comp HS HS4; have HO4 := OfOK.fr HO hble (unhide HS4).fr; have HQ4 := hide (show m4.length ≤ 4 * (j4 - j) + 2 ∧ SzOk (szs ++ more ++ m4) ∧ (n4 < (szs ++ more ++ m4).length ∨ n4 = 0) ∧ Ends (bothS s.size at_ (L.drop j)) L j4 e4 p4 ∧ (∀ y, bothS s.size at_ (L.drop j) = .ok y → n4 < (szs ++ more ++ m4).length ∧ (szs ++ more ++ m4).getD n4 0 = y.1 ∧ j + 0 ≤ j4) from ⟨hm4, hok4, hn4, hen4, hy4⟩); clear hm4 hok4 hn4 hen4 hy4)
      | (at_builtin; refine app_of ns _ n4 (.tmp 40) (.tmp 42) rfl rfl rfl rfl HS4c hble (unhide HVS) HO4 (by omega) ?_; intro v5 w5 HS5 HO5))
    obtain ⟨hm4, hok4, hn4, hen4, hy4⟩ := unhide HQ4
    have hj4le := (unhide HS4).le
    have HOK4 := hide hok4
    have hmm : (more ++ m4).length ≤ 4 * (j4 - i) + 2 := by simp only [List.length_append]; omega
    have hsl : (szs ++ (more ++ m4)).length ≤ 10000 := by simp only [List.length_append] at hmm hs2 ⊢; omega
    have hns : (ns ++ [n4]).length ≤ 1000 := by simp only [List.length_append, List.length_cons, List.length_nil]; omega
    rw [List.append_assoc] at HS5 HOK4
    cases hsb : bothS s.size at_ (L.drop j) with
    | error y =>
      rw [hsb] at hen4
      obtain ⟨rfl, rfl, hy0⟩ := hen4
      have HF := hide (sep_err (unhide HRR) hsb)
      have HALL := hide (all_err (unhide HALL0) hn4)
      rw [List.append_assoc] at HALL
      have HE := hide hy0
      have HNO : Hid (Hid (¬ lookV y.1 (L.drop j4) = 124)) := by show ¬ _; rw [lookV, if_neg hy0]; decide
      clear hsb hy0 hy4 hn4 hok4 HQ4 hm4 HS4 HS4c HO4 HSl HRR HALL0 HOK
      go_wp2_with (first
        | (go_at_call 209; refine (is_no (St.here HS5) 124 (by decide) (by decide) (unhide HNO)).mono ?_; rintro x w6 ⟨rfl, HS5b⟩; have HS5c := St.comp HS5 HS5b)
        | (go_at_call 208; refine (group_st HS5c 3 (OfOK.fr HO5 hble (unhide HS5b).fr) HALL HOK4 hsl hns).mono ?_; rintro x w7 ⟨n6, vn6, m6, rfl, HS6, hm6, HP6⟩))
      go_ret
      exact fin_err (kk0 := 2) (more := more ++ m4) HS0 HS6 (unhide HF) (unhide HE) (by omega) hmm hm6 (unhide HP6) 3 0 (by omega)
    | ok y =>
      obtain ⟨z, l1⟩ := y
      rw [hsb] at hen4 hy4
      obtain ⟨rfl, rfl, hd4⟩ := hen4
      obtain ⟨k1, k2, -⟩ := hy4 _ rfl
      obtain ⟨f, hf1, hf2⟩ := sep_part (unhide HRR) hsb hd4 (unhide HALL0) k2 hj4
      have HALL1 := all_ok (unhide HALL0) k1
      rw [List.append_assoc] at HALL1 hf1
      have HALL2 := hide HALL1
      have HALL : Hid ((∀ n ∈ ns ++ [n4], n < (szs ++ (more ++ m4)).length) ∨ ∃ m, ns ++ [n4] = [m] ∧ m = 0) := .inl HALL1
      by_cases hsg : hd (L.drop j4) = 124
      · have hj4l := drop_lt (L := L) (i := j4) (by omega)
        have HYES : Hid (Hid (lookV 0 (L.drop j4) = 124)) := hsg
        have HSP : Hid (sepMore s.size (bothS s.size at_) 124 f (zrun (szs ++ (more ++ m4)) (ns ++ [n4])) (L.drop (j4 + 1)) = R) := by show _ = _; rw [← drop_tail, ← sepLoop_sign hsg]; exact hf1
        have HF2 := hide hf2
        clear hsb hy4 hn4 hok4 HQ4 hm4 HS4 HS4c HO4 HSl HRR HALL0 HOK hsg hf1 hf2 HALL1 HALL hd4 k1 k2
        go_wp2_with (go_at_call 209; refine (is_yes (St.here HS5) 124 (by decide) (by decide) (unhide HYES)).mono ?_; rintro x w6 ⟨rfl, HS5b⟩; have HS5c := St.comp HS5 HS5b)
        go_roundw
        case rel => exact ⟨vn4, j4 + 1, more ++ m4, ns ++ [n4], ⟨HS5c, OfOK.fr HO5 hble (unhide HS5b).fr, by omega, by omega, unhide HOK4, by simp only [List.length_append, List.length_cons, List.length_nil]; omega⟩, by simp only [List.length_append, List.length_cons, List.length_nil]; omega, unhide HALL2, .inr ⟨by simp, f, unhide HSP, by have := unhide HF2; simp only [List.length_drop] at this ⊢; omega⟩⟩
        case measure =>
          rw [unhide HCN, cellN_eq (unhide HS5c).rs.c2]
          omega
      · have HNO : Hid (Hid (¬ lookV 0 (L.drop j4) = 124)) := hsg
        have HF : Hid (R = .ok (zrun (szs ++ (more ++ m4)) (ns ++ [n4]), L.drop j4)) := by show _ = _; rw [← hf1, sepLoopS, if_neg hsg]
        clear hsb hy4 hn4 hok4 HQ4 hm4 HS4 HS4c HO4 HSl HRR HALL0 HOK hsg hf1 hf2 HALL1 hd4 k1 k2
        go_wp2_with (first
          | (go_at_call 209; refine (is_no (St.here HS5) 124 (by decide) (by decide) (unhide HNO)).mono ?_; rintro x w6 ⟨rfl, HS5b⟩; have HS5c := St.comp HS5 HS5b)
          | (go_at_call 208; refine (group_st HS5c 3 (OfOK.fr HO5 hble (unhide HS5b).fr) HALL HOK4 hsl hns).mono ?_; rintro x w7 ⟨n6, vn6, m6, rfl, HS6, hm6, HP6⟩))
        go_ret
        exact fin_ok (kk0 := 2) (more := more ++ m4) HS0 HS6 (unhide HF) (by omega) hmm hm6 (unhide HP6) (unhide HALL2) (2 + 1) (by omega)
end
end Go.Proofs.YtfolanohokflkaaGreatDoor

namespace Go.Proofs.YtfolanohokflkaaGreatDoor
open Go.RowKit

section
variable {w0 w : World} {v0 : Value} {b : Nat} {s : ByteArray} {L : List Sy} {vs vn : Value} {i : Nat} {d : Int} {szs : List Int} {e p : Int}

def grpS (n : Nat) : Res Int → Res Int
  | .error x => .error x
  | .ok (z, l1) => if hd l1 = 41 then .ok (z, l1.tail) else bad 2 n l1
theorem dep_back {d1 d2 : Int} (h : Hid (St w0 v0 w b s L vs vn i d1 szs e p)) (hd : d2 = d) : Hid (St w0 v0 (w.setCell ⟨b, 3, none⟩ (.int .i64 d2)) b s L vs vn i d szs e p) := by
  subst hd; exact St.dep h d2

set_option maxRecDepth 100000 in
set_option maxHeartbeats 4000000 in
theorem atom_deep (h : Hid (St w0 v0 w b s L vs vn i 8 szs 0 0)) (hc : hd (L.drop i) = 40) (hok : SzOk szs) :
    Calls Tryz.prog 245 #[.pointer (some ⟨b, 0, none⟩)] w (NodePost 0 1 (bad 4 s.size (L.drop i)) w0 v0 b s L vs i 8 szs) := by
  have HL := look_at (w0 := w0) (v0 := v0) (b := b) (s := s) (L := L) (vs := vs) (vn := vn) (d := 8) (szs := szs) hc
  have HOK := hide hok
  have HS := h
  clear h hc hok
  go_enter Tryz.func245, Tryz.ntmps245
  go_wp2_with (first
    | (go_at_call 205; refine (unhide HL _ HS).mono ?_; clear HS; rintro x w2 ⟨rfl, HS⟩; have q2 := (unhide HS).rs.c2; have f2 := (unhide HS).rs.fz 2; have q3 := (unhide HS).rs.c3; have f3 := (unhide HS).rs.fz 3)
    | (go_at_call 140; refine (wrong_new HS 4).mono ?_; clear HS; rintro x w3 ⟨rfl, HS⟩))
  go_ret
  exact node_bad rfl (by decide) HS (Nat.le_refl _) (unhide HOK) 0 1

set_option maxRecDepth 100000 in
set_option maxHeartbeats 8000000 in
theorem atom_group {at_ : List Sy → Res Int} (HA : AtomOK s at_ (d + 1)) (h : Hid (St w0 v0 w b s L vs vn i d szs 0 0)) (hc : hd (L.drop i) = 40) (hd0 : 0 ≤ d) (hd7 : d ≤ 7) (hok : SzOk szs) (hsz : szs.length ≤ 4 * i + 10) :
    Calls Tryz.prog 245 #[.pointer (some ⟨b, 0, none⟩)] w (NodePost 0 1 (grpS s.size (choiceS s.size at_ (L.drop (i + 1)))) w0 v0 b s L vs i d szs) := by
  have hlen := (unhide h).rs.len
  have hj := drop_lt (L := L) (i := i) (by omega)
  obtain ⟨R, hR⟩ : ∃ R, grpS s.size (choiceS s.size at_ (L.drop (i + 1))) = R := ⟨_, rfl⟩
  rw [hR]
  have HR := hide hR
  clear hR
  have HL := look_at (w0 := w0) (v0 := v0) (b := b) (s := s) (L := L) (vs := vs) (vn := vn) (d := d) (szs := szs) hc
  have HLV := hide (fun w1 (hs : Hid (St w0 v0 w1 b s L vs vn (i + 1) (d + 1) szs 0 0)) => level0_st HA hs hok (by omega))
  have h8 : (d == 8) = false := by simp; omega
  have HS := h
  clear h hc hok HA
  go_enter Tryz.func245, Tryz.ntmps245
  go_wp2_with (first
    | (go_at_call 205; refine (unhide HL _ HS).mono ?_; clear HS; rintro x w2 ⟨rfl, HS⟩; have q2 := (unhide HS).rs.c2; have f2 := (unhide HS).rs.fz 2; have q3 := (unhide HS).rs.c3; have f3 := (unhide HS).rs.fz 3)
    | (go_at_call 139; refine (unhide HLV _ (St.dep (St.up HS hj) (d + 1))).mono ?_; clear HS HLV q2 f2 q3 f3; rintro x w3 ⟨n, vn1, i1, e1, p1, more, rfl, HS, hi1, hm1, hok1, hn1, hen1, hy1⟩; have HQ := hide (show more.length ≤ 4 * (i1 - (i + 1)) + 3 ∧ SzOk (szs ++ more) ∧ (n < (szs ++ more).length ∨ n = 0) ∧ Ends (choiceS s.size at_ (L.drop (i + 1))) L i1 e1 p1 ∧ (∀ y, choiceS s.size at_ (L.drop (i + 1)) = .ok y → n < (szs ++ more).length ∧ (szs ++ more).getD n 0 = y.1 ∧ i + 1 + 0 ≤ i1) from ⟨hm1, hok1, hn1, hen1, hy1⟩); clear hm1 hok1 hn1 hen1 hy1))
  obtain ⟨hm1, hok1, hn1, hen1, hy1⟩ := unhide HQ
  have q3 := (unhide HS).rs.c3
  have hi1le := (unhide HS).le
  have hdd : d + 1 - 1 = d := by omega
  cases hch : choiceS s.size at_ (L.drop (i + 1)) with
  | error y =>
    rw [hch] at hen1 HR
    obtain ⟨rfl, rfl, hy0⟩ := hen1
    have HE := hide hy0
    clear hch hy0 hy1 HQ q3
    have HP := hide (show SzOk (szs ++ more) ∧ (n < (szs ++ more).length ∨ n = 0) from ⟨hok1, hn1⟩)
    clear hok1 hn1 hdd
    go_wp2_with (go_at_call 272; refine (want_old HS 41 (by decide) (by decide) HE).mono ?_; clear HS; rintro x w5 ⟨rfl, HS⟩; have q3 := (unhide HS).rs.c3; have f3 := (unhide HS).rs.fz 3)
    go_ret
    refine ⟨n, vn1, i1, _, _, more, rfl, dep_back HS (by omega), by omega, by omega, (unhide HP).1, (unhide HP).2, by rw [← unhide HR]; exact ⟨rfl, rfl, unhide HE⟩, fun y' h' => by rw [← unhide HR] at h'; cases h'⟩
  | ok y =>
    obtain ⟨z, l1⟩ := y
    rw [hch] at hen1 hy1 HR
    obtain ⟨rfl, rfl, hd1⟩ := hen1
    obtain ⟨k1, k2, -⟩ := hy1 _ rfl
    have HP := hide (show SzOk (szs ++ more) ∧ n < (szs ++ more).length ∧ (szs ++ more).getD n 0 = z ∧ L.drop i1 = l1 from ⟨hok1, k1, k2, hd1⟩)
    clear hch hy1 HQ q3 hdd k1 k2 hok1 hn1
    by_cases h41 : hd l1 = 41
    · have HR2 : Hid (R = .ok (z, l1.tail)) := by show _ = _; rw [← unhide HR, grpS, if_pos h41]
      have HY : Hid (Hid (lookV 0 (L.drop i1) = 41)) := by show hd (L.drop i1) = 41; rw [hd1]; exact h41
      clear h41 hd1
      go_wp2_with (go_at_call 272; refine (want_yes HS 41 (by decide) (by decide) (unhide HY)).mono ?_; clear HS; rintro x w5 ⟨rfl, HS⟩; have q3 := (unhide HS).rs.c3; have f3 := (unhide HS).rs.fz 3)
      go_ret
      obtain ⟨g1, g2, g3, g4⟩ := unhide HP
      refine ⟨n, vn1, i1 + 1, 0, 0, more, rfl, dep_back HS (by omega), by omega, by omega, g1, .inl g2, by rw [unhide HR2]; exact ⟨rfl, rfl, by rw [← drop_tail, g4]⟩, fun y' h' => ?_⟩
      rw [unhide HR2] at h'; cases h'; exact ⟨g2, g3, by omega⟩
    · have HR2 : Hid (R = bad 2 s.size l1) := by show _ = _; rw [← unhide HR, grpS, if_neg h41]
      have HY : Hid (Hid (¬ lookV 0 (L.drop i1) = 41)) := by show ¬ hd (L.drop i1) = 41; rw [hd1]; exact h41
      clear h41 hd1
      go_wp2_with (go_at_call 272; refine (want_no HS 41 (by decide) (by decide) (unhide HY)).mono ?_; clear HS; rintro x w5 ⟨rfl, HS⟩; have q3 := (unhide HS).rs.c3; have f3 := (unhide HS).rs.fz 3)
      go_ret
      obtain ⟨g1, g2, g3, g4⟩ := unhide HP
      refine ⟨n, vn1, i1, 2, _, more, rfl, dep_back HS (by omega), by omega, by omega, g1, .inl g2, by rw [unhide HR2, ← g4]; exact ends_bad 2 (by decide) _ _ _, fun y' h' => by rw [unhide HR2] at h'; cases h'⟩

theorem atomOK (s : ByteArray) : ∀ k : Nat, k ≤ 8 → AtomOK s (atomS s.size k) (8 - (k : Int))
  | 0, _ => by
    intro w0 v0 w b L vs vn i szs h hok hsz
    have hb : i ≤ L.length := (unhide h).le
    have hl := (unhide h).rs.len
    by_cases hc : hd (L.drop i) = 40
    · rw [atomS, if_pos hc]; exact atom_deep h hc hok
    · rw [atomS, if_neg hc]; exact atom_leaf h hc hok (by omega)
  | k + 1, hk => by
    intro w0 v0 w b L vs vn i szs h hok hsz
    have hb : i ≤ L.length := (unhide h).le
    have hl := (unhide h).rs.len
    by_cases hc : hd (L.drop i) = 40
    · have hg : atomS s.size (k + 1) (L.drop i) = grpS s.size (choiceS s.size (atomS s.size k) (L.drop (i + 1))) := by
        rw [atomS, if_pos hc, drop_tail]; cases choiceS s.size (atomS s.size k) (L.drop (i + 1)) <;> rfl
      rw [hg]
      have ih := atomOK s k (by omega)
      rw [show (8 : Int) - (k : Int) = 8 - ((k + 1 : Nat) : Int) + 1 from by omega] at ih
      exact atom_group ih h hc (by omega) (by omega) hok hsz
    · rw [atomS, if_neg hc]; exact atom_leaf h hc hok (by omega)
end
end Go.Proofs.YtfolanohokflkaaGreatDoor

namespace Go.Proofs.YtfolanohokflkaaGreatDoor
open Go.RowKit

/-- what Parse answers, as far as Check asks. -/
def ParsePost (w : World) (s : ByteArray) (x : Ending) (w' : World) : Prop :=
  ∃ v n, x = .returned (.tuple #[v, .int .i64 n, .int .i64 (checkS s).1, .int .i64 (checkS s).2]) ∧ Below w.heap.size w w'

/-- the reader as it is laid. -/
theorem rs_new (w : World) (s : ByteArray) (L : List Sy) (vs : Value) (ho : w.ownsRow 0 253 3 vs L.length (symCells L)) (hl : L.length ≤ 100) (hs : s.size ≤ 1000) :
    RS (w.alloc (.cells #[.string s, vs, .int .i64 0, .int .i64 0, .slice none 0 0, .int .i64 0, .int .i64 0] 209)) w.heap.size s L vs (.slice none 0 0) 0 0 [] 0 0 := by
  have hc : ∀ k, (w.alloc (.cells #[.string s, vs, .int .i64 0, .int .i64 0, .slice none 0 0, .int .i64 0, .int .i64 0] 209)).cell? ⟨w.heap.size, k, none⟩ = (#[.string s, vs, .int .i64 0, .int .i64 0, .slice none 0 0, .int .i64 0, .int .i64 0] : Array Value)[k]? := fun k => World.cell?_alloc_at _ _ _ _ rfl
  refine ⟨hc 0, hc 1, hc 2, hc 3, hc 4, hc 5, hc 6, fun k => World.frozen?_alloc_at _ _ _ _ rfl, ho.alloc _, fun e => by have := (ho.lt _ e).2; omega, ⟨[], World.ownsRow_nil _ _ _ _, fun i hi => by simp at hi⟩, by simp [Value.ownBlock], fun k hk => by simp [Value.ownBlock] at hk, hl, hs⟩

theorem below_fr {w w1 w2 : World} {o : Obj} {vn : Value} (hb : Below w.heap.size w w1) (hf : Fr w1.heap.size (.slice none 0 0) (w1.alloc o) w2 vn) : Below w.heap.size w w2 := by
  have hs := hb.size
  have hs2 := hf.size
  simp only [World.size_alloc] at hs2
  refine ⟨hf.os.trans hb.os, hf.tape.trans hb.tape, hf.output.trans hb.output, by omega, fun k hk => ?_⟩
  rw [hf.block k (by simp; omega) (by omega) (by simp [Value.ownBlock]), Below.heap_alloc _ _ _ (by omega)]
  exact hb.block k hk

theorem below_st {w w4 w5 : World} {b : Nat} {vn vn' : Value} (hb : Below w.heap.size w w4) (hv : ∀ k, vn.ownBlock = some k → w.heap.size ≤ k) (hbl : w.heap.size ≤ b) (hf : Fr b vn w4 w5 vn') : Below w.heap.size w w5 := by
  have hs := hb.size
  refine ⟨hf.os.trans hb.os, hf.tape.trans hb.tape, hf.output.trans hb.output, Nat.le_trans hb.size hf.size, fun k hk => ?_⟩
  rw [hf.block k (by omega) (by omega) (fun e => by have := hv k e; omega)]
  exact hb.block k hk

theorem refParse_long (s : ByteArray) (w : World) (h : 60 < s.size) (hm : s.size ≤ maxLen) :
    Calls Tryz.prog 93 #[.string s] w (ParsePost w s) := by
  unfold maxLen at hm
  have hc : checkS s = (1, 0) := by rw [checkS, if_pos h]
  have HC := hide hc
  clear hc
  go_enter Tryz.func93, Tryz.ntmps93
  go_wp2_with fail
  refine bodyPost_ret (v := .tuple #[.slice none 0 0, .int .i64 0, .int .i64 1, .int .i64 0]) (by simp [results, Tryz.results93, go_sem]) rfl ?_
  exact ⟨_, _, by rw [unhide HC], Below.refl _ _⟩

set_option maxRecDepth 100000 in
set_option maxHeartbeats 8000000 in
theorem refParse_short (s : ByteArray) (w : World) (h : s.size ≤ 60) :
    Calls Tryz.prog 93 #[.string s] w (ParsePost w s) := by
  have hs : s.size ≤ 1000 := by omega
  have HSY := hide (refSymbols_any s w hs)
  have hl : (symsFrom s 0).length ≤ 60 := by have := symsFrom_len s 0; omega
  have HCK : Hid (checkS s = checkEnd s.size (choiceS s.size (atomS s.size 8) (symsFrom s 0))) := by show _ = _; rw [checkS, if_neg (by omega)]
  obtain ⟨L, hL⟩ : ∃ L, symsFrom s 0 = L := ⟨_, rfl⟩
  rw [hL] at hl HSY HCK
  clear hL
  have hA : AtomOK s (atomS s.size 8) 0 := atomOK s 8 (by omega)
  have HA := hide hA
  clear hA
  go_enter Tryz.func93, Tryz.ntmps93
  go_wp2_with (first
    | (go_at_call 127; refine (unhide HSY).mono ?_; clear HSY; rintro x w1 ⟨v1, rfl, ho1, hb1⟩; have HO1 := hide (own_base ho1 (Nat.zero_le _)); have HB1 := hide hb1; obtain ⟨a1, c1, rfl, -⟩ := own_view ho1; clear ho1 hb1))
  have HS : Hid (St (w1.alloc (.cells #[.string s, .slice a1 L.length c1, .int .i64 0, .int .i64 0, .slice none 0 0, .int .i64 0, .int .i64 0] 209)) (.slice none 0 0) (w1.alloc (.cells #[.string s, .slice a1 L.length c1, .int .i64 0, .int .i64 0, .slice none 0 0, .int .i64 0, .int .i64 0] 209)) w1.heap.size s L (.slice a1 L.length c1) (.slice none 0 0) 0 0 [] 0 0) :=
    ⟨rs_new w1 s L _ (unhide HO1) (by omega) hs, Fr.refl _ _ _, Nat.zero_le _⟩
  refine (level0_st (unhide HA) HS (by intro z hz; simp at hz) (by simp)).mono ?_
  clear HS HA HO1
  rintro x w4 ⟨n, vn1, i1, e1, p1, more, rfl, HS, hi1, hm1, hok1, hn1, hen1, hy1⟩
  rw [List.drop_zero, List.nil_append] at *
  have HB4 := hide (below_fr (unhide HB1) (unhide HS).fr)
  have HBLE : Hid (w.heap.size ≤ w1.heap.size) := (unhide HB1).size
  have HVB : Hid (∀ k, vn1.ownBlock = some k → w.heap.size ≤ k) := fun k hk => by
    rcases (unhide HS).fr.nb k hk with h1 | h1
    · simp [Value.ownBlock] at h1
    · simp only [World.size_alloc] at h1; have := (unhide HB1).size; omega
  generalize w1.heap.size = b at HS HBLE
  have q1 := (unhide HS).rs.c1
  have q2 := (unhide HS).rs.c2
  have q5 := (unhide HS).rs.c5
  have q6 := (unhide HS).rs.c6
  have hi1le := (unhide HS).le
  clear hm1 hok1 hn1 HB1
  cases hch : choiceS s.size (atomS s.size 8) L with
  | error y =>
    rw [hch] at hen1 HCK
    obtain ⟨rfl, rfl, hy0⟩ := hen1
    have hy0a : (y.1 == 0) = false := by simpa using hy0
    have hy0b : (y.1 != 0) = true := by simpa using hy0
    clear hch hy0 hy1
    go_wp2_with fail
    go_quiet (fail)
    go_wp2_with fail
    go_quiet (fail)
    go_wp2_with fail
    refine bodyPost_ret (v := .tuple #[.slice none 0 0, .int .i64 0, .int .i64 y.1, .int .i64 y.2]) (by simp [results, Tryz.results93, go_sem]) rfl ?_
    exact ⟨_, _, by rw [unhide HCK]; rfl, ⟨(unhide HB4).os, (unhide HB4).tape, (unhide HB4).output, (unhide HB4).size, (unhide HB4).block⟩⟩
  | ok y =>
    obtain ⟨z, l1⟩ := y
    rw [hch] at hen1 HCK hy1
    obtain ⟨rfl, rfl, hd1⟩ := hen1
    obtain ⟨k1, k2, -⟩ := hy1 _ rfl
    have hd2 : L.drop i1 = l1 := hd1
    clear hch hy1 hd1
    by_cases hlt : i1 < L.length
    · have HC : Hid (checkS s = (2, plc s.size (L.drop i1))) := by
        show _ = _
        rw [unhide HCK, checkEnd, ← hd2, if_neg]
        rw [List.drop_eq_getElem_cons hlt]; simp [hd]
      have hltI : (i1 : Int) < (L.length : Int) := by omega
      have HSh := St.here HS
      clear HCK hd2 k1 k2
      go_wp2_with fail
      go_quiet (fail)
      have HSq : Hid (St w4 vn1 (w4.drewN nq) b s L (.slice a1 L.length c1) vn1 i1 0 more 0 0) := St.below HSh ⟨rfl, rfl, rfl, Nat.le_refl _, fun _ _ => rfl⟩
      have HBW := hide (show Below w.heap.size w w4 from unhide HB4)
      have hble : w.heap.size ≤ b := unhide HBLE
      go_wp2_with (go_at_call 140; refine (wrong_new HSq 2).mono ?_; clear q5 q6; rintro x w5 ⟨rfl, HS5⟩; have q5 := (unhide HS5).rs.c5; have q6 := (unhide HS5).rs.c6)
      go_quiet (fail)
      go_wp2_with fail
      refine bodyPost_ret (v := .tuple #[.slice none 0 0, .int .i64 0, .int .i64 2, .int .i64 (plc s.size (L.drop i1))]) (by simp [results, Tryz.results93, go_sem]) rfl ?_
      have hb5 := below_st (unhide HBW) (unhide HVB) hble (unhide HS5).fr
      exact ⟨_, _, by rw [unhide HC], ⟨hb5.os, hb5.tape, hb5.output, hb5.size, hb5.block⟩⟩
    · have hnil : L.drop i1 = [] := List.drop_eq_nil_of_le (by omega)
      have hge : decide ((i1 : Int) < (L.length : Int)) = false := by simp; omega
      have HC : Hid (checkS s = if 60 < z then (5, 0) else (0, 0)) := by
        show _ = _
        rw [unhide HCK, checkEnd, ← hd2, hnil, if_pos (by decide)]
      obtain ⟨g5, c5, rfl, hg5, hc5⟩ := node_cell HS k1
      have q4 := (unhide HS).rs.c4
      rw [k2] at hc5
      dsimp only at hc5
      clear HCK hd2 k2 hnil
      by_cases hz : 60 < z
      · go_wp2_with fail
        go_quiet (fail)
        go_wp2_with fail
        refine bodyPost_ret (v := .tuple #[.slice none 0 0, .int .i64 0, .int .i64 5, .int .i64 0]) (by simp [results, Tryz.results93, go_sem]) rfl ?_
        exact ⟨_, _, by rw [unhide HC, if_pos hz], ⟨(unhide HB4).os, (unhide HB4).tape, (unhide HB4).output, (unhide HB4).size, (unhide HB4).block⟩⟩
      · go_wp2_with fail
        go_quiet (fail)
        go_wp2_with fail
        refine bodyPost_ret (v := .tuple #[.slice (some ⟨g5, 0, none⟩) more.length c5, .int .i64 n, .int .i64 0, .int .i64 0]) (by simp [results, Tryz.results93, go_sem]) rfl ?_
        exact ⟨_, _, by rw [unhide HC, if_neg (by omega)], ⟨(unhide HB4).os, (unhide HB4).tape, (unhide HB4).output, (unhide HB4).size, (unhide HB4).block⟩⟩

theorem refParse_any (s : ByteArray) (w : World) (hm : s.size ≤ maxLen) : Calls Tryz.prog 93 #[.string s] w (ParsePost w s) := by
  by_cases h : 60 < s.size
  · exact refParse_long s w h hm
  · exact refParse_short s w (by omega)

/-- ████ the document's Check. ████ -/
theorem refCheck_any (s : ByteArray) (w : World) (hm : s.size ≤ maxLen) :
    Calls Tryz.prog 87 #[.string s] w fun x w' => x = .returned (.tuple #[.int .i64 (checkS s).1, .int .i64 (checkS s).2]) ∧ Below w.heap.size w w' := by
  have HP := hide (refParse_any s w hm)
  go_enter Tryz.func87, Tryz.ntmps87
  go_wp2_with (go_at_call 93; refine (unhide HP).mono ?_; clear HP; rintro x w1 ⟨v, n, rfl, hb⟩; have HB := hide hb; clear hb)
  go_ret2
  exact ⟨rfl, unhide HB⟩
end Go.Proofs.YtfolanohokflkaaGreatDoor
