import Derived.Test.YtfolanohokflkaaGreatDoorRefV
import Derived.WalkKit
import Derived.WalkSpells
import Derived.WalkLawsBesides
namespace Go.Proofs.YtfolanohokflkaaGreatDoor
open Go.RowKit

def endList : ByteArray := ⟨#[124, 38, 41]⟩
theorem end_among (c : Int) (h : 0 ≤ c) : amongL c endList.data.toList = rowEnd c := by
  rw [Bool.eq_iff_iff]; simp [amongL, endList, rowEnd]; omega

section
variable {w0 w : World} {v0 : Value} {b : Nat} {s : ByteArray} {L : List Sy} {vs vn : Value} {i : Nat} {d : Int} {szs : List Int} {e p : Int}

/-- the group of what was gathered: its answer is a part of the size that the reading has come to. -/
theorem group_st {v : Value} {ns : List Nat} (h : Hid (St w0 v0 w b s L vs vn i d szs e p)) (kd : Int) (ho : Hid (OfOK w0 w vn v ns)) (hall : Hid ((∀ n ∈ ns, n < szs.length) ∨ ∃ m, ns = [m] ∧ m = 0)) (hok : Hid (SzOk szs)) (hsz : szs.length ≤ 10000) (hnl : ns.length ≤ 1000) :
    Calls Tryz.prog 208 #[.pointer (some ⟨b, 0, none⟩), .int .i64 kd, v] w fun x w' => ∃ (n : Nat) (vn' : Value) (more : List Int), x = .returned (.int .i64 n) ∧ Hid (St w0 v0 w' b s L vs vn' i d (szs ++ more) e p) ∧ more.length ≤ 1 ∧ Hid (SzOk (szs ++ more) ∧ (n < (szs ++ more).length ∨ n = 0) ∧ ((∀ n ∈ ns, n < szs.length) → n < (szs ++ more).length ∧ (szs ++ more).getD n 0 = zrun szs ns)) := by
  have hov := own_base (unhide ho).own (Nat.zero_le _)
  by_cases h1 : ns.length = 1
  · obtain ⟨m, rfl⟩ : ∃ m, ns = [m] := by
      match ns, h1 with
      | [m], _ => exact ⟨m, rfl⟩
    refine (group_one h kd v m hov).mono ?_
    rintro x w' ⟨rfl, HS⟩
    refine ⟨m, vn, [], rfl, by rw [List.append_nil]; exact HS, by simp, ?_⟩
    show _ ∧ _ ∧ _
    rw [List.append_nil]
    refine ⟨unhide hok, ?_, fun h => ⟨h m (by simp), rfl⟩⟩
    rcases unhide hall with h | ⟨m', hm, h0⟩
    · exact .inl (h m (by simp))
    · cases hm; exact .inr h0
  · have hall' : ∀ n ∈ ns, n < szs.length := by
      rcases unhide hall with h | ⟨m', hm, h0⟩
      · exact h
      · rw [hm] at h1; exact absurd rfl h1
    refine (group_many h kd v ns hov h1 hall' (unhide hok) hsz hnl).mono ?_
    rintro x w' ⟨rfl, vn', HS⟩
    have hb := zrun_b (unhide hok) ns
    rw [gsize_zrun (unhide hok) ns h1] at HS
    refine ⟨szs.length, vn', [zrun szs ns], rfl, HS, by simp, (unhide hok).snoc hb.1 hb.2, .inl (by simp), fun _ => ⟨by simp, by simp [List.getD]⟩⟩

/-- gathered so far, and all is right. -/
def Gath (w0 : World) (v0 : Value) (w : World) (b : Nat) (s : ByteArray) (L : List Sy) (vs vn v : Value) (i j : Nat) (d : Int) (szs more : List Int) (ns : List Nat) (e p : Int) : Prop :=
  Hid (St w0 v0 w b s L vs vn j d (szs ++ more) e p) ∧ Hid (OfOK w0 w vn v ns) ∧ i ≤ j ∧ more.length ≤ 4 * (j - i) ∧ SzOk (szs ++ more) ∧ ns.length ≤ j - i + 1

def RowRel (R : Res Int) (at_ : List Sy → Res Int) (w0 : World) (v0 : Value) (wr : World) (b : Nat) (s : ByteArray) (L : List Sy) (vs : Value) (i : Nat) (d : Int) (szs : List Int) (v : Value) : Prop :=
  ∃ (vn : Value) (j : Nat) (more : List Int) (ns : List Nat) (e p : Int), Gath w0 v0 wr b s L vs vn v i j d szs more ns e p ∧
    ((e = 0 ∧ p = 0 ∧ ns.length ≤ j - i ∧ (∀ n ∈ ns, n < (szs ++ more).length) ∧ ((ns = [] ∧ j = i ∧ rowS s.size at_ (L.drop j) = R) ∨ (ns ≠ [] ∧ ∃ f, rowLoopS s.size at_ f (zrun (szs ++ more) ns) (L.drop j) = R ∧ (L.drop j).length < f))) ∨
     (¬ e = 0 ∧ R = .error (e, p) ∧ ((∀ n ∈ ns, n < (szs ++ more).length) ∨ ∃ m, ns = [m] ∧ m = 0)))
def measR (L : List Sy) (b : Nat) (w : World) : Nat := match w.cell? ⟨b, 5, none⟩ with
  | some (.int _ 0) => L.length - cellN w b + 1
  | _ => 0
theorem measR_ok {L : List Sy} {b j : Nat} {w : World} (h5 : w.cell? ⟨b, 5, none⟩ = some (.int .i64 0)) (h2 : w.cell? ⟨b, 2, none⟩ = some (.int .i64 j)) : measR L b w = L.length - j + 1 := by
  rw [measR, h5, cellN_eq h2]; rfl
theorem measR_err {L : List Sy} {b : Nat} {w : World} {e : Int} (h5 : w.cell? ⟨b, 5, none⟩ = some (.int .i64 e)) (he : ¬ e = 0) : measR L b w = 0 := by
  rw [measR, h5]
  split
  · rename_i h; injection h with h; injection h with h1 h2; exact absurd h2 he
  · rfl

/-- one item more, of a row. -/
theorem row_next {R : Res Int} {at_ : List Sy → Res Int} {j j2 n : Nat} {more m2 : List Int} {ns : List Nat} {z : Int} {l2 : List Sy}
    (hR : (ns = [] ∧ j = i ∧ rowS s.size at_ (L.drop j) = R) ∨ (ns ≠ [] ∧ ∃ f, rowLoopS s.size at_ f (zrun (szs ++ more) ns) (L.drop j) = R ∧ (L.drop j).length < f)) (hre : ¬ rowEnd (hd (L.drop j)) = true) (hit : itemS s.size at_ ((L.drop j).length + 1) (L.drop j) = .ok (z, l2))
    (hd2 : L.drop j2 = l2) (hj2 : j + 1 ≤ j2) (hall : ∀ n ∈ ns, n < (szs ++ more).length) (hz : (szs ++ more ++ m2).getD n 0 = z) (hlej : j2 ≤ L.length) :
    ∃ f, rowLoopS s.size at_ f (zrun (szs ++ more ++ m2) (ns ++ [n])) (L.drop j2) = R ∧ (L.drop j2).length < f := by
  rcases hR with ⟨rfl, rfl, hR⟩ | ⟨hne, f, hR, hf⟩
  · refine ⟨l2.length + 1, ?_, by rw [hd2]; exact Nat.lt_succ_self _⟩
    rw [rowS, if_neg hre, hit] at hR
    rw [hd2, List.nil_append, zrun, zgo, hz]; exact hR
  · obtain ⟨f, rfl⟩ : ∃ k, f = k + 1 := ⟨f - 1, by omega⟩
    rw [rowLoopS, if_neg hre, hit] at hR
    refine ⟨f, ?_, by simp only [List.length_drop] at hf ⊢; omega⟩
    rw [hd2, zrun_snoc _ _ _ hne, zrun_ext _ _ _ hall, hz]; exact hR

theorem row_err {R : Res Int} {at_ : List Sy → Res Int} {j : Nat} {sz : List Int} {ns : List Nat} {y : Int × Int}
    (hR : (ns = [] ∧ j = i ∧ rowS s.size at_ (L.drop j) = R) ∨ (ns ≠ [] ∧ ∃ f, rowLoopS s.size at_ f (zrun sz ns) (L.drop j) = R ∧ (L.drop j).length < f)) (hre : ¬ rowEnd (hd (L.drop j)) = true) (hit : itemS s.size at_ ((L.drop j).length + 1) (L.drop j) = .error y) : R = .error (y.1, y.2) := by
  rcases hR with ⟨rfl, rfl, hR⟩ | ⟨hne, f, hR, hf⟩
  · rw [rowS, if_neg hre, hit] at hR; exact hR.symm
  · obtain ⟨f, rfl⟩ : ∃ k, f = k + 1 := ⟨f - 1, by omega⟩
    rw [rowLoopS, if_neg hre, hit] at hR; exact hR.symm
theorem row_end {R : Res Int} {at_ : List Sy → Res Int} {j : Nat} {sz : List Int} {ns : List Nat}
    (hR : (ns = [] ∧ j = i ∧ rowS s.size at_ (L.drop j) = R) ∨ (ns ≠ [] ∧ ∃ f, rowLoopS s.size at_ f (zrun sz ns) (L.drop j) = R ∧ (L.drop j).length < f)) (hre : rowEnd (hd (L.drop j)) = true) : R = .ok (zrun sz ns, L.drop j) := by
  rcases hR with ⟨rfl, rfl, hR⟩ | ⟨hne, f, hR, hf⟩
  · rw [rowS, if_pos hre] at hR; exact hR.symm
  · obtain ⟨f, rfl⟩ : ∃ k, f = k + 1 := ⟨f - 1, by omega⟩
    rw [rowLoopS, if_pos hre] at hR; exact hR.symm
theorem all_ok {sz m2 : List Int} {ns : List Nat} {n : Nat} (h : ∀ n ∈ ns, n < sz.length) (hn : n < (sz ++ m2).length) : ∀ k ∈ ns ++ [n], k < (sz ++ m2).length := by
  intro k hk
  rcases List.mem_append.1 hk with h1 | h1
  · have := h k h1; simp only [List.length_append]; omega
  · simp at h1; subst h1; exact hn
theorem all_err {sz m2 : List Int} {ns : List Nat} {n : Nat} (h : ∀ n ∈ ns, n < sz.length) (hn : n < (sz ++ m2).length ∨ n = 0) : (∀ k ∈ ns ++ [n], k < (sz ++ m2).length) ∨ ∃ m, ns ++ [n] = [m] ∧ m = 0 := by
  rcases hn with hn | rfl
  · exact .inl (all_ok h hn)
  · cases ns with
    | nil => exact .inr ⟨0, rfl, rfl⟩
    | cons m r => exact .inl (all_ok h (by have := h m (by simp); simp only [List.length_append]; omega))
theorem meas_ok {R : Res Int} {j j4 : Nat} {p4 : Int} {P Q : Int × List Sy → Prop} (hen : Ends R L j4 0 p4) (hy : ∀ y, R = .ok y → P y ∧ Q y ∧ j + 1 ≤ j4) : j + 1 ≤ j4 := by
  cases R with
  | error y => exact absurd hen.1.symm hen.2.2
  | ok y => exact (hy y rfl).2.2
theorem fin_ok {kk0 : Nat} {w6 : World} {vn6 : Value} {R : Res Int} {j n6 : Nat} {more m6 : List Int} {ns : List Nat} (H0 : Hid (St w0 v0 w b s L vs vn i d szs 0 0)) (HS6 : Hid (St w vn w6 b s L vs vn6 j d (szs ++ more ++ m6) 0 0)) (hR : R = .ok (zrun (szs ++ more) ns, L.drop j)) (hij : i ≤ j) (hm : more.length ≤ 4 * (j - i) + kk0) (hm6 : m6.length ≤ 1)
    (hp : SzOk (szs ++ more ++ m6) ∧ (n6 < (szs ++ more ++ m6).length ∨ n6 = 0) ∧ ((∀ n ∈ ns, n < (szs ++ more).length) → n6 < (szs ++ more ++ m6).length ∧ (szs ++ more ++ m6).getD n6 0 = zrun (szs ++ more) ns)) (hall : ∀ n ∈ ns, n < (szs ++ more).length) (kk : Nat) (hkk : kk0 + 1 ≤ kk) :
    NodePost kk 0 R w0 v0 b s L vs i d szs (.returned (.int .i64 n6)) w6 := by
  rw [List.append_assoc] at HS6 hp
  refine ⟨n6, vn6, j, 0, 0, more ++ m6, rfl, St.comp H0 HS6, hij, by simp only [List.length_append]; omega, hp.1, hp.2.1, by rw [hR]; exact ends_ok _ _ _, ?_⟩
  intro y hy
  rw [hR] at hy; cases hy
  exact ⟨(hp.2.2 hall).1, (hp.2.2 hall).2, hij⟩
theorem fin_err {kk0 : Nat} {w6 : World} {vn6 : Value} {R : Res Int} {j n6 : Nat} {more m6 : List Int} {ns : List Nat} {e p : Int} (H0 : Hid (St w0 v0 w b s L vs vn i d szs 0 0)) (HS6 : Hid (St w vn w6 b s L vs vn6 j d (szs ++ more ++ m6) e p)) (hR : R = .error (e, p)) (he : ¬ e = 0) (hij : i ≤ j) (hm : more.length ≤ 4 * (j - i) + kk0) (hm6 : m6.length ≤ 1)
    (hp : SzOk (szs ++ more ++ m6) ∧ (n6 < (szs ++ more ++ m6).length ∨ n6 = 0) ∧ ((∀ n ∈ ns, n < (szs ++ more).length) → n6 < (szs ++ more ++ m6).length ∧ (szs ++ more ++ m6).getD n6 0 = zrun (szs ++ more) ns)) (kk pr : Nat) (hkk : kk0 + 1 ≤ kk) :
    NodePost kk pr R w0 v0 b s L vs i d szs (.returned (.int .i64 n6)) w6 := by
  rw [List.append_assoc] at HS6 hp
  refine ⟨n6, vn6, j, e, p, more ++ m6, rfl, St.comp H0 HS6, hij, by simp only [List.length_append]; omega, hp.1, hp.2.1, by rw [hR]; exact ⟨rfl, rfl, he⟩, ?_⟩
  intro y hy
  rw [hR] at hy; cases hy

set_option maxRecDepth 100000 in
set_option maxHeartbeats 16000000 in
theorem level2_st {at_ : List Sy → Res Int} (HA : AtomOK s at_ d) (h : Hid (St w0 v0 w b s L vs vn i d szs 0 0)) (hok : SzOk szs) (hsz : szs.length ≤ 4 * i + 10) :
    Calls Tryz.prog 139 #[.pointer (some ⟨b, 0, none⟩), .int .i64 2] w (NodePost 1 0 (rowS s.size at_ (L.drop i)) w0 v0 b s L vs i d szs) := by
  have hlen := (unhide h).rs.len
  have hble : b < w.heap.size := (unhide h).rs.lt
  have hvs : ∀ k, vs.ownBlock = some k → k < w.heap.size := fun k hk => ((unhide h).rs.syms.lt k hk).2
  have HVS := hide hvs
  obtain ⟨R, hR⟩ : ∃ R, rowS s.size at_ (L.drop i) = R := ⟨_, rfl⟩
  rw [hR]
  have HIT := hide (fun (w1 : World) (v1 : Value) (w2 : World) (vn : Value) (j : Nat) (szs : List Int) hs hok hsz => item_st (L := L) (b := b) (vs := vs) HA ((L.drop j).length + 1) w1 v1 w2 vn j szs (Nat.lt_succ_self _) hs hok hsz)
  have HS0 := h
  have HRel : Hid (RowRel R at_ w vn w b s L vs i d szs (.slice none 0 0)) := ⟨vn, i, [], [], 0, 0, ⟨by rw [List.append_nil]; exact St.here h, OfOK.nil _ _ _, Nat.le_refl _, by simp, by rw [List.append_nil]; exact hok, by simp⟩, .inl ⟨rfl, rfl, by simp, by simp, .inl ⟨rfl, rfl, hR⟩⟩⟩
  clear hR h HA hvs hok
  go_enter Tryz.func139, Tryz.ntmps139
  go_wp2_with fail
  go_loopw [5] (fun v wr => Hid (RowRel R at_ w vn wr b s L vs i d szs v)) (fun _ wr => measR L b wr)
  case atStart => exact HRel
  case round =>
    clear HRel
    obtain ⟨vn2, j, more, ns, e, p, ⟨HS, HO, hij, hm, hok2, hnl⟩, hcase⟩ := unhide hrel
    have hjle := (unhide HS).le
    have hs2 : (szs ++ more).length ≤ 4 * j + 10 := by simp only [List.length_append]; omega
    rcases hcase with ⟨rfl, rfl, hnl2, hall, hRR⟩ | ⟨he, hRe, hall⟩
    · have HRR := hide hRR
      have HALL0 := hide hall
      have HALL : Hid ((∀ n ∈ ns, n < (szs ++ more).length) ∨ ∃ m, ns = [m] ∧ m = 0) := .inl hall
      have HOK := hide hok2
      have hslen : (szs ++ more).length ≤ 10000 := by omega
      have HSl := St.here HS
      have HL := look_at (w0 := wr) (v0 := vn2) (b := b) (s := s) (L := L) (vs := vs) (vn := vn2) (d := d) (szs := szs ++ more) (j := j) rfl
      have HME : Hid (measR L b wr = L.length - j + 1) := measR_ok (unhide HS).rs.c5 (unhide HS).rs.c2
      have hge := hd_ge (L.drop j)
      clear hRR hall hok2 hrel
      cases hre : rowEnd (hd (L.drop j))
      · have hc0 : 0 ≤ hd (L.drop j) := by simp [rowEnd] at hre; omega
        have HAM := hide (fun w1 => refAmong_any (hd (L.drop j)) endList w1 (by unfold maxLen; decide))
        rw [end_among _ hc0, hre] at HAM
        have HRE : Hid (¬ rowEnd (hd (L.drop j)) = true) := by show ¬ _; rw [hre]; decide
        clear hre
        generalize hcg : hd (L.drop j) = c at HL HAM hc0
        clear hcg hge
        go_wp2_with (first
          | (go_at_call 205; refine (unhide HL _ HSl).mono ?_; clear HSl; rintro x w3 ⟨rfl, HSl⟩)
          | (go_at_call 206; refine (unhide HAM _).mono ?_; rintro x w4 ⟨rfl, rfl⟩)
          | (go_at_call 207; refine (unhide HIT wr vn2 w3 vn2 j (szs ++ more) HSl (unhide HOK) hs2).mono ?_; rintro x w4 ⟨n4, vn4, j4, e4, p4, m4, rfl, HS4, hj4, hm4, hok4, hn4, hen4, hy4⟩; have HS4c := St.comp HS HS4; have HO4 := OfOK.fr HO hble (unhide HS4).fr; have HQ4 := hide (show m4.length ≤ 4 * (j4 - j) + 0 ∧ SzOk (szs ++ more ++ m4) ∧ (n4 < (szs ++ more ++ m4).length ∨ n4 = 0) ∧ Ends (itemS s.size at_ ((L.drop j).length + 1) (L.drop j)) L j4 e4 p4 ∧ (∀ y, itemS s.size at_ ((L.drop j).length + 1) (L.drop j) = .ok y → n4 < (szs ++ more ++ m4).length ∧ (szs ++ more ++ m4).getD n4 0 = y.1 ∧ j + 1 ≤ j4) from ⟨hm4, hok4, hn4, hen4, hy4⟩); clear hm4 hok4 hn4 hen4 hy4 HIT)
          | (at_builtin; refine app_of ns _ n4 (.tmp 26) (.tmp 28) rfl rfl rfl rfl HS4c hble (unhide HVS) HO4 (by omega) ?_; intro v5 w5 HS5 HO5))
        obtain ⟨hm4, hok4, hn4, hen4, hy4⟩ := unhide HQ4
        have hj4le := (unhide HS4).le
        go_roundw
        case rel =>
          rw [List.append_assoc] at HS5
          refine ⟨vn4, j4, more ++ m4, ns ++ [n4], e4, p4, ⟨HS5, HO5, by omega, by simp only [List.length_append]; omega, by rw [← List.append_assoc]; exact hok4, by simp only [List.length_append, List.length_cons, List.length_nil]; omega⟩, ?_⟩
          cases hit : itemS s.size at_ ((L.drop j).length + 1) (L.drop j) with
          | error y =>
            rw [hit] at hen4
            obtain ⟨rfl, rfl, hy0⟩ := hen4
            refine .inr ⟨hy0, row_err (unhide HRR) (unhide HRE) hit, ?_⟩
            rw [← List.append_assoc]
            exact all_err (unhide HALL0) hn4
          | ok y =>
            rw [hit] at hen4 hy4
            obtain ⟨rfl, rfl, hd4⟩ := hen4
            obtain ⟨k1, k2, k3⟩ := hy4 y rfl
            refine .inl ⟨rfl, rfl, by simp only [List.length_append, List.length_cons, List.length_nil]; omega, ?_, .inr ⟨by simp, ?_⟩⟩
            · rw [← List.append_assoc]; exact all_ok (unhide HALL0) k1
            · rw [← List.append_assoc]
              exact row_next (unhide HRR) (unhide HRE) hit hd4 k3 (unhide HALL0) k2 hj4le
        case measure =>
          rw [unhide HME]
          by_cases he4 : e4 = 0
          · subst he4
            rw [measR_ok (unhide HS5).rs.c5 (unhide HS5).rs.c2]
            have := meas_ok hen4 hy4
            omega
          · rw [measR_err (unhide HS5).rs.c5 he4]; omega
      · have HF : Hid (R = .ok (zrun (szs ++ more) ns, L.drop j)) := row_end (unhide HRR) hre
        by_cases hc0 : 0 ≤ hd (L.drop j)
        · have HAM := hide (fun w1 => refAmong_any (hd (L.drop j)) endList w1 (by unfold maxLen; decide))
          rw [end_among _ hc0, hre] at HAM
          clear hre
          generalize hcg : hd (L.drop j) = c at HL HAM hc0
          clear hcg hge
          go_wp2_with (first
            | (go_at_call 205; refine (unhide HL _ HSl).mono ?_; clear HSl; rintro x w3 ⟨rfl, HSl⟩)
            | (go_at_call 206; refine (unhide HAM _).mono ?_; rintro x w4 ⟨rfl, rfl⟩)
            | (go_at_call 208; refine (group_st (St.comp HS HSl) 1 (OfOK.fr HO hble (unhide HSl).fr) HALL HOK (by omega) (by omega)).mono ?_; rintro x w6 ⟨n6, vn6, m6, rfl, HS6, hm6, HP6⟩))
          go_ret
          exact fin_ok (kk0 := 0) HS0 HS6 (unhide HF) hij hm hm6 (unhide HP6) (unhide HALL0) 1 (by omega)
        · have hc1 : hd (L.drop j) = -1 := by omega
          rw [hc1] at HL
          clear hre hc0 hc1 hge
          go_wp2_with (first
            | (go_at_call 205; refine (unhide HL _ HSl).mono ?_; clear HSl; rintro x w3 ⟨rfl, HSl⟩)
            | (go_at_call 208; refine (group_st (St.comp HS HSl) 1 (OfOK.fr HO hble (unhide HSl).fr) HALL HOK (by omega) (by omega)).mono ?_; rintro x w6 ⟨n6, vn6, m6, rfl, HS6, hm6, HP6⟩))
          go_ret
          exact fin_ok (kk0 := 0) HS0 HS6 (unhide HF) hij hm hm6 (unhide HP6) (unhide HALL0) 1 (by omega)
    · have HALL := hide hall
      have HOK := hide hok2
      have hslen : (szs ++ more).length ≤ 10000 := by omega
      have HSl := St.here HS
      have HE := hide he
      have HL := look_err (w0 := wr) (v0 := vn2) (b := b) (s := s) (L := L) (vs := vs) (vn := vn2) (d := d) (szs := szs ++ more) (j := j) (p := p) HE
      have HF := hide hRe
      clear hall hok2 hrel hRe he
      go_wp2_with (first
        | (go_at_call 205; refine (unhide HL _ HSl).mono ?_; clear HSl; rintro x w3 ⟨rfl, HSl⟩)
        | (go_at_call 208; refine (group_st (St.comp HS HSl) 1 (OfOK.fr HO hble (unhide HSl).fr) HALL HOK (by omega) (by omega)).mono ?_; rintro x w6 ⟨n6, vn6, m6, rfl, HS6, hm6, HP6⟩))
      go_ret
      exact fin_err (kk0 := 0) HS0 HS6 (unhide HF) (unhide HE) hij hm hm6 (unhide HP6) 1 0 (by omega)
end
end Go.Proofs.YtfolanohokflkaaGreatDoor
