import Derived.Test.YtfolanohokflkabGreatDoorTermA
/-
  The texts of terms: no two are the same, none is the beginning of another; their order: no program, no kit.
-/
namespace Go.Proofs.YtfolanohokflkabGreatDoor
open Tm (eps)

def digV (c : UInt8) : Nat := if 97 ≤ c.toNat then c.toNat - 87 else c.toNat - 48
def isHexB (c : UInt8) : Prop := (48 ≤ c.toNat ∧ c.toNat ≤ 57) ∨ (97 ≤ c.toNat ∧ c.toNat ≤ 102)
theorem hexD_hex {d : Nat} (h : d < 16) : isHexB (hexD d) := by
  unfold isHexB hexD
  split
  · rw [UInt8.toNat_ofNat_of_lt' (by show _ < 256; omega)]; omega
  · rw [UInt8.toNat_ofNat_of_lt' (by show _ < 256; omega)]; omega
theorem hexD_val {d : Nat} (h : d < 16) : digV (hexD d) = d := by
  unfold digV hexD
  split
  · rw [UInt8.toNat_ofNat_of_lt' (by show _ < 256; omega), if_neg (by omega)]; omega
  · rw [UInt8.toNat_ofNat_of_lt' (by show _ < 256; omega), if_pos (by omega)]; omega
def hexVal (v : Nat) (l : List UInt8) : Nat := l.foldl (fun n c => 16 * n + digV c) v
theorem hexF_val : ∀ (f n : Nat) (acc : List UInt8), n < f → hexVal 0 (hexF f n acc) = hexVal n acc
  | 0, _, _, h => absurd h (Nat.not_lt_zero _)
  | f + 1, n, acc, h => by
    have hd := hexD_val (d := n % 16) (Nat.mod_lt _ (by omega))
    rw [hexF]
    split
    · show hexVal (16 * 0 + digV (hexD (n % 16))) acc = _
      rw [hd]; congr 1; omega
    · rw [hexF_val f (n / 16) _ (by omega)]
      show hexVal (16 * (n / 16) + digV (hexD (n % 16))) acc = _
      rw [hd]; congr 1; omega
theorem hexT_val (n : Nat) : hexVal 0 (hexT n) = n := hexF_val (n + 1) n [] (Nat.lt_succ_self n)
theorem hexF_hex : ∀ (f n : Nat) (acc : List UInt8), (∀ c ∈ acc, isHexB c) → ∀ c ∈ hexF f n acc, isHexB c
  | 0, _, _, h => h
  | f + 1, n, acc, h => by
    have hd := hexD_hex (d := n % 16) (Nat.mod_lt _ (by omega))
    rw [hexF]
    split
    · intro c hc
      rcases List.mem_cons.1 hc with rfl | hc
      · exact hd
      · exact h c hc
    · refine hexF_hex f _ _ fun c hc => ?_
      rcases List.mem_cons.1 hc with rfl | hc
      · exact hd
      · exact h c hc
theorem hexT_hex (n : Nat) : ∀ c ∈ hexT n, isHexB c := hexF_hex _ _ _ (by simp)
theorem hexF_ne : ∀ (f n : Nat) (acc : List UInt8), 0 < f ∨ acc ≠ [] → hexF f n acc ≠ []
  | 0, _, acc, h => by rw [hexF]; exact h.resolve_left (by omega)
  | f + 1, n, acc, _ => by
    rw [hexF]
    split
    · simp
    · exact hexF_ne f _ _ (.inr (by simp))
theorem hexT_ne (n : Nat) : hexT n ≠ [] := hexF_ne _ _ _ (.inl (by omega))
theorem hexT_inj {m n : Nat} (h : hexT m = hexT n) : m = n := by rw [← hexT_val m, ← hexT_val n, h]

theorem run_uniq {d : UInt8} : ∀ {u v x y : List UInt8}, d ∉ u → d ∉ v → u ++ d :: x = v ++ d :: y → u = v ∧ x = y
  | [], [], x, y, _, _, h => by simpa using h
  | [], b :: v, x, y, _, hv, h => by
    simp only [List.nil_append, List.cons_append, List.cons.injEq] at h
    exact absurd (by rw [h.1]; exact List.mem_cons_self ..) hv
  | a :: u, [], x, y, hu, _, h => by
    simp only [List.nil_append, List.cons_append, List.cons.injEq] at h
    exact absurd (by rw [← h.1]; exact List.mem_cons_self ..) hu
  | a :: u, b :: v, x, y, hu, hv, h => by
    simp only [List.cons_append, List.cons.injEq] at h
    obtain ⟨e1, e2⟩ := run_uniq (fun hm => hu (List.mem_cons_of_mem _ hm)) (fun hm => hv (List.mem_cons_of_mem _ hm)) h.2
    exact ⟨by rw [h.1, e1], e2⟩
theorem not_hex {d : UInt8} {n : Nat} (h : d = 45 ∨ d = 44 ∨ d = 93 ∨ d = 59) : d ∉ hexT n := by
  intro hm
  have := hexT_hex n d hm
  unfold isHexB at this
  rcases h with rfl | rfl | rfl | rfl <;> simp at this
theorem spansT_inj : ∀ {a b : Spans} {x y : List UInt8}, Pos a → Pos b → spansT a ++ 93 :: x = spansT b ++ 93 :: y → a = b ∧ x = y
  | [], [], x, y, _, _, h => by simpa [spansT] using h
  | [], q :: b, x, y, _, _, h => by
    exfalso
    rw [spansT, spansT] at h
    obtain ⟨c, r, hc⟩ := List.exists_cons_of_ne_nil (hexT_ne q.1.toNat)
    have h1 := hexT_hex q.1.toNat c (by rw [hc]; exact List.mem_cons_self ..)
    rw [hc] at h
    simp only [List.nil_append, List.cons_append, List.cons.injEq] at h
    rw [← h.1] at h1
    unfold isHexB at h1; simp at h1
  | p :: a, [], x, y, _, _, h => by
    exfalso
    rw [spansT, spansT] at h
    obtain ⟨c, r, hc⟩ := List.exists_cons_of_ne_nil (hexT_ne p.1.toNat)
    have h1 := hexT_hex p.1.toNat c (by rw [hc]; exact List.mem_cons_self ..)
    rw [hc] at h
    simp only [List.nil_append, List.cons_append, List.cons.injEq] at h
    rw [h.1] at h1
    unfold isHexB at h1; simp at h1
  | p :: a, q :: b, x, y, ha, hb, h => by
    rw [spansT, spansT] at h
    simp only [List.append_assoc, List.cons_append] at h
    obtain ⟨e1, h⟩ := run_uniq (not_hex (.inl rfl)) (not_hex (.inl rfl)) h
    obtain ⟨e2, h⟩ := run_uniq (not_hex (.inr (.inl rfl))) (not_hex (.inr (.inl rfl))) h
    obtain ⟨e3, e4⟩ := spansT_inj (fun z hz => ha z (List.mem_cons_of_mem _ hz)) (fun z hz => hb z (List.mem_cons_of_mem _ hz)) h
    have ep := hexT_inj e1
    have eq := hexT_inj e2
    have p0 := ha p (List.mem_cons_self ..)
    have q0 := hb q (List.mem_cons_self ..)
    refine ⟨?_, e4⟩
    rw [e3, show p = q from Prod.ext (by omega) (by omega)]
theorem sign_inj {k k' : Bool} (h : sign k = sign k') : k = k' := by cases k <;> cases k' <;> simp [sign] at h ⊢
theorem sign_ne (k : Bool) : sign k ≠ 91 ∧ sign k ≠ 101 ∧ sign k ≠ 46 ∧ sign k ≠ 42 ∧ sign k ≠ 126 ∧ sign k ≠ 59 := by cases k <;> decide
/-- the first sign of a term's text. -/
theorem rend_first : ∀ (m : Option Bool) (t : Tm), ∃ c r, rendF m t = c :: r ∧ c ≠ 59
  | _, .set l => ⟨91, _, rfl, by decide⟩
  | _, .eps => ⟨101, _, rfl, by decide⟩
  | _, .chain a b => ⟨46, _, rfl, by decide⟩
  | _, .star a => ⟨42, _, rfl, by decide⟩
  | _, .not a => ⟨126, _, rfl, by decide⟩
  | m, .grp k a b => by
    rw [rendF]
    split
    · obtain ⟨c, r, h, hc⟩ := rend_first Option.none a
      exact ⟨c, r ++ rendF (some k) b, by rw [h]; rfl, hc⟩
    · exact ⟨sign k, _, rfl, (sign_ne k).2.2.2.2.2⟩
def notGrp (k : Bool) : Tm → Bool
  | .grp k' _ _ => k' != k
  | _ => true
theorem rend_some {k : Bool} : ∀ {t : Tm}, notGrp k t = true → rendF (some k) t = rend t
  | .set _, _ => rfl
  | .eps, _ => rfl
  | .chain _ _, _ => rfl
  | .star _, _ => rfl
  | .not _, _ => rfl
  | .grp k' a b, h => by
    have : k' ≠ k := by simpa [notGrp] using h
    rw [rend, rendF, rendF, if_neg (by simpa using fun e => this e.symm), if_neg (by simp)]
theorem rend_rest (k : Bool) (a b : Tm) : rendF (some k) (.grp k a b) = rend a ++ rendF (some k) b := by rw [rendF, if_pos rfl]
theorem rend_grp (k : Bool) (a b : Tm) : rend (.grp k a b) = sign k :: (rend a ++ (rendF (some k) b ++ [59])) := by rw [rend, rendF, if_neg (by simp)]
theorem grp_or (k : Bool) (t : Tm) : (∃ a b, t = .grp k a b) ∨ notGrp k t = true := by
  cases t with
  | grp k' a b =>
    by_cases h : k' = k
    · exact .inl ⟨a, b, by rw [h]⟩
    · exact .inr (by simpa [notGrp] using h)
  | _ => exact .inr rfl
theorem rend_rest_inj {k : Bool} {a : Tm} (P : ∀ (b : Tm) (x y : List UInt8), OkT b → rend a ++ x = rend b ++ y → a = b ∧ x = y)
    (Q : ∀ a1 a2, a = .grp k a1 a2 → (∀ (b : Tm) (x y : List UInt8), OkT b → rend a1 ++ x = rend b ++ y → a1 = b ∧ x = y) ∧ ∀ (b : Tm) (x y : List UInt8), OkT b → rendF (some k) a2 ++ 59 :: x = rendF (some k) b ++ 59 :: y → a2 = b ∧ x = y)
    (b : Tm) (x y : List UInt8) (hb : OkT b) (h : rendF (some k) a ++ 59 :: x = rendF (some k) b ++ 59 :: y) : a = b ∧ x = y := by
  rcases grp_or k a with ⟨a1, a2, rfl⟩ | ha
  · obtain ⟨P1, Q2⟩ := Q a1 a2 rfl
    rw [rend_rest, List.append_assoc] at h
    rcases grp_or k b with ⟨b1, b2, rfl⟩ | hb'
    · rw [rend_rest, List.append_assoc] at h
      obtain ⟨e1, h⟩ := P1 b1 _ _ hb.1 h
      obtain ⟨e2, h⟩ := Q2 b2 _ _ hb.2 h
      exact ⟨by rw [e1, e2], h⟩
    · rw [rend_some hb'] at h
      obtain ⟨e1, h⟩ := P1 b _ _ hb h
      obtain ⟨c, r, hc, hn⟩ := rend_first (some k) a2
      rw [hc] at h
      simp only [List.cons_append, List.cons.injEq] at h
      exact absurd h.1 hn
  · rw [rend_some ha] at h
    rcases grp_or k b with ⟨b1, b2, rfl⟩ | hb'
    · rw [rend_rest, List.append_assoc] at h
      obtain ⟨e1, h⟩ := P b1 _ _ hb.1 h
      obtain ⟨c, r, hc, hn⟩ := rend_first (some k) b2
      rw [hc] at h
      simp only [List.cons_append, List.cons.injEq] at h
      exact absurd h.1.symm hn
    · rw [rend_some hb'] at h
      obtain ⟨e1, h⟩ := P b _ _ hb h
      simp only [List.cons.injEq, true_and] at h
      exact ⟨e1, h⟩
theorem rend_inj2 : ∀ (a : Tm), OkT a → (∀ (b : Tm) (x y : List UInt8), OkT b → rend a ++ x = rend b ++ y → a = b ∧ x = y) ∧
    ∀ k, ∀ (b : Tm) (x y : List UInt8), OkT b → rendF (some k) a ++ 59 :: x = rendF (some k) b ++ 59 :: y → a = b ∧ x = y
  | .set l, ha => by
    have P : ∀ (b : Tm) (x y : List UInt8), OkT b → rend (.set l) ++ x = rend b ++ y → .set l = b ∧ x = y := by
      intro b x y hb h
      cases b with
      | set m =>
        simp only [rend, rendF, List.cons_append, List.append_assoc, List.cons.injEq, true_and, List.nil_append] at h
        obtain ⟨e1, e2⟩ := spansT_inj (TidyF.pos ha) (TidyF.pos hb) h
        exact ⟨by rw [e1], e2⟩
      | grp k c d => rw [rend_grp] at h; simp [rend, rendF] at h; exact absurd h.1.symm (sign_ne k).1
      | _ => simp [rend, rendF] at h
    exact ⟨P, fun k => rend_rest_inj P (fun _ _ h => by cases h)⟩
  | .eps, ha => by
    have P : ∀ (b : Tm) (x y : List UInt8), OkT b → rend eps ++ x = rend b ++ y → eps = b ∧ x = y := by
      intro b x y hb h
      cases b with
      | eps => simp [rend, rendF] at h; exact ⟨rfl, h⟩
      | grp k c d => rw [rend_grp] at h; simp [rend, rendF] at h; exact absurd h.1.symm (sign_ne k).2.1
      | _ => simp [rend, rendF] at h
    exact ⟨P, fun k => rend_rest_inj P (fun _ _ h => by cases h)⟩
  | .chain a1 a2, ha => by
    have P1 := (rend_inj2 a1 ha.1).1
    have P2 := (rend_inj2 a2 ha.2).1
    have P : ∀ (b : Tm) (x y : List UInt8), OkT b → rend (.chain a1 a2) ++ x = rend b ++ y → .chain a1 a2 = b ∧ x = y := by
      intro b x y hb h
      cases b with
      | chain b1 b2 =>
        simp only [rend, rendF, List.cons_append, List.append_assoc, List.cons.injEq, true_and] at h
        obtain ⟨e1, h⟩ := P1 b1 _ _ hb.1 h
        obtain ⟨e2, h⟩ := P2 b2 _ _ hb.2 h
        exact ⟨by rw [e1, e2], h⟩
      | grp k c d => rw [rend_grp] at h; simp [rend, rendF] at h; exact absurd h.1.symm (sign_ne k).2.2.1
      | _ => simp [rend, rendF] at h
    exact ⟨P, fun k => rend_rest_inj P (fun _ _ h => by cases h)⟩
  | .star a1, ha => by
    have P1 := (rend_inj2 a1 ha).1
    have P : ∀ (b : Tm) (x y : List UInt8), OkT b → rend (.star a1) ++ x = rend b ++ y → .star a1 = b ∧ x = y := by
      intro b x y hb h
      cases b with
      | star b1 =>
        simp only [rend, rendF, List.cons_append, List.cons.injEq, true_and] at h
        obtain ⟨e1, h⟩ := P1 b1 _ _ hb h
        exact ⟨by rw [e1], h⟩
      | grp k c d => rw [rend_grp] at h; simp [rend, rendF] at h; exact absurd h.1.symm (sign_ne k).2.2.2.1
      | _ => simp [rend, rendF] at h
    exact ⟨P, fun k => rend_rest_inj P (fun _ _ h => by cases h)⟩
  | .not a1, ha => by
    have P1 := (rend_inj2 a1 ha).1
    have P : ∀ (b : Tm) (x y : List UInt8), OkT b → rend (.not a1) ++ x = rend b ++ y → .not a1 = b ∧ x = y := by
      intro b x y hb h
      cases b with
      | not b1 =>
        simp only [rend, rendF, List.cons_append, List.cons.injEq, true_and] at h
        obtain ⟨e1, h⟩ := P1 b1 _ _ hb h
        exact ⟨by rw [e1], h⟩
      | grp k c d => rw [rend_grp] at h; simp [rend, rendF] at h; exact absurd h.1.symm (sign_ne k).2.2.2.2.1
      | _ => simp [rend, rendF] at h
    exact ⟨P, fun k => rend_rest_inj P (fun _ _ h => by cases h)⟩
  | .grp k a1 a2, ha => by
    have P1 := (rend_inj2 a1 ha.1).1
    have Q2 := (rend_inj2 a2 ha.2).2
    have P : ∀ (b : Tm) (x y : List UInt8), OkT b → rend (.grp k a1 a2) ++ x = rend b ++ y → .grp k a1 a2 = b ∧ x = y := by
      intro b x y hb h
      rw [rend_grp] at h
      cases b with
      | grp k' b1 b2 =>
        rw [rend_grp] at h
        simp only [List.cons_append, List.append_assoc, List.cons.injEq, List.nil_append] at h
        have hk := sign_inj h.1
        subst hk
        obtain ⟨e1, h⟩ := P1 b1 _ _ hb.1 h.2
        obtain ⟨e2, h⟩ := Q2 k b2 _ _ hb.2 h
        exact ⟨by rw [e1, e2], h⟩
      | set l => simp [rend, rendF] at h; exact absurd h.1 (sign_ne k).1
      | eps => simp [rend, rendF] at h; exact absurd h.1 (sign_ne k).2.1
      | chain c d => simp [rend, rendF] at h; exact absurd h.1 (sign_ne k).2.2.1
      | star c => simp [rend, rendF] at h; exact absurd h.1 (sign_ne k).2.2.2.1
      | not c => simp [rend, rendF] at h; exact absurd h.1 (sign_ne k).2.2.2.2.1
    exact ⟨P, fun k' => rend_rest_inj P (fun c d h => by
      cases h
      exact ⟨P1, Q2 k⟩)⟩
theorem rend_inj {a b : Tm} (ha : OkT a) (hb : OkT b) (h : rend a = rend b) : a = b := ((rend_inj2 a ha).1 b [] [] hb (by rw [h])).1

/-! the order -/
theorem gtB_irrefl : ∀ l : List UInt8, gtB l l = false
  | [] => rfl
  | x :: r => by rw [gtB, if_pos rfl, gtB_irrefl r]
theorem gtB_trans : ∀ a b c : List UInt8, gtB b a = true → gtB c b = true → gtB c a = true
  | _, [], _, h, _ => by simp [gtB] at h
  | _, _ :: _, [], _, h => by simp [gtB] at h
  | [], _ :: _, _ :: _, _, _ => rfl
  | x :: a, y :: b, z :: c, h1, h2 => by
    rw [gtB] at h1 h2 ⊢
    by_cases e1 : y = x
    · by_cases e2 : z = y
      · rw [if_pos e1] at h1; rw [if_pos e2] at h2; rw [if_pos (e2.trans e1)]
        exact gtB_trans a b c h1 h2
      · rw [if_neg e2] at h2; rw [e1] at e2; rw [if_neg e2]; rw [e1] at h2; exact h2
    · rw [if_neg e1] at h1
      have h1' := of_decide_eq_true h1
      by_cases e2 : z = y
      · subst e2; rw [if_neg e1]; exact h1
      · rw [if_neg e2] at h2
        have h2' := of_decide_eq_true h2
        have : x < z := UInt8.lt_trans h1' h2'
        rw [if_neg (by rintro rfl; exact absurd this (UInt8.lt_irrefl _))]
        exact decide_eq_true this
theorem gtB_total : ∀ a b : List UInt8, gtB a b = true ∨ gtB b a = true ∨ a = b
  | [], [] => .inr (.inr rfl)
  | [], _ :: _ => .inr (.inl rfl)
  | _ :: _, [] => .inl rfl
  | x :: a, y :: b => by
    rw [gtB, gtB]
    by_cases e : x = y
    · subst e
      rw [if_pos rfl, if_pos rfl]
      rcases gtB_total a b with h | h | h
      · exact .inl h
      · exact .inr (.inl h)
      · exact .inr (.inr (by rw [h]))
    · rw [if_neg e, if_neg (fun h => e h.symm)]
      rcases UInt8.lt_or_lt_of_ne e with h | h
      · exact .inr (.inl (decide_eq_true h))
      · exact .inl (decide_eq_true h)
theorem gtT_irrefl (a : Tm) : gtT a a = false := gtB_irrefl _
theorem gtT_trans (a b c : Tm) : gtT b a = true → gtT c b = true → gtT c a = true := gtB_trans _ _ _
theorem gtT_total {a b : Tm} (ha : OkT a) (hb : OkT b) : gtT a b = true ∨ gtT b a = true ∨ a = b := by
  rcases gtB_total (rend a) (rend b) with h | h | h
  · exact .inl h
  · exact .inr (.inl h)
  · exact .inr (.inr (rend_inj ha hb h))
def SrtT (l : List Tm) : Prop := l.Pairwise (fun a b => gtT b a = true)
theorem srtT_ext {l m : List Tm} (hl : SrtT l) (hm : SrtT m) (h : ∀ x, x ∈ l ↔ x ∈ m) : l = m := sorted_ext gtT_irrefl gtT_trans hl hm h
theorem withT_sorted {l : List Tm} (h : SrtT l) (hl : ∀ t ∈ l, OkT t) {c : Tm} (hc : OkT c) : SrtT (withB gtT c l) := by
  unfold withB
  split
  · exact h
  · rename_i hn
    refine insB_sorted gtT_trans (fun x hx => ?_) h
    rcases gtT_total (hl x hx) hc with h1 | h1 | h1
    · exact .inl h1
    · exact .inr h1
    · subst h1; exact absurd (by simpa using hx) hn
theorem fold_sorted : ∀ {f l : List Tm}, SrtT l → (∀ t ∈ l, OkT t) → (∀ t ∈ f, OkT t) → SrtT (f.foldl (fun l t => withB gtT t l) l)
  | [], _, h, _, _ => h
  | x :: f, l, h, hl, hf => by
    have hx := hf x (List.mem_cons_self ..)
    refine fold_sorted (f := f) (withT_sorted h hl hx) (fun t ht => ?_) (fun t ht => hf t (List.mem_cons_of_mem _ ht))
    rcases mem_withB.1 ht with rfl | ht
    · exact hx
    · exact hl t ht
theorem outs_sorted {f : List Tm} (hf : ∀ t ∈ f, OkT t) : SrtT (outs f) := by
  refine fold_sorted (by simp [SrtT]) (by simp) fun t ht => hf t ?_
  rw [nonSets] at ht
  exact (List.mem_filter.1 ht).1
theorem withSet_ok {k : Bool} {f : List Tm} (hf : ∀ t ∈ f, OkT t) : (∀ t ∈ withSet k f, OkT t) ∧ SrtT (withSet k f) := by
  have h1 : ∀ t ∈ withSet k f, OkT t := by
    intro t ht
    rcases mem_withSet.1 ht with h | ⟨s, hs, rfl⟩
    · exact hf t h.1
    · exact foldS_tidy hs fun x hx => hf (.set x) (mem_sets.1 hx)
  refine ⟨h1, ?_⟩
  unfold withSet at h1 ⊢
  split
  · exact outs_sorted hf
  · rename_i s hs
    exact withT_sorted (outs_sorted hf) (fun t ht => hf t (mem_outs.1 ht).1) (foldS_tidy hs fun x hx => hf (.set x) (mem_sets.1 hx))
end Go.Proofs.YtfolanohokflkabGreatDoor

/-
  Terms in their form: what is made of such is such; a group of one is that one: no program, no kit.
-/
namespace Go.Proofs.YtfolanohokflkabGreatDoor
open Tm (eps)

def isStar : Tm → Bool
  | .star _ => true
  | _ => false
def isNot : Tm → Bool
  | .not _ => true
  | _ => false
def OneSet (l : List Tm) : Prop := (l.filterMap setOfT).length ≤ 1
/-- a term in its form; within a kind: a rest of members. -/
def CnF : Option Bool → Tm → Prop
  | m, .set l => Tidy l ∧ (m ≠ Option.none → l ≠ [])
  | _, .eps => True
  | _, .chain a b => CnF .none a ∧ CnF .none b ∧ isChain a = false ∧ a ≠ voidT ∧ a ≠ eps ∧ b ≠ voidT ∧ b ≠ eps
  | _, .star a => CnF .none a ∧ a ≠ voidT ∧ a ≠ eps ∧ isStar a = false
  | m, .not a => CnF .none a ∧ isNot a = false ∧ (m ≠ Option.none → a ≠ voidT)
  | _, .grp k a b => CnF .none a ∧ notGrp k a = true ∧ a ≠ voidT ∧ a ≠ whole ∧ CnF (some k) b ∧ SrtT (memT k (.grp k a b)) ∧ OneSet (memT k (.grp k a b))
abbrev Cn (t : Tm) : Prop := CnF Option.none t
theorem CnF.any {m : Option Bool} : ∀ {t : Tm}, CnF m t → Cn t
  | .set _, h => ⟨h.1, fun e => absurd rfl e⟩
  | .eps, _ => trivial
  | .chain _ _, h => h
  | .star _, h => h
  | .not _, h => ⟨h.1, h.2.1, fun e => absurd rfl e⟩
  | .grp _ _ _, h => h
theorem CnF.ok : ∀ {m : Option Bool} {t : Tm}, CnF m t → OkT t
  | _, .set _, h => h.1
  | _, .eps, _ => trivial
  | _, .chain _ _, h => ⟨CnF.ok h.1, CnF.ok h.2.1⟩
  | _, .star a, h => CnF.ok (t := a) h.1
  | _, .not a, h => CnF.ok (t := a) h.1
  | _, .grp _ _ _, h => ⟨CnF.ok h.1, CnF.ok h.2.2.2.2.1⟩
/-- a member of a kind. -/
def MemOk (k : Bool) (m : Tm) : Prop := Cn m ∧ notGrp k m = true ∧ m ≠ voidT ∧ m ≠ whole
theorem CnF.void {k : Bool} : ∀ {t : Tm}, CnF (some k) t → t ≠ voidT ∧ t ≠ whole
  | .set l, h => ⟨by intro e; cases e; exact h.2 (by simp) rfl, by simp⟩
  | .eps, _ => ⟨by simp, by simp⟩
  | .chain _ _, _ => ⟨by simp, by simp⟩
  | .star _, _ => ⟨by simp, by simp⟩
  | .not a, h => ⟨by simp, by intro e; cases e; exact h.2.2 (by simp) rfl⟩
  | .grp _ _ _, _ => ⟨by simp, by simp⟩
theorem CnF.rest {k : Bool} {t : Tm} (h : Cn t) (h1 : t ≠ voidT) (h2 : t ≠ whole) : CnF (some k) t := by
  cases t with
  | set l => exact ⟨h.1, fun _ e => h1 (by rw [e])⟩
  | eps => trivial
  | chain a b => exact h
  | star a => exact h
  | not a => exact ⟨h.1, h.2.1, fun _ e => h2 (by rw [e])⟩
  | grp k a b => exact h
theorem memT_self {k : Bool} {t : Tm} (h : notGrp k t = true) : memT k t = [t] := by
  cases t with
  | grp k' a b =>
    have : k' ≠ k := by simpa [notGrp] using h
    rw [memT, if_neg this]
  | _ => rfl
theorem memT_grp (k : Bool) (a b : Tm) : memT k (.grp k a b) = a :: memT k b := by rw [memT, if_pos rfl]
theorem CnF.members {k : Bool} : ∀ {t : Tm}, CnF (some k) t → ∀ m ∈ memT k t, MemOk k m
  | t, h => by
    rcases grp_or k t with ⟨a, b, rfl⟩ | hn
    · rw [memT_grp]
      intro m hm
      rcases List.mem_cons.1 hm with rfl | hm
      · exact ⟨h.1, h.2.1, h.2.2.1, h.2.2.2.1⟩
      · exact CnF.members (t := b) h.2.2.2.2.1 m hm
    · rw [memT_self hn]
      intro m hm
      simp at hm; subst hm
      exact ⟨h.any, hn, h.void.1, h.void.2⟩
  termination_by t => t
/-- the members of a term in its form. -/
theorem Cn.members {k : Bool} {t : Tm} (h : Cn t) : ∀ m ∈ memT k t, Cn m ∧ notGrp k m = true := by
  rcases grp_or k t with ⟨a, b, rfl⟩ | hn
  · intro m hm
    have := CnF.members (k := k) (t := .grp k a b) h m hm
    exact ⟨this.1, this.2.1⟩
  · rw [memT_self hn]
    intro m hm
    simp at hm; subst hm
    exact ⟨h, hn⟩
theorem joinT_cons (k : Bool) (a : Tm) {l : List Tm} (h : l ≠ []) : joinT k (a :: l) = .grp k a (joinT k l) := by
  cases l with
  | nil => exact absurd rfl h
  | cons b r => rfl
theorem memT_joinT (k : Bool) : ∀ {l : List Tm}, l ≠ [] → (∀ m ∈ l, notGrp k m = true) → memT k (joinT k l) = l
  | [], h, _ => absurd rfl h
  | [a], _, hm => memT_self (hm a (List.mem_cons_self ..))
  | a :: b :: r, _, hm => by
    rw [joinT_cons k a (by simp), memT_grp, memT_joinT k (l := b :: r) (by simp) fun m h => hm m (List.mem_cons_of_mem _ h)]
theorem memT_ne (k : Bool) (t : Tm) : memT k t ≠ [] := by
  cases t with
  | grp k' a b => rw [memT]; split <;> simp
  | _ => simp [memT]
theorem joinT_memT (k : Bool) : ∀ t : Tm, joinT k (memT k t) = t
  | t => by
    rcases grp_or k t with ⟨a, b, rfl⟩ | hn
    · rw [memT_grp, joinT_cons k a (memT_ne k b), joinT_memT k b]
    · rw [memT_self hn]; rfl
  termination_by t => t
theorem oneSet_tail {a : Tm} {l : List Tm} (h : OneSet (a :: l)) : OneSet l := by
  unfold OneSet at *
  rw [List.filterMap_cons] at h
  split at h
  · exact h
  · rw [List.length_cons] at h; omega
theorem cn_join {k : Bool} : ∀ {l : List Tm}, l ≠ [] → (∀ m ∈ l, MemOk k m) → SrtT l → OneSet l → CnF (some k) (joinT k l)
  | [], h, _, _, _ => absurd rfl h
  | [a], _, hm, _, _ => by
    have := hm a (List.mem_cons_self ..)
    exact CnF.rest this.1 this.2.2.1 this.2.2.2
  | a :: b :: r, _, hm, hs, ho => by
    have ha := hm a (List.mem_cons_self ..)
    have hm' : ∀ m ∈ b :: r, MemOk k m := fun m h => hm m (List.mem_cons_of_mem _ h)
    have ih := cn_join (l := b :: r) (by simp) hm' (List.pairwise_cons.1 hs).2 (oneSet_tail ho)
    have e := memT_joinT k (l := a :: b :: r) (by simp) fun m h => (hm m h).2.1
    rw [joinT_cons k a (by simp)] at e ⊢
    exact ⟨ha.1, ha.2.1, ha.2.2.1, ha.2.2.2, ih, by rw [e]; exact hs, by rw [e]; exact ho⟩
theorem cnUnit (k : Bool) : Cn (unitT k) := by
  cases k
  · exact ⟨trivial, fun e => absurd rfl e⟩
  · exact ⟨⟨trivial, fun e => absurd rfl e⟩, rfl, fun e => absurd rfl e⟩
theorem cnZero (k : Bool) : Cn (zeroT k) := by
  cases k
  · exact ⟨⟨trivial, fun e => absurd rfl e⟩, rfl, fun e => absurd rfl e⟩
  · exact ⟨trivial, fun e => absurd rfl e⟩
theorem oneSet_sub {l : List Tm} (hn : l.Nodup) (h : ∀ s s', Tm.set s ∈ l → Tm.set s' ∈ l → s = s') : OneSet l := by
  unfold OneSet
  induction l with
  | nil => simp
  | cons a l ih =>
    have hn' := List.nodup_cons.1 hn
    have ih' := ih hn'.2 fun s s' h1 h2 => h s s' (List.mem_cons_of_mem _ h1) (List.mem_cons_of_mem _ h2)
    rw [List.filterMap_cons]
    cases hs : setOfT a with
    | none => exact ih'
    | some s =>
      have ea : a = .set s := by cases a <;> simp [setOfT] at hs; rw [hs]
      have : l.filterMap setOfT = [] := by
        cases hq : l.filterMap setOfT with
        | nil => rfl
        | cons s' r =>
          have h2 : Tm.set s' ∈ l := mem_sets.1 (by rw [hq]; exact List.mem_cons_self ..)
          have e := h s s' (by rw [ea]; exact List.mem_cons_self ..) (List.mem_cons_of_mem _ h2)
          subst e
          rw [ea] at hn'
          exact absurd h2 hn'.1
      simp [this]
theorem srt_nodup {l : List Tm} (h : SrtT l) : l.Nodup := h.imp fun {a b} h e => by
  subst e; rw [gtT_irrefl] at h; exact absurd h (by simp)
theorem srt_sub {l : List Tm} (h : SrtT l) (p : Tm → Bool) : SrtT (l.filter p) := h.filter p
theorem setOfT_some {t : Tm} {s : Spans} (h : setOfT t = some s) : t = .set s := by cases t <;> simp [setOfT] at h; rw [h]
theorem withSet_sets {k : Bool} {f : List Tm} {s s' : Spans} (h : Tm.set s ∈ withSet k f) (h' : Tm.set s' ∈ withSet k f) : s = s' := by
  rcases mem_withSet.1 h with ⟨_, h1⟩ | ⟨x, hx, e⟩
  · simp [setOfT] at h1
  · rcases mem_withSet.1 h' with ⟨_, h1⟩ | ⟨y, hy, e'⟩
    · simp [setOfT] at h1
    · rw [hx] at hy; cases hy; cases e; cases e'; rfl
theorem cn_end {k : Bool} {l : List Tm} (hm : ∀ m ∈ l, Cn m ∧ notGrp k m = true) (hs : SrtT l) (ho : ∀ s s', Tm.set s ∈ l → Tm.set s' ∈ l → s = s') : Cn (endG k l) := by
  unfold endG
  split
  · exact cnZero k
  rename_i hz
  split
  · exact cnUnit k
  · rename_i hne
    refine (cn_join hne (fun m h => ?_) (srt_sub hs _) (oneSet_sub (srt_nodup (srt_sub hs _)) fun s s' h h' => ho s s' (List.mem_filter.1 h).1 (List.mem_filter.1 h').1)).any
    have h' := List.mem_filter.1 h
    have hu : m ≠ unitT k := by simpa using h'.2
    have hzz : m ≠ zeroT k := by rintro rfl; exact hz h'.1
    refine ⟨(hm m h'.1).1, (hm m h'.1).2, ?_, ?_⟩
    · cases k
      · exact hu
      · exact hzz
    · cases k
      · exact hzz
      · exact hu
theorem cn_group {k : Bool} {l : List Tm} (h : ∀ t ∈ l, Cn t) : Cn (groupT k l) := by
  have hf : ∀ m ∈ l.flatMap (memT k), Cn m ∧ notGrp k m = true := by
    intro m hm
    obtain ⟨x, hx, hm⟩ := List.mem_flatMap.1 hm
    exact (h x hx).members m hm
  have hok : ∀ m ∈ l.flatMap (memT k), OkT m := fun m hm => (hf m hm).1.ok
  refine cn_end (fun m hm => ?_) (withSet_ok hok).2 (fun s s' => withSet_sets)
  rcases mem_withSet.1 hm with ⟨h1, _⟩ | ⟨s, hs, rfl⟩
  · exact hf m h1
  · exact ⟨⟨foldS_tidy hs fun x hx => (hf (.set x) (mem_sets.1 hx)).1.1, fun e => absurd rfl e⟩, rfl⟩
theorem cn_chain : ∀ (a b : Tm), Cn a → Cn b → Cn (chainT a b)
  | a, b, ha, hb => by
    rw [chainT_eq]
    split
    · exact ⟨trivial, fun e => absurd rfl e⟩
    rename_i h1
    split
    · exact hb
    rename_i h2
    split
    · exact ha
    rename_i h3
    have hv : a ≠ voidT ∧ b ≠ voidT := ⟨fun e => h1 (.inl e), fun e => h1 (.inr e)⟩
    cases a with
    | chain x y => exact cn_chain x _ ha.1 (cn_chain y b ha.2.1 hb)
    | set l => exact ⟨ha, hb, rfl, hv.1, h2, hv.2, h3⟩
    | eps => exact absurd rfl h2
    | star a => exact ⟨ha, hb, rfl, hv.1, h2, hv.2, h3⟩
    | not a => exact ⟨ha, hb, rfl, hv.1, h2, hv.2, h3⟩
    | grp k x y => exact ⟨ha, hb, rfl, hv.1, h2, hv.2, h3⟩
  termination_by a => a
theorem cn_star {a : Tm} (h : Cn a) : Cn (starT a) := by
  unfold starT
  split
  · trivial
  · rename_i h1
    have h2 : a ≠ voidT ∧ a ≠ eps := ⟨fun e => h1 (.inl e), fun e => h1 (.inr e)⟩
    cases a with
    | star x => exact h
    | set l => exact ⟨h, h2.1, h2.2, rfl⟩
    | eps => exact absurd rfl h2.2
    | chain x y => exact ⟨h, h2.1, h2.2, rfl⟩
    | not x => exact ⟨h, h2.1, h2.2, rfl⟩
    | grp k x y => exact ⟨h, h2.1, h2.2, rfl⟩
theorem cn_not {a : Tm} (h : Cn a) : Cn (notT a) := by
  cases a with
  | not x => exact h.1
  | set l => exact ⟨h, rfl, fun e => absurd rfl e⟩
  | eps => exact ⟨h, rfl, fun e => absurd rfl e⟩
  | chain x y => exact ⟨h, rfl, fun e => absurd rfl e⟩
  | star x => exact ⟨h, rfl, fun e => absurd rfl e⟩
  | grp k x y => exact ⟨h, rfl, fun e => absurd rfl e⟩
theorem cn_void : Cn voidT := cnUnit false
theorem cn_eps : Cn eps := trivial
theorem cn_der (c : Int) : ∀ {m : Option Bool} {t : Tm}, CnF m t → Cn (derT c t) ∧ ∀ k, m = some k → ∀ x ∈ memT k t, Cn (derT c x)
  | m, .set l, h => by
    have h0 : Cn (derT c (.set l)) := by
      rw [derT_set]; split
      · trivial
      · exact cn_void
    exact ⟨h0, fun k _ x hx => by simp [memT] at hx; subst hx; exact h0⟩
  | m, .eps, _ => ⟨cn_void, fun k _ x hx => by simp [memT] at hx; subst hx; exact cn_void⟩
  | m, .chain a b, h => by
    have ha := cn_chain _ b (cn_der c h.1).1 h.2.1
    have hb := (cn_der c h.2.1).1
    have h0 : Cn (derT c (.chain a b)) := by
      rw [derT_chain]; split
      · refine cn_group fun t ht => ?_
        simp at ht
        rcases ht with rfl | rfl
        · exact ha
        · exact hb
      · exact ha
    exact ⟨h0, fun k _ x hx => by simp [memT] at hx; subst hx; exact h0⟩
  | m, .star a, h => by
    have h0 : Cn (derT c (.star a)) := cn_chain _ _ (cn_der c (t := a) h.1).1 h
    exact ⟨h0, fun k _ x hx => by simp [memT] at hx; subst hx; exact h0⟩
  | m, .not a, h => by
    have h0 : Cn (derT c (.not a)) := cn_not (cn_der c (t := a) h.1).1
    exact ⟨h0, fun k _ x hx => by simp [memT] at hx; subst hx; exact h0⟩
  | m, .grp k' a b, h => by
    have ha := (cn_der c h.1).1
    have hb := (cn_der c h.2.2.2.2.1).2
    have hall : ∀ x ∈ memT k' (.grp k' a b), Cn (derT c x) := by
      intro x hx
      rw [memT_grp] at hx
      rcases List.mem_cons.1 hx with rfl | hx
      · exact ha
      · exact hb k' rfl x hx
    have h0 : Cn (derT c (.grp k' a b)) := by
      rw [derT_grp]
      refine cn_group fun t ht => ?_
      obtain ⟨x, hx, rfl⟩ := List.mem_map.1 ht
      exact hall x hx
    refine ⟨h0, fun k _ x hx => ?_⟩
    by_cases e : k' = k
    · subst e; exact hall x hx
    · rw [memT, if_neg e] at hx
      simp at hx; subst hx; exact h0
theorem cn_ders : ∀ (w : List Int) {t : Tm}, Cn t → Cn (ders t w)
  | [], _, h => h
  | c :: w, t, h => cn_ders w (t := derT c t) (cn_der c h).1

theorem endG_self {k : Bool} {l : List Tm} (hne : l ≠ []) (h1 : voidT ∉ l) (h2 : whole ∉ l) : endG k l = joinT k l := by
  have hz : zeroT k ∉ l := by cases k <;> assumption
  have hu : unitT k ∉ l := by cases k <;> assumption
  unfold endG
  rw [if_neg hz, List.filter_eq_self.2 (fun t ht => by
    have : t ≠ unitT k := by rintro rfl; exact hu ht
    simpa using this)]
  cases l with
  | nil => exact absurd rfl hne
  | cons a r => rfl
theorem withSet_self {k : Bool} {l : List Tm} (hok : ∀ t ∈ l, OkT t) (hs : SrtT l) (ho : OneSet l) : withSet k l = l := by
  refine srtT_ext (withSet_ok hok).2 hs fun t => ?_
  rw [mem_withSet]
  cases hq : l.filterMap setOfT with
  | nil =>
    simp only [foldS, reduceCtorEq, false_and, exists_false, or_false]
    refine ⟨fun h => h.1, fun h => ⟨h, ?_⟩⟩
    cases hst : setOfT t with
    | none => rfl
    | some s =>
      rw [setOfT_some hst] at h
      have := mem_sets.2 h
      rw [hq] at this; simp at this
  | cons s r =>
    have hr : r = [] := by
      unfold OneSet at ho; rw [hq] at ho; simp at ho; exact ho
    subst hr
    simp only [foldS, List.foldl_nil, Option.some.injEq, exists_eq_left']
    have hmem : Tm.set s ∈ l := mem_sets.1 (by rw [hq]; exact List.mem_cons_self ..)
    constructor
    · rintro (h | rfl)
      · exact h.1
      · exact hmem
    · intro h
      cases hst : setOfT t with
      | none => exact .inl ⟨h, rfl⟩
      | some s' =>
        have e := setOfT_some hst
        rw [e] at h
        have := mem_sets.2 h
        rw [hq] at this
        simp at this
        subst this
        exact .inr e
/-- a group of one is that one. -/
theorem group_one' {k : Bool} {t : Tm} (h : Cn t) : groupT k [t] = t := by
  rw [groupT, List.flatMap_cons, List.flatMap_nil, List.append_nil]
  rcases grp_or k t with ⟨a, b, rfl⟩ | hn
  · have hm := CnF.members (k := k) (t := .grp k a b) h
    rw [withSet_self (fun x hx => (hm x hx).1.ok) h.2.2.2.2.2.1 h.2.2.2.2.2.2, endG_self (memT_ne k _) (fun hv => (hm _ hv).2.2.1 rfl) (fun hv => (hm _ hv).2.2.2 rfl), joinT_memT]
  · rw [memT_self hn, withSet_self (by simpa using h.ok) (by simp [SrtT]) (by unfold OneSet; exact Nat.le_trans (List.length_filterMap_le ..) (by simp))]
    unfold endG
    by_cases hz : t = zeroT k
    · rw [if_pos (by simp [hz]), hz]
    · rw [if_neg (by simpa using fun e => hz e.symm)]
      by_cases hu : t = unitT k
      · rw [hu]; simp
      · simp [hu, joinT]
end Go.Proofs.YtfolanohokflkabGreatDoor

/-
  Patterns as trees, their terms: no program, no kit.
-/
namespace Go.Proofs.YtfolanohokflkabGreatDoor
open Tm (eps)

inductive Pt where
  | set (l : List (Int × Int))
  | row (l : List Pt)
  | grp (k : Bool) (l : List Pt)
  | not (a : Pt)
  | rep (a : Pt) (least : Nat) (most : Option Nat)

def rowT (l : List Tm) : Tm := l.foldr chainT eps
def optT (t : Tm) : Tm := groupT false [eps, t]
def repT (t : Tm) (n : Nat) : Option Nat → Tm
  | Option.none => (List.replicate n t).foldr chainT (starT t)
  | some m => (List.replicate n t).foldr chainT (rowT (List.replicate (m - n) (optT t)))
mutual
def tmP : Pt → Tm
  | .set l => .set l
  | .row l => rowT (tmPs l)
  | .grp k l => groupT k (tmPs l)
  | .not a => notT (tmP a)
  | .rep a n m => repT (tmP a) n m
def tmPs : List Pt → List Tm
  | [] => []
  | p :: r => tmP p :: tmPs r
end
theorem tmPs_map : ∀ l : List Pt, tmPs l = l.map tmP
  | [] => by rw [tmPs]; rfl
  | p :: r => by rw [tmPs, tmPs_map r]; rfl
mutual
def OkP : Pt → Prop
  | .set l => Tidy l
  | .row l => OkPs l
  | .grp _ l => OkPs l
  | .not a => OkP a
  | .rep a _ _ => OkP a
def OkPs : List Pt → Prop
  | [] => True
  | p :: r => OkP p ∧ OkPs r
end
theorem cn_foldr {l : List Tm} {t : Tm} (hl : ∀ x ∈ l, Cn x) (ht : Cn t) : Cn (l.foldr chainT t) := by
  induction l with
  | nil => exact ht
  | cons x l ih => exact cn_chain _ _ (hl x (List.mem_cons_self ..)) (ih fun y hy => hl y (List.mem_cons_of_mem _ hy))
theorem cn_opt {t : Tm} (h : Cn t) : Cn (optT t) := cn_group fun x hx => by
  simp at hx
  rcases hx with rfl | rfl
  · trivial
  · exact h
theorem cn_rep {t : Tm} (h : Cn t) (n : Nat) (m : Option Nat) : Cn (repT t n m) := by
  have hr : ∀ x ∈ List.replicate n t, Cn x := fun x hx => by rw [(List.mem_replicate.1 hx).2]; exact h
  cases m with
  | none => exact cn_foldr hr (cn_star h)
  | some m => exact cn_foldr hr (cn_foldr (fun x hx => by rw [(List.mem_replicate.1 hx).2]; exact cn_opt h) trivial)
mutual
theorem cn_tmP : ∀ {p : Pt}, OkP p → Cn (tmP p)
  | .set l, h => by rw [OkP] at h; rw [tmP]; exact ⟨h, fun e => absurd rfl e⟩
  | .row l, h => by rw [OkP] at h; rw [tmP]; exact cn_foldr (cn_tmPs h) trivial
  | .grp k l, h => by rw [OkP] at h; rw [tmP]; exact cn_group (cn_tmPs h)
  | .not a, h => by rw [OkP] at h; rw [tmP]; exact cn_not (cn_tmP h)
  | .rep a n m, h => by rw [OkP] at h; rw [tmP]; exact cn_rep (cn_tmP h) n m
theorem cn_tmPs : ∀ {l : List Pt}, OkPs l → ∀ t ∈ tmPs l, Cn t
  | [], _ => by rw [tmPs]; simp
  | p :: r, h => by
    rw [OkPs] at h
    rw [tmPs]
    have hp := cn_tmP h.1
    have hr := cn_tmPs h.2
    intro t ht
    rcases List.mem_cons.1 ht with rfl | ht
    · exact hp
    · exact hr t ht
end

/-! words of repeats -/
def Pow (P : List Int → Prop) : Nat → List Int → Prop
  | 0, w => w = []
  | n + 1, w => ∃ u v, w = u ++ v ∧ P u ∧ Pow P n v
theorem star_pow {P : List Int → Prop} {w : List Int} : Star P w ↔ ∃ n, Pow P n w := by
  constructor
  · intro h
    induction h with
    | nil => exact ⟨0, rfl⟩
    | more hp _ ih =>
      obtain ⟨n, hn⟩ := ih
      exact ⟨n + 1, _, _, rfl, hp, hn⟩
  · rintro ⟨n, h⟩
    induction n generalizing w with
    | zero => rw [show w = [] from h]; exact .nil
    | succ n ih =>
      obtain ⟨u, v, rfl, hp, hn⟩ := h
      exact .more hp (ih hn)
theorem wd_foldr {t b : Tm} : ∀ (n : Nat) (w : List Int), wd ((List.replicate n t).foldr chainT b) w ↔ ∃ u v, w = u ++ v ∧ Pow (wd t) n u ∧ wd b v
  | 0, w => by
    constructor
    · intro h; exact ⟨[], w, rfl, rfl, h⟩
    · rintro ⟨u, v, rfl, hu, hv⟩
      rw [show u = [] from hu]; exact hv
  | n + 1, w => by
    rw [List.replicate_succ, List.foldr_cons, wd_chainT]
    constructor
    · rintro ⟨u, v, rfl, hu, hv⟩
      obtain ⟨u2, v2, rfl, hp, hb⟩ := (wd_foldr n v).1 hv
      exact ⟨u ++ u2, v2, by simp, ⟨u, u2, rfl, hu, hp⟩, hb⟩
    · rintro ⟨u, v, rfl, ⟨u1, u2, rfl, h1, h2⟩, hb⟩
      exact ⟨u1, u2 ++ v, by simp, h1, (wd_foldr n _).2 ⟨u2, v, rfl, h2, hb⟩⟩
theorem pow_opt {P Q : List Int → Prop} (S : List Int → Prop) (hS : ∀ u v, S (u ++ v) → S u ∧ S v) (hQ : ∀ w, S w → (Q w ↔ w = [] ∨ P w)) : ∀ (k : Nat) (w : List Int), S w → (Pow Q k w ↔ ∃ j, j ≤ k ∧ Pow P j w)
  | 0, w, _ => by
    constructor
    · intro h; exact ⟨0, Nat.le_refl _, h⟩
    · rintro ⟨j, hj, h⟩
      have : j = 0 := by omega
      subst this; exact h
  | k + 1, w, hs => by
    constructor
    · rintro ⟨u, v, rfl, hu, hv⟩
      obtain ⟨s1, s2⟩ := hS u v hs
      obtain ⟨j, hj, hp⟩ := (pow_opt S hS hQ k v s2).1 hv
      rcases (hQ u s1).1 hu with rfl | hu
      · exact ⟨j, by omega, hp⟩
      · exact ⟨j + 1, by omega, u, v, rfl, hu, hp⟩
    · rintro ⟨j, hj, h⟩
      cases j with
      | zero =>
        refine ⟨[], w, rfl, (hQ [] (hS [] w hs).1).2 (.inl rfl), (pow_opt S hS hQ k w hs).2 ⟨0, Nat.zero_le _, h⟩⟩
      | succ j =>
        obtain ⟨u, v, rfl, hu, hv⟩ := h
        obtain ⟨s1, s2⟩ := hS u v hs
        exact ⟨u, v, rfl, (hQ u s1).2 (.inr hu), (pow_opt S hS hQ k v s2).2 ⟨j, by omega, hv⟩⟩
theorem pow_add {P : List Int → Prop} : ∀ (m n : Nat) (w : List Int), Pow P (m + n) w ↔ ∃ u v, w = u ++ v ∧ Pow P m u ∧ Pow P n v
  | 0, n, w => by
    rw [Nat.zero_add]
    constructor
    · intro h; exact ⟨[], w, rfl, rfl, h⟩
    · rintro ⟨u, v, rfl, hu, hv⟩
      rw [show u = [] from hu]; exact hv
  | m + 1, n, w => by
    rw [show m + 1 + n = (m + n) + 1 from by omega]
    constructor
    · rintro ⟨u, v, rfl, hu, hv⟩
      obtain ⟨u2, v2, rfl, h1, h2⟩ := (pow_add m n v).1 hv
      exact ⟨u ++ u2, v2, by simp, ⟨u, u2, rfl, hu, h1⟩, h2⟩
    · rintro ⟨u, v, rfl, ⟨u1, u2, rfl, h1, h2⟩, h3⟩
      exact ⟨u1, u2 ++ v, by simp, h1, (pow_add m n _).2 ⟨u2, v, rfl, h2, h3⟩⟩
theorem pow_ext {P Q : List Int → Prop} (S : List Int → Prop) (hS : ∀ u v, S (u ++ v) → S u ∧ S v) (h : ∀ w, S w → (P w ↔ Q w)) : ∀ (n : Nat) (w : List Int), S w → (Pow P n w ↔ Pow Q n w)
  | 0, _, _ => Iff.rfl
  | n + 1, w, hs => by
    constructor
    · rintro ⟨u, v, rfl, hu, hv⟩
      obtain ⟨s1, s2⟩ := hS u v hs
      exact ⟨u, v, rfl, (h u s1).1 hu, (pow_ext S hS h n v s2).1 hv⟩
    · rintro ⟨u, v, rfl, hu, hv⟩
      obtain ⟨s1, s2⟩ := hS u v hs
      exact ⟨u, v, rfl, (h u s1).2 hu, (pow_ext S hS h n v s2).2 hv⟩
theorem syms_app (u v : List Int) (h : Syms (u ++ v)) : Syms u ∧ Syms v := ⟨h.left, h.right⟩
theorem wd_opt {t : Tm} (h : OkT t) {w : List Int} (hw : Syms w) : wd (optT t) w ↔ w = [] ∨ wd t w := by
  rw [optT, wd_groupT (by
    intro x hx
    simp at hx
    rcases hx with rfl | rfl
    · trivial
    · exact h) hw]
  simp [wdL, wd]
/-- the words of a repeat. -/
theorem wd_rep {t : Tm} (h : OkT t) (n : Nat) (m : Option Nat) {w : List Int} (hw : Syms w) :
    wd (repT t n m) w ↔ ∃ j, n ≤ j ∧ (∀ k, m = some k → j ≤ max n k) ∧ Pow (wd t) j w := by
  cases m with
  | none =>
    rw [repT, wd_foldr]
    constructor
    · rintro ⟨u, v, rfl, hu, hv⟩
      obtain ⟨j, hj⟩ := star_pow.1 ((wd_starT t v).1 hv)
      exact ⟨n + j, by omega, by simp, (pow_add n j _).2 ⟨u, v, rfl, hu, hj⟩⟩
    · rintro ⟨j, hj, _, hp⟩
      obtain ⟨u, v, rfl, h1, h2⟩ := (pow_add n (j - n) w).1 (by rw [show n + (j - n) = j from by omega]; exact hp)
      exact ⟨u, v, rfl, h1, (wd_starT t v).2 (star_pow.2 ⟨_, h2⟩)⟩
  | some m =>
    rw [repT, wd_foldr]
    constructor
    · rintro ⟨u, v, rfl, hu, hv⟩
      obtain ⟨a, b, rfl, h1, h2⟩ := (wd_foldr (t := optT t) (b := eps) (m - n) v).1 hv
      rw [show b = [] from h2] at *
      obtain ⟨j, hj, hp⟩ := (pow_opt Syms syms_app (fun w hw => wd_opt h hw) (m - n) a hw.right.left).1 h1
      exact ⟨n + j, by omega, fun k e => by cases e; omega, (pow_add n j _).2 ⟨u, a, by simp, hu, hp⟩⟩
    · rintro ⟨j, hj, hk, hp⟩
      obtain ⟨u, v, rfl, h1, h2⟩ := (pow_add n (j - n) w).1 (by rw [show n + (j - n) = j from by omega]; exact hp)
      refine ⟨u, v, rfl, h1, (wd_foldr (t := optT t) (b := eps) (m - n) v).2 ⟨v, [], by simp, ?_, rfl⟩⟩
      exact (pow_opt Syms syms_app (fun w hw => wd_opt h hw) (m - n) v hw.right).2 ⟨j - n, by have := hk m rfl; omega, h2⟩

/-! what is met -/
def addT (l : List Tm) (t : Tm) : List Tm := if t ∈ l then l else l ++ [t]
/-- from a term on, by symbols; with stop: no further than where there is no word. -/
def runT : Tm → List Int → List Tm
  | t, [] => [t]
  | t, c :: w => t :: runT (derT c t) w
def metT (l : List Tm) (m : List Tm) : List Tm := m.foldl addT l
theorem addT_sub {l : List Tm} {t : Tm} : ∀ x ∈ l, x ∈ addT l t := by
  intro x hx
  unfold addT; split
  · exact hx
  · exact List.mem_append_left _ hx
theorem mem_addT {l : List Tm} {t x : Tm} : x ∈ addT l t ↔ x ∈ l ∨ x = t := by
  unfold addT
  split
  · rename_i h
    exact ⟨.inl, fun hx => hx.elim id (fun e => by rw [e]; exact h)⟩
  · simp
theorem addT_len {l : List Tm} {t : Tm} : l.length ≤ (addT l t).length := by unfold addT; split <;> simp
theorem metT_len : ∀ {m l : List Tm}, l.length ≤ (metT l m).length
  | [], _ => Nat.le_refl _
  | t :: m, l => Nat.le_trans (addT_len (t := t)) (metT_len (m := m) (l := addT l t))
theorem addT_nodup {l : List Tm} {t : Tm} (h : l.Nodup) : (addT l t).Nodup := by
  unfold addT; split
  · exact h
  · rename_i hn
    exact List.nodup_append.2 ⟨h, by simp, fun a ha b hb e => by simp at hb; subst hb; subst e; exact hn ha⟩
theorem metT_nodup : ∀ {m l : List Tm}, l.Nodup → (metT l m).Nodup
  | [], _, h => h
  | _ :: m, _, h => metT_nodup (m := m) (addT_nodup h)
theorem mem_metT {x : Tm} : ∀ {m l : List Tm}, x ∈ metT l m ↔ x ∈ l ∨ x ∈ m
  | [], l => by simp [metT]
  | t :: m, l => by
    rw [show metT l (t :: m) = metT (addT l t) m from rfl, mem_metT, mem_addT, List.mem_cons, or_assoc]
theorem runT_last : ∀ (w : List Int) (t : Tm), (runT t w).getLast? = some (ders t w)
  | [], t => rfl
  | c :: w, t => by
    rw [runT, List.getLast?_cons, runT_last w]; rfl
end Go.Proofs.YtfolanohokflkabGreatDoor

/-
  What both readers of patterns make of one: a tree and its size; plain functions on the symbols that are left: no program, no kit.
-/
namespace Go.Proofs.YtfolanohokflkabGreatDoor

abbrev Pn := Pt × Int
abbrev Often := Nat × Option Nat × Int
def closeP (n : Nat) (m : Often) (l : List Sy) : Res Often := if hd l = 125 then .ok (m, l.tail) else bad 2 n l
def boundsP (n : Nat) (l : List Sy) : Res Often :=
  match numberS n 0 l with
  | .error x => .error x
  | .ok (a, l1) =>
    if hd l1 = 44 then
      (if hd l1.tail = 125 then .ok ((a.toNat, none, a + 1), l1.tail.tail)
       else match numberS n a l1.tail with
         | .error x => .error x
         | .ok (m, l2) => closeP n (a.toNat, some m.toNat, pos1 m) l2)
    else closeP n (a.toNat, some a.toNat, pos1 a) l1
def repeatP (n : Nat) (l : List Sy) : Res Often :=
  if hd l = 123 then boundsP n l.tail
  else if hd l = 42 then .ok ((0, none, 2), l.tail)
  else if hd l = 43 then .ok ((1, none, 2), l.tail)
  else .ok ((0, some 1, 2), l.tail)
def digitsL : Spans := [(48, 57)]
def lettersL : Spans := [(48, 57), (65, 90), (95, 95), (97, 122)]
def setEsc (l : List Sy) : Spans := if hd l.tail = 100 then digitsL else lettersL
def partP (n : Nat) (l : List Sy) : Res Spans :=
  if isSet l = true then .ok (setEsc l, l.tail.tail)
  else match limitS n l with
    | .error x => .error x
    | .ok (a, l1) =>
      if hd l1 = 45 then (match limitS n l1.tail with
        | .error x => .error x
        | .ok (b, l2) => if b < a then bad 3 n l2 else .ok ([(a, b)], l2))
      else .ok ([(a, a)], l1)
def classLoopP (n : Nat) : Nat → Spans → List Sy → Res Spans
  | 0, _, l => bad 2 n l
  | f + 1, s, l => if hd l = 93 then .ok (s, l.tail) else match partP n l with
    | .error x => .error x
    | .ok (p, l1) => classLoopP n f (cupS s p) l1
def turnR : Res Spans → Res Spans
  | .error x => .error x
  | .ok (s, l) => .ok (othS s, l)
/-- behind the bracket. -/
def classP (n : Nat) (l : List Sy) : Res Spans :=
  if hd l = 94 then turnR (classLoopP n (l.length + 1) [] l.tail) else classLoopP n (l.length + 1) [] l
def everyL : Spans := othS []
def oneR : Res Int → Res Spans
  | .error x => .error x
  | .ok (c, l) => .ok ([(c, c)], l)
/-- an atom that is no group: its symbols. -/
def leafP (n : Nat) (l : List Sy) : Res Spans :=
  if hd l = 91 then classP n l.tail
  else if hd l = 92 then (if isSet l = true then .ok (setEsc l, l.tail.tail) else oneR (escapeS n l.tail))
  else if hd l = 46 then .ok (everyL, l.tail)
  else if hd l < 0 ∨ isMark (hd l) = true then bad 2 n l
  else .ok ([(hd l, hd l)], l.tail)
def nodeR : Res Spans → Res Pn
  | .error x => .error x
  | .ok (s, l) => .ok ((.set s, 1), l)
def repN (p : Pn) (o : Often) : Pn := (.rep p.1 o.1 o.2.1, cap61 (p.2 * o.2.2))
def notN (p : Pn) : Pn := (.not p.1, cap61 (p.2 + 1))
def repsP (n : Nat) : Nat → Pn → List Sy → Res Pn
  | 0, _, l => bad 2 n l
  | f + 1, z, l => if isRep (hd l) = true then (match repeatP n l with
      | .error x => .error x
      | .ok (m, l1) => repsP n f (repN z m) l1)
    else .ok (z, l)
def itemP (n : Nat) (atom : List Sy → Res Pn) : Nat → List Sy → Res Pn
  | 0, l => bad 2 n l
  | f + 1, l => if hd l = 126 then (match itemP n atom f l.tail with
      | .error x => .error x
      | .ok (z, l1) => .ok (notN z, l1))
    else match atom l with
      | .error x => .error x
      | .ok (z, l1) => repsP n (l1.length + 1) z l1
/-- the size of parts together. -/
def sumZ : List Pn → Int
  | [] => 0
  | p :: r => p.2 + sumZ r
/-- parts of a kind; of one that one. -/
def mkRow (l : List Pn) : Pn := match l with
  | [p] => p
  | l => (.row (l.map Prod.fst), if l.length = 0 then 1 else min (((l.length : Int) - 1) + sumZ l) 61)
def mkGrp (k : Bool) (l : List Pn) : Pn := match l with
  | [p] => p
  | l => (.grp k (l.map Prod.fst), min (((l.length : Int) - 1) + sumZ l) 61)
/-- the items of a row, behind some. -/
def rowLoopP (n : Nat) (atom : List Sy → Res Pn) : Nat → List Pn → List Sy → Res (List Pn)
  | 0, _, l => bad 2 n l
  | f + 1, z, l => if rowEnd (hd l) = true then .ok (z, l) else match itemP n atom (l.length + 1) l with
    | .error x => .error x
    | .ok (y, l1) => rowLoopP n atom f (z ++ [y]) l1
def mapR {a b : Type} (g : a → b) : Res a → Res b
  | .error x => .error x
  | .ok (v, l) => .ok (g v, l)
def rowP (n : Nat) (atom : List Sy → Res Pn) (l : List Sy) : Res Pn :=
  if rowEnd (hd l) = true then .ok (mkRow [], l) else match itemP n atom (l.length + 1) l with
    | .error x => .error x
    | .ok (y, l1) => mapR mkRow (rowLoopP n atom (l1.length + 1) [y] l1)
/-- parts with a sign between them, behind some. -/
def sepLoopP (n : Nat) (sub : List Sy → Res Pn) (sign : Int) : Nat → List Pn → List Sy → Res (List Pn)
  | 0, _, l => bad 2 n l
  | f + 1, z, l => if hd l = sign then (match sub l.tail with
      | .error x => .error x
      | .ok (y, l1) => sepLoopP n sub sign f (z ++ [y]) l1)
    else .ok (z, l)
def sepP (n : Nat) (sub : List Sy → Res Pn) (sign : Int) (g : List Pn → Pn) (l : List Sy) : Res Pn :=
  match sub l with
  | .error x => .error x
  | .ok (y, l1) => mapR g (sepLoopP n sub sign (l1.length + 1) [y] l1)
def bothP (n : Nat) (atom : List Sy → Res Pn) : List Sy → Res Pn := sepP n (rowP n atom) 38 (mkGrp true)
def choiceP (n : Nat) (atom : List Sy → Res Pn) : List Sy → Res Pn := sepP n (bothP n atom) 124 (mkGrp false)
def grpP (n : Nat) : Res Pn → Res Pn
  | .error x => .error x
  | .ok (z, l) => if hd l = 41 then .ok (z, l.tail) else bad 2 n l
/-- an atom, where so many groups more may be opened. -/
def atomP (n : Nat) : Nat → List Sy → Res Pn
  | 0, l => if hd l = 40 then bad 4 n l else nodeR (leafP n l)
  | k + 1, l => if hd l = 40 then grpP n (choiceP n (atomP n k) l.tail) else nodeR (leafP n l)
def parseEnd (n : Nat) : Res Pn → Except (Int × Int) Pt
  | .error x => .error x
  | .ok (z, l) => if hd l < 0 then (if 60 < z.2 then .error (5, 0) else .ok z.1) else .error (2, plc n l)
/-- a pattern's tree, or the error and its place. -/
def parseS (s : ByteArray) : Except (Int × Int) Pt := if 60 < s.size then .error (1, 0) else parseEnd s.size (choiceP s.size (atomP s.size 8) (symsFrom s 0))
def errOf : Except (Int × Int) Pt → Int × Int
  | .error x => x
  | .ok _ => (0, 0)

/-! what Match and the others answer -/
def symsOf (s : ByteArray) : List Int := (symsFrom s 0).map fun x => (x.c : Int)
/-- the pattern's tree, or the error that all calls in a text have. -/
def askS (p t : ByteArray) (b : Int) : Except Int Pt :=
  if 60 < p.size ∨ 60 < t.size then .error 1
  else match parseS p with
    | .error x => .error x.1
    | .ok q => if b < 0 ∨ 200 < b then .error 6 else .ok q
def matchS (p t : ByteArray) (b : Int) : Bool × Int :=
  match askS p t b with
  | .error e => (false, e)
  | .ok q => if b < ((metT [] (runT (tmP q) (symsOf t))).length : Int) then (false, 7) else (nullT (ders (tmP q) (symsOf t)), 0)

/-! the sets of what is read are tidy -/
theorem decode_sym (s : ByteArray) (i : Nat) : isSym ((Utf8.decode s i).1 : Int) = true := by
  have h := oneFn_decode s i
  have e : ((Utf8.decode s i).1 : Int) = (oneFn s i).1 := by rw [h]
  rw [e]
  have hend : ∀ (size : Nat) (least : Int) (o : Option Int), isSym (oneEnd size least o).1 = true := by
    intro size least o
    cases o with
    | none => rfl
    | some n =>
      rw [oneEnd]
      split
      · rfl
      · split
        · assumption
        · rfl
  unfold oneFn
  simp only []
  have g0 := (s.get! i).toNat_lt
  split
  · rw [isSym_iff]; simp only []; omega
  · repeat' split
    all_goals first | exact hend _ _ _ | rfl
def AllSym (l : List Sy) : Prop := ∀ x ∈ l, isSym (x.c : Int) = true
theorem AllSym.tail {l : List Sy} (h : AllSym l) : AllSym l.tail := fun x hx => h x (List.mem_of_mem_tail hx)
theorem AllSym.hd {l : List Sy} (h : AllSym l) (h0 : ¬ hd l < 0) : isSym (hd l) = true := by
  cases l with
  | nil => exact absurd (by decide) h0
  | cons x r => exact h x (List.mem_cons_self ..)
theorem symsGo_sym (s : ByteArray) : ∀ (f p : Nat), AllSym (symsGo s f p)
  | 0, _ => by intro x hx; simp [symsGo] at hx
  | f + 1, p => by
    rw [symsGo]
    split
    · intro x hx
      rcases List.mem_cons.1 hx with rfl | hx
      · exact decode_sym s p
      · exact symsGo_sym s f _ x hx
    · intro x hx; simp at hx
theorem symsFrom_sym (s : ByteArray) (p : Nat) : AllSym (symsFrom s p) := symsGo_sym s _ p
theorem symsOf_syms (s : ByteArray) : Syms (symsOf s) := by
  intro c hc
  obtain ⟨x, hx, rfl⟩ := List.mem_map.1 hc
  exact symsFrom_sym s 0 x hx
def Good {a : Type} (P : a → Prop) (r : Res a) : Prop := ∀ v l, r = .ok (v, l) → P v ∧ AllSym l
theorem Good.bad {a : Type} {P : a → Prop} {e : Int} {n : Nat} {l : List Sy} : Good P (bad e n l) := fun _ _ h => by simp [Go.Proofs.YtfolanohokflkabGreatDoor.bad] at h
theorem Good.err {a : Type} {P : a → Prop} {x : Int × Int} : Good P (.error x : Res a) := fun _ _ h => by cases h
theorem Good.ok {a : Type} {P : a → Prop} {v : a} {l : List Sy} (h : P v) (hl : AllSym l) : Good P (.ok (v, l)) := fun _ _ e => by cases e; exact ⟨h, hl⟩
theorem Good.map {a b : Type} {P : a → Prop} {Q : b → Prop} {g : a → b} {r : Res a} (h : Good P r) (hg : ∀ v, P v → Q (g v)) : Good Q (mapR g r) := by
  cases r with
  | error x => exact Good.err
  | ok y =>
    obtain ⟨v, l⟩ := y
    have := h v l rfl
    exact Good.ok (hg v this.1) this.2
theorem good_number {n : Nat} {least : Int} {l : List Sy} (h : AllSym l) : Good (fun _ => True) (numberS n least l) := by
  unfold numberS
  split
  · split
    · exact Good.bad
    · intro v l' e
      refine ⟨trivial, ?_⟩
      simp only [Except.ok.injEq] at e
      have e2 : (numV l).2 = l' := by rw [e]
      rw [← e2]
      unfold numV
      split
      · exact h.tail.tail
      · exact h.tail
  · exact Good.bad
theorem good_close {n : Nat} {m : Often} {l : List Sy} (h : AllSym l) : Good (fun _ => True) (closeP n m l) := by
  unfold closeP; split
  · exact Good.ok trivial h.tail
  · exact Good.bad
theorem good_bounds {n : Nat} {l : List Sy} (h : AllSym l) : Good (fun _ => True) (boundsP n l) := by
  unfold boundsP
  have g := good_number (n := n) (least := 0) h
  split
  · exact Good.err
  · rename_i a l1 e
    have h1 := (g _ _ e).2
    split
    · split
      · exact Good.ok trivial h1.tail.tail
      · have g2 := good_number (n := n) (least := a) h1.tail
        split
        · exact Good.err
        · rename_i m l2 e2
          exact good_close (g2 _ _ e2).2
    · exact good_close h1
theorem good_repeat {n : Nat} {l : List Sy} (h : AllSym l) : Good (fun _ => True) (repeatP n l) := by
  unfold repeatP
  split
  · exact good_bounds h.tail
  · split
    · exact Good.ok trivial h.tail
    · split
      · exact Good.ok trivial h.tail
      · exact Good.ok trivial h.tail
abbrev SymV (c : Int) : Prop := isSym c = true
theorem good_hex : ∀ (f : Nat) (v : Int) (k : Nat) {l : List Sy}, AllSym l → AllSym (hexS f v k l).2.2
  | 0, _, _, _, h => h
  | f + 1, v, k, l, h => by
    rw [hexS]; split
    · exact good_hex f _ _ h.tail
    · exact h
theorem good_code {n : Nat} {l : List Sy} (h : AllSym l) : Good SymV (codeS n l) := by
  unfold codeS
  split
  · unfold codeEnd
    split
    · exact Good.bad
    · split
      · rename_i hs
        exact Good.ok hs (good_hex 6 0 0 h.tail).tail
      · exact Good.bad
  · exact Good.bad
theorem esc_pos {c : Int} (h : isEsc c = true) : ¬ c < 0 := by
  unfold isEsc isMark at h
  simp at h; omega
theorem good_escape {n : Nat} {l : List Sy} (h : AllSym l) : Good SymV (escapeS n l) := by
  unfold escapeS
  split
  · exact good_code h.tail
  · split
    · exact Good.ok (by decide) h.tail
    · split
      · rename_i he
        exact Good.ok (h.hd (esc_pos he)) h.tail
      · exact Good.bad
theorem good_limit {n : Nat} {l : List Sy} (h : AllSym l) : Good SymV (limitS n l) := by
  unfold limitS
  split
  · exact good_escape h.tail
  · split
    · exact Good.bad
    · rename_i hn
      exact Good.ok (h.hd (fun e => hn (.inl e))) h.tail
theorem sym_pos {c : Int} (h : isSym c = true) : 0 ≤ c := (isSym_iff.1 h).1
theorem pos_one {a b : Int} (ha : isSym a = true) (hb : isSym b = true) : Pos [(a, b)] := fun x hx => by simp at hx; subst hx; exact ⟨sym_pos ha, sym_pos hb⟩
theorem tidy_one {a : Int} (h : isSym a = true) : Tidy [(a, a)] := ⟨by show -1 < a; have := sym_pos h; omega, h, h, Int.le_refl _, trivial⟩
theorem tidy_esc (l : List Sy) : Tidy (setEsc l) := by unfold setEsc; split <;> simp [digitsL, lettersL, Tidy, TidyF, isSym, abv]
theorem good_part {n : Nat} {l : List Sy} (h : AllSym l) : Good Pos (partP n l) := by
  unfold partP
  split
  · exact Good.ok (tidy_esc l).pos h.tail.tail
  · have g := good_limit (n := n) h
    split
    · exact Good.err
    · rename_i a l1 e
      obtain ⟨ha, h1⟩ := g _ _ e
      split
      · have g2 := good_limit (n := n) h1.tail
        split
        · exact Good.err
        · rename_i b l2 e2
          obtain ⟨hb, h2⟩ := g2 _ _ e2
          split
          · exact Good.bad
          · exact Good.ok (pos_one ha hb) h2
      · exact Good.ok (pos_one ha ha) h1
theorem good_classLoop {n : Nat} : ∀ (f : Nat) {s : Spans} {l : List Sy}, Tidy s → AllSym l → Good Tidy (classLoopP n f s l)
  | 0, _, _, _, _ => Good.bad
  | f + 1, s, l, hs, h => by
    rw [classLoopP]
    split
    · exact Good.ok hs h.tail
    · have g := good_part (n := n) h
      split
      · exact Good.err
      · rename_i p l1 e
        obtain ⟨hp, h1⟩ := g _ _ e
        exact good_classLoop f (cupS_tidy hs.pos hp) h1
theorem good_class {n : Nat} {l : List Sy} (h : AllSym l) : Good Tidy (classP n l) := by
  unfold classP
  split
  · have g := good_classLoop (n := n) (l.length + 1) (s := []) trivial h.tail
    unfold turnR
    split
    · exact Good.err
    · rename_i s l1 e
      obtain ⟨hs, h1⟩ := g _ _ e
      exact Good.ok (othS_tidy hs.pos) h1
  · exact good_classLoop _ trivial h
theorem good_leaf {n : Nat} {l : List Sy} (h : AllSym l) : Good Tidy (leafP n l) := by
  unfold leafP
  split
  · exact good_class h.tail
  split
  · split
    · exact Good.ok (tidy_esc l) h.tail.tail
    · have g := good_escape (n := n) h.tail
      unfold oneR
      split
      · exact Good.err
      · rename_i c l1 e
        obtain ⟨hc, h1⟩ := g _ _ e
        exact Good.ok (tidy_one hc) h1
  split
  · exact Good.ok (othS_tidy pos_nil) h.tail
  split
  · exact Good.bad
  · rename_i hn
    exact Good.ok (tidy_one (h.hd fun e => hn (.inl e))) h.tail
abbrev OkN (p : Pn) : Prop := OkP p.1
abbrev GoodA (a : List Sy → Res Pn) : Prop := ∀ l, AllSym l → Good OkN (a l)
theorem good_node {n : Nat} {l : List Sy} (h : AllSym l) : Good OkN (nodeR (leafP n l)) := by
  have g := good_leaf (n := n) h
  unfold nodeR
  split
  · exact Good.err
  · rename_i s l1 e
    obtain ⟨hs, h1⟩ := g _ _ e
    exact Good.ok (by show OkP (.set s); rw [OkP]; exact hs) h1
theorem good_reps {n : Nat} : ∀ (f : Nat) {z : Pn} {l : List Sy}, OkN z → AllSym l → Good OkN (repsP n f z l)
  | 0, _, _, _, _ => Good.bad
  | f + 1, z, l, hz, h => by
    rw [repsP]
    split
    · have g := good_repeat (n := n) h
      split
      · exact Good.err
      · rename_i m l1 e
        exact good_reps f (by show OkP (.rep z.1 m.1 m.2.1); rw [OkP]; exact hz) (g _ _ e).2
    · exact Good.ok hz h
theorem good_item {n : Nat} {a : List Sy → Res Pn} (ha : GoodA a) : ∀ (f : Nat) {l : List Sy}, AllSym l → Good OkN (itemP n a f l)
  | 0, _, _ => Good.bad
  | f + 1, l, h => by
    rw [itemP]
    split
    · have g := good_item (n := n) ha f h.tail
      split
      · exact Good.err
      · rename_i z l1 e
        obtain ⟨hz, h1⟩ := g _ _ e
        exact Good.ok (by show OkP (.not z.1); rw [OkP]; exact hz) h1
    · have g := ha l h
      split
      · exact Good.err
      · rename_i z l1 e
        obtain ⟨hz, h1⟩ := g _ _ e
        exact good_reps _ hz h1
theorem okPs_iff : ∀ {l : List Pn}, OkPs (l.map Prod.fst) ↔ ∀ p ∈ l, OkN p
  | [] => by simp [OkPs]
  | p :: r => by rw [List.map_cons, OkPs, okPs_iff]; simp
theorem ok_mkRow {l : List Pn} (h : ∀ p ∈ l, OkN p) : OkN (mkRow l) := by
  unfold mkRow
  split
  · exact h _ (List.mem_cons_self ..)
  · show OkP (.row _); rw [OkP, okPs_iff]; exact h
theorem ok_mkGrp {k : Bool} {l : List Pn} (h : ∀ p ∈ l, OkN p) : OkN (mkGrp k l) := by
  unfold mkGrp
  split
  · exact h _ (List.mem_cons_self ..)
  · show OkP (.grp k _); rw [OkP, okPs_iff]; exact h
theorem snoc_ok {z : List Pn} {y : Pn} (hz : ∀ p ∈ z, OkN p) (hy : OkN y) : ∀ p ∈ z ++ [y], OkN p := by
  intro p hp
  rcases List.mem_append.1 hp with hp | hp
  · exact hz p hp
  · simp at hp; subst hp; exact hy
theorem good_rowLoop {n : Nat} {a : List Sy → Res Pn} (ha : GoodA a) : ∀ (f : Nat) {z : List Pn} {l : List Sy}, (∀ p ∈ z, OkN p) → AllSym l → Good (fun z => ∀ p ∈ z, OkN p) (rowLoopP n a f z l)
  | 0, _, _, _, _ => Good.bad
  | f + 1, z, l, hz, h => by
    rw [rowLoopP]
    split
    · exact Good.ok hz h
    · have g := good_item (n := n) ha (l.length + 1) h
      split
      · exact Good.err
      · rename_i y l1 e
        obtain ⟨hy, h1⟩ := g _ _ e
        exact good_rowLoop ha f (snoc_ok hz hy) h1
theorem one_ok {y : Pn} (hy : OkN y) : ∀ p ∈ [y], OkN p := by intro p hp; simp at hp; subst hp; exact hy
theorem good_row {n : Nat} {a : List Sy → Res Pn} (ha : GoodA a) : GoodA (rowP n a) := by
  intro l h
  unfold rowP
  split
  · exact Good.ok (ok_mkRow (by simp)) h
  · have g := good_item (n := n) ha (l.length + 1) h
    split
    · exact Good.err
    · rename_i y l1 e
      obtain ⟨hy, h1⟩ := g _ _ e
      exact (good_rowLoop ha (l1.length + 1) (one_ok hy) h1).map fun _ hv => ok_mkRow hv
theorem good_sepLoop {n : Nat} {a : List Sy → Res Pn} (ha : GoodA a) (sg : Int) : ∀ (f : Nat) {z : List Pn} {l : List Sy}, (∀ p ∈ z, OkN p) → AllSym l → Good (fun z => ∀ p ∈ z, OkN p) (sepLoopP n a sg f z l)
  | 0, _, _, _, _ => Good.bad
  | f + 1, z, l, hz, h => by
    rw [sepLoopP]
    split
    · have g := ha l.tail h.tail
      split
      · exact Good.err
      · rename_i y l1 e
        obtain ⟨hy, h1⟩ := g _ _ e
        exact good_sepLoop ha sg f (snoc_ok hz hy) h1
    · exact Good.ok hz h
theorem good_sep {n : Nat} {a : List Sy → Res Pn} (ha : GoodA a) (sg : Int) {g : List Pn → Pn} (hg : ∀ z, (∀ p ∈ z, OkN p) → OkN (g z)) : GoodA (sepP n a sg g) := by
  intro l h
  unfold sepP
  have g1 := ha l h
  split
  · exact Good.err
  · rename_i y l1 e
    obtain ⟨hy, h1⟩ := g1 _ _ e
    exact (good_sepLoop ha sg (l1.length + 1) (one_ok hy) h1).map hg
theorem good_both {n : Nat} {a : List Sy → Res Pn} (ha : GoodA a) : GoodA (bothP n a) := good_sep (good_row ha) 38 fun _ hv => ok_mkGrp hv
theorem good_choice {n : Nat} {a : List Sy → Res Pn} (ha : GoodA a) : GoodA (choiceP n a) := good_sep (good_both ha) 124 fun _ hv => ok_mkGrp hv
theorem good_atom {n : Nat} : ∀ k : Nat, GoodA (atomP n k)
  | 0 => by
    intro l h
    rw [atomP]
    split
    · exact Good.bad
    · exact good_node h
  | k + 1 => by
    intro l h
    rw [atomP]
    split
    · have g := good_choice (n := n) (good_atom (n := n) k) l.tail h.tail
      unfold grpP
      split
      · exact Good.err
      · rename_i z l1 e
        obtain ⟨hz, h1⟩ := g _ _ e
        split
        · exact Good.ok hz h1.tail
        · exact Good.bad
    · exact good_node h
/-- the tree of a pattern has tidy sets. -/
theorem parse_ok {s : ByteArray} {q : Pt} (h : parseS s = .ok q) : OkP q := by
  unfold parseS at h
  split at h
  · cases h
  · have g := good_choice (n := s.size) (good_atom (n := s.size) 8) (symsFrom s 0) (symsFrom_sym s 0)
    unfold parseEnd at h
    split at h
    · cases h
    · rename_i z l e
      obtain ⟨hz, _⟩ := g _ _ e
      split at h
      · split at h
        · cases h
        · cases h; exact hz
      · cases h
end Go.Proofs.YtfolanohokflkabGreatDoor

/-
  A literal, its special symbols with a backslash ahead, as it is read: plain.
-/
namespace Go.Proofs.YtfolanohokflkabGreatDoor
def escC (c : Nat) : List Nat := if isMark (c : Int) = true then [92, c] else [c]
def escL (u : List Nat) : List Nat := u.flatMap escC
def leafN (c : Nat) : Pn := (.set [((c : Int), (c : Int))], 1)
def cds (l : List Sy) : List Nat := l.map (·.c)
theorem cds_cons {l : List Sy} {c : Nat} {r : List Nat} (h : cds l = c :: r) : ∃ x l', l = x :: l' ∧ x.c = c ∧ cds l' = r := by
  cases l with
  | nil => simp [cds] at h
  | cons x l' => simp [cds] at h; exact ⟨x, l', rfl, h.1, by simpa [cds] using h.2⟩
theorem mark_iff (c : Int) : isMark c = true ↔ (c = 124 ∨ c = 38 ∨ c = 126 ∨ c = 42 ∨ c = 43 ∨ c = 63 ∨ c = 123 ∨ c = 125 ∨ c = 91 ∨ c = 93 ∨ c = 40 ∨ c = 41 ∨ c = 46 ∨ c = 92) := by
  unfold isMark
  simp
/-- what stands next where a symbol of the literal begins. -/
theorem hd_esc {l : List Sy} {c : Nat} {r : List Nat} (h : cds l = escC c ++ r) : hd l = 92 ∨ (hd l = (c : Int) ∧ isMark (c : Int) = false) := by
  unfold escC at h
  split at h
  · obtain ⟨x, l', rfl, hx, _⟩ := cds_cons (c := 92) (r := c :: r) (by simpa using h)
    exact .inl (by show ((x.c : Nat) : Int) = 92; rw [hx]; rfl)
  · rename_i hm
    obtain ⟨x, l', rfl, hx, _⟩ := cds_cons (c := c) (r := r) (by simpa using h)
    exact .inr ⟨by show ((x.c : Nat) : Int) = c; rw [hx], by simpa using hm⟩
theorem hd_not {l : List Sy} {c : Nat} {r : List Nat} (h : cds l = escC c ++ r) : ¬ hd l = 40 ∧ ¬ hd l = 126 ∧ isRep (hd l) = false ∧ rowEnd (hd l) = false := by
  rcases hd_esc h with e | ⟨e, hm⟩
  · rw [e]; decide
  · have hm' : ¬ isMark (c : Int) = true := by rw [hm]; simp
    rw [mark_iff] at hm'
    rw [e]
    have h0 : ¬ ((c : Int) < 0) := by omega
    refine ⟨by omega, by omega, ?_, ?_⟩
    · unfold isRep
      rw [decide_eq_false (by omega)]
    · unfold rowEnd
      rw [decide_eq_false (by omega)]
theorem leaf_esc {n : Nat} {l : List Sy} {c : Nat} {r : List Nat} (h : cds l = escC c ++ r) : ∃ l', leafP n l = .ok ([((c : Int), (c : Int))], l') ∧ cds l' = r := by
  unfold escC at h
  split at h
  · rename_i hm
    obtain ⟨x, l1, rfl, hx, h1⟩ := cds_cons (c := 92) (r := c :: r) (by simpa using h)
    obtain ⟨y, l2, rfl, hy, h2⟩ := cds_cons h1
    refine ⟨l2, ?_, h2⟩
    have e1 : hd (x :: y :: l2) = 92 := by show ((x.c : Nat) : Int) = 92; rw [hx]; rfl
    have e2 : hd (x :: y :: l2).tail = (c : Int) := by show ((y.c : Nat) : Int) = c; rw [hy]
    have hm' := (mark_iff _).1 hm
    have e3 : isSet (x :: y :: l2) = false := by
      unfold isSet
      rw [decide_eq_false (by rw [e1, e2]; omega)]
    unfold leafP
    rw [e1, e3, if_neg (by decide), if_pos rfl, if_neg (by decide)]
    unfold escapeS
    rw [e2, if_neg (by omega), if_neg (by omega), if_pos (by unfold isEsc; rw [hm]; rfl)]
    rfl
  · rename_i hm
    obtain ⟨x, l1, rfl, hx, h1⟩ := cds_cons (c := c) (r := r) (by simpa using h)
    refine ⟨l1, ?_, h1⟩
    have e1 : hd (x :: l1) = (c : Int) := by show ((x.c : Nat) : Int) = c; rw [hx]
    have hm' := hm
    rw [mark_iff] at hm'
    unfold leafP
    rw [e1, if_neg (by omega), if_neg (by omega), if_neg (by omega), if_neg (by rintro (h | h); omega; exact hm h)]
    rfl
theorem atom_esc {n : Nat} {l : List Sy} {c : Nat} {r : List Nat} (h : cds l = escC c ++ r) : ∃ l', atomP n 8 l = .ok (leafN c, l') ∧ cds l' = r := by
  obtain ⟨l', e, h'⟩ := leaf_esc (n := n) h
  refine ⟨l', ?_, h'⟩
  rw [atomP, if_neg (hd_not h).1, e]
  rfl
/-- the symbols of a literal, or the end. -/
theorem rep_not {l : List Sy} {u : List Nat} (h : cds l = escL u) : isRep (hd l) = false := by
  cases u with
  | nil =>
    have : l = [] := by simpa [cds, escL] using h
    subst this; decide
  | cons c u => exact (hd_not (c := c) (r := escL u) (by rw [h]; rfl)).2.2.1
theorem item_esc {n f : Nat} {l : List Sy} {c : Nat} {u : List Nat} (h : cds l = escL (c :: u)) : ∃ l', itemP n (atomP n 8) (f + 1) l = .ok (leafN c, l') ∧ cds l' = escL u := by
  have h2 : cds l = escC c ++ escL u := by rw [h]; rfl
  obtain ⟨l', e, h'⟩ := atom_esc (n := n) h2
  refine ⟨l', ?_, h'⟩
  rw [itemP, if_neg (hd_not h2).2.1, e]
  dsimp only
  rw [repsP, if_neg (by rw [rep_not h']; simp)]
theorem rowLoop_esc {n : Nat} : ∀ (u : List Nat) (f : Nat) (z : List Pn) (l : List Sy), cds l = escL u → u.length < f → rowLoopP n (atomP n 8) f z l = .ok (z ++ u.map leafN, [])
  | [], f + 1, z, l, h, _ => by
    have : l = [] := by simpa [cds, escL] using h
    subst this
    rw [rowLoopP, if_pos (by decide)]
    simp
  | c :: u, f + 1, z, l, h, hf => by
    have h2 : cds l = escC c ++ escL u := by rw [h]; rfl
    obtain ⟨l', e, h'⟩ := item_esc (n := n) (f := l.length) h
    rw [rowLoopP, if_neg (by rw [(hd_not h2).2.2.2]; simp), e]
    dsimp only
    rw [rowLoop_esc u f _ l' h' (by simp at hf; omega)]
    simp
theorem esc_len (u : List Nat) : u.length ≤ (escL u).length := by
  induction u with
  | nil => simp [escL]
  | cons c u ih =>
    have : (escL (c :: u)).length = (escC c).length + (escL u).length := by simp [escL]
    rw [this, List.length_cons]
    have : 1 ≤ (escC c).length := by unfold escC; split <;> simp
    omega
theorem esc_most (u : List Nat) : (escL u).length ≤ 2 * u.length := by
  induction u with
  | nil => simp [escL]
  | cons c u ih =>
    have : (escL (c :: u)).length = (escC c).length + (escL u).length := by simp [escL]
    rw [this, List.length_cons]
    have : (escC c).length ≤ 2 := by unfold escC; split <;> simp
    omega
theorem row_esc {n : Nat} {u : List Nat} {l : List Sy} (h : cds l = escL u) : rowP n (atomP n 8) l = .ok (mkRow (u.map leafN), []) := by
  cases u with
  | nil =>
    have : l = [] := by simpa [cds, escL] using h
    subst this
    unfold rowP
    rw [if_pos (by decide)]
    rfl
  | cons c u =>
    have h2 : cds l = escC c ++ escL u := by rw [h]; rfl
    obtain ⟨l', e, h'⟩ := item_esc (n := n) (f := l.length) h
    unfold rowP
    rw [if_neg (by rw [(hd_not h2).2.2.2]; simp), e]
    dsimp only
    have hl : u.length < l'.length + 1 := by
      have := esc_len u
      rw [← h'] at this
      simp [cds] at this
      omega
    rw [rowLoop_esc u _ _ l' h' hl]
    rfl
theorem sep_one {n : Nat} {sub : List Sy → Res Pn} {sign : Int} {g : List Pn → Pn} {l : List Sy} {y : Pn} (h : sub l = .ok (y, [])) (hs : ¬ (-1 : Int) = sign) : sepP n sub sign g l = .ok (g [y], []) := by
  unfold sepP
  rw [h]
  dsimp only
  rw [List.length_nil, sepLoopP, if_neg (by show ¬ (-1 : Int) = sign; exact hs)]
  rfl
/-- the tree of a literal. -/
theorem choice_esc {n : Nat} {u : List Nat} {l : List Sy} (h : cds l = escL u) : choiceP n (atomP n 8) l = .ok (mkRow (u.map leafN), []) := by
  have h1 : bothP n (atomP n 8) l = .ok (mkRow (u.map leafN), []) := sep_one (row_esc h) (by decide)
  exact sep_one h1 (by decide)
theorem sum_leaf : ∀ u : List Nat, sumZ (u.map leafN) = u.length
  | [] => rfl
  | c :: u => by
    show (1 : Int) + sumZ (u.map leafN) = _
    rw [sum_leaf u, List.length_cons]
    omega
theorem size_esc {u : List Nat} (h : u.length ≤ 20) : ¬ 60 < (mkRow (u.map leafN)).2 := by
  match u, h with
  | [], _ => decide
  | [c], _ => show ¬ (60 : Int) < 1; decide
  | c :: d :: u, h =>
    have hs := sum_leaf (c :: d :: u)
    have hl : ((c :: d :: u).map leafN).length = (c :: d :: u).length := List.length_map _
    show ¬ (60 : Int) < (if ((c :: d :: u).map leafN).length = 0 then 1 else min ((((c :: d :: u).map leafN).length : Int) - 1 + sumZ ((c :: d :: u).map leafN)) 61)
    rw [hs, hl, if_neg (by simp)]
    omega
/-- a text of bytes below 128, symbol for symbol. -/
theorem low_decode (s : ByteArray) (i : Nat) (h : i < s.size) (hb : s[i].toNat < 128) : Utf8.decode s i = (s[i].toNat, 1) := by
  have h0 := oneFn_decode s i
  have e : oneFn s i = ((s[i].toNat : Int), 1) := by
    unfold oneFn
    have : s.get! i = s[i] := by
      show s.data.get!Internal i = _
      simp [h]
      rfl
    show (if (((s.get! i).toNat : Nat) : Int) < 128 then _ else _) = _
    rw [this, if_pos (by omega)]
  rw [e] at h0
  have h1 := congrArg Prod.fst h0
  have h2 := congrArg Prod.snd h0
  simp at h1 h2
  apply Prod.ext
  · show _ = s[i].toNat
    omega
  · show _ = 1
    omega
theorem cds_low {s : ByteArray} (hs : ∀ (i : Nat) (h : i < s.size), s[i].toNat < 128) : ∀ (k p : Nat), s.size - p = k → cds (symsFrom s p) = (s.data.toList.drop p).map (·.toNat)
  | 0, p, h => by
    rw [symsFrom_nil s p (by omega), List.drop_eq_nil_of_le (by show s.data.size ≤ p; have : s.data.size = s.size := rfl; omega)]
    rfl
  | k + 1, p, h => by
    have hp : p < s.size := by omega
    have hp' : p < s.data.toList.length := hp
    rw [symsFrom_cons s p hp, low_decode s p hp (hs p hp), List.drop_eq_getElem_cons hp']
    show s[p].toNat :: cds (symsFrom s (p + 1)) = _
    rw [cds_low hs k (p + 1) (by omega)]
    rfl
/-- the text of a literal. -/
def bytesOf (l : List Nat) : ByteArray := ⟨(l.map UInt8.ofNat).toArray⟩
theorem bytes_size (l : List Nat) : (bytesOf l).size = l.length := by simp [bytesOf, ByteArray.size]
theorem bytes_at {l : List Nat} (hl : ∀ c ∈ l, c < 128) (i : Nat) (h : i < (bytesOf l).size) : (bytesOf l)[i].toNat = l[i]'(by rw [bytes_size] at h; exact h) := by
  have h' : i < l.length := by rw [bytes_size] at h; exact h
  have e : (bytesOf l)[i] = UInt8.ofNat l[i] := by
    have : (l.map UInt8.ofNat).toArray[i]'(by simpa using h') = UInt8.ofNat l[i] := by simp
    exact this
  rw [e]
  have := hl l[i] (List.getElem_mem h')
  simp
  omega
theorem cds_bytes {l : List Nat} (hl : ∀ c ∈ l, c < 128) : cds (symsFrom (bytesOf l) 0) = l := by
  rw [cds_low (fun i h => by rw [bytes_at hl]; exact hl _ (List.getElem_mem _)) _ 0 rfl]
  show ((l.map UInt8.ofNat).map (·.toNat)) = l
  rw [List.map_map]
  conv => rhs; rw [← List.map_id l]
  apply List.map_congr_left
  intro c hc
  have := hl c hc
  show (UInt8.ofNat c).toNat = c
  simp
  omega
theorem esc_low {u : List Nat} (hu : ∀ c ∈ u, c < 128) : ∀ c ∈ escL u, c < 128 := by
  intro c hc
  obtain ⟨d, hd, hc⟩ := List.mem_flatMap.1 hc
  have := hu d hd
  unfold escC at hc
  split at hc <;> simp at hc <;> omega
end Go.Proofs.YtfolanohokflkabGreatDoor
