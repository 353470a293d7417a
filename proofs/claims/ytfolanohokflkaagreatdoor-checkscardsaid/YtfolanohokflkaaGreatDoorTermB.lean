import Derived.Test.YtfolanohokflkaaGreatDoorTermA
/-
  The texts of terms: no two are the same, none is the beginning of another; their order: no program, no kit.
-/
namespace Go.Proofs.YtfolanohokflkaaGreatDoor
open Tm (eps)

def digV (c : UInt8) : Nat := if 97 ≤ c.toNat then c.toNat - 87 else c.toNat - 48
def isHexB (c : UInt8) : Prop := (48 ≤ c.toNat ∧ c.toNat ≤ 57) ∨ (97 ≤ c.toNat ∧ c.toNat ≤ 102)
theorem hexD_hex {d : Nat} (h : d < 16) : isHexB (hexD d) := by
  unfold isHexB hexD
  split
  · rw [UInt8.toNat_ofNat_of_lt' (by show _ < 256; omega)]; omega
  · rw [UInt8.toNat_ofNat_of_lt' (by show _ < 256; omega)]; omega
theorem hexD_val {d : Nat} (h : d < 16) : digV (hexD d) = d := by
  unfold digV hexD
  split
  · rw [UInt8.toNat_ofNat_of_lt' (by show _ < 256; omega), if_neg (by omega)]; omega
  · rw [UInt8.toNat_ofNat_of_lt' (by show _ < 256; omega), if_pos (by omega)]; omega
def hexVal (v : Nat) (l : List UInt8) : Nat := l.foldl (fun n c => 16 * n + digV c) v
theorem hexF_val : ∀ (f n : Nat) (acc : List UInt8), n < f → hexVal 0 (hexF f n acc) = hexVal n acc
  | 0, _, _, h => absurd h (Nat.not_lt_zero _)
  | f + 1, n, acc, h => by
    have hd := hexD_val (d := n % 16) (Nat.mod_lt _ (by omega))
    rw [hexF]
    split
    · show hexVal (16 * 0 + digV (hexD (n % 16))) acc = _
      rw [hd]; congr 1; omega
    · rw [hexF_val f (n / 16) _ (by omega)]
      show hexVal (16 * (n / 16) + digV (hexD (n % 16))) acc = _
      rw [hd]; congr 1; omega
theorem hexT_val (n : Nat) : hexVal 0 (hexT n) = n := hexF_val (n + 1) n [] (Nat.lt_succ_self n)
theorem hexF_hex : ∀ (f n : Nat) (acc : List UInt8), (∀ c ∈ acc, isHexB c) → ∀ c ∈ hexF f n acc, isHexB c
  | 0, _, _, h => h
  | f + 1, n, acc, h => by
    have hd := hexD_hex (d := n % 16) (Nat.mod_lt _ (by omega))
    rw [hexF]
    split
    · intro c hc
      rcases List.mem_cons.1 hc with rfl | hc
      · exact hd
      · exact h c hc
    · refine hexF_hex f _ _ fun c hc => ?_
      rcases List.mem_cons.1 hc with rfl | hc
      · exact hd
      · exact h c hc
theorem hexT_hex (n : Nat) : ∀ c ∈ hexT n, isHexB c := hexF_hex _ _ _ (by simp)
theorem hexF_ne : ∀ (f n : Nat) (acc : List UInt8), 0 < f ∨ acc ≠ [] → hexF f n acc ≠ []
  | 0, _, acc, h => by rw [hexF]; exact h.resolve_left (by omega)
  | f + 1, n, acc, _ => by
    rw [hexF]
    split
    · simp
    · exact hexF_ne f _ _ (.inr (by simp))
theorem hexT_ne (n : Nat) : hexT n ≠ [] := hexF_ne _ _ _ (.inl (by omega))
theorem hexT_inj {m n : Nat} (h : hexT m = hexT n) : m = n := by rw [← hexT_val m, ← hexT_val n, h]

theorem run_uniq {d : UInt8} : ∀ {u v x y : List UInt8}, d ∉ u → d ∉ v → u ++ d :: x = v ++ d :: y → u = v ∧ x = y
  | [], [], x, y, _, _, h => by simpa using h
  | [], b :: v, x, y, _, hv, h => by
    simp only [List.nil_append, List.cons_append, List.cons.injEq] at h
    exact absurd (by rw [h.1]; exact List.mem_cons_self ..) hv
  | a :: u, [], x, y, hu, _, h => by
    simp only [List.nil_append, List.cons_append, List.cons.injEq] at h
    exact absurd (by rw [← h.1]; exact List.mem_cons_self ..) hu
  | a :: u, b :: v, x, y, hu, hv, h => by
    simp only [List.cons_append, List.cons.injEq] at h
    obtain ⟨e1, e2⟩ := run_uniq (fun hm => hu (List.mem_cons_of_mem _ hm)) (fun hm => hv (List.mem_cons_of_mem _ hm)) h.2
    exact ⟨by rw [h.1, e1], e2⟩
theorem not_hex {d : UInt8} {n : Nat} (h : d = 45 ∨ d = 44 ∨ d = 93 ∨ d = 59) : d ∉ hexT n := by
  intro hm
  have := hexT_hex n d hm
  unfold isHexB at this
  rcases h with rfl | rfl | rfl | rfl <;> simp at this
theorem spansT_inj : ∀ {a b : Spans} {x y : List UInt8}, Pos a → Pos b → spansT a ++ 93 :: x = spansT b ++ 93 :: y → a = b ∧ x = y
  | [], [], x, y, _, _, h => by simpa [spansT] using h
  | [], q :: b, x, y, _, _, h => by
    exfalso
    rw [spansT, spansT] at h
    obtain ⟨c, r, hc⟩ := List.exists_cons_of_ne_nil (hexT_ne q.1.toNat)
    have h1 := hexT_hex q.1.toNat c (by rw [hc]; exact List.mem_cons_self ..)
    rw [hc] at h
    simp only [List.nil_append, List.cons_append, List.cons.injEq] at h
    rw [← h.1] at h1
    unfold isHexB at h1; simp at h1
  | p :: a, [], x, y, _, _, h => by
    exfalso
    rw [spansT, spansT] at h
    obtain ⟨c, r, hc⟩ := List.exists_cons_of_ne_nil (hexT_ne p.1.toNat)
    have h1 := hexT_hex p.1.toNat c (by rw [hc]; exact List.mem_cons_self ..)
    rw [hc] at h
    simp only [List.nil_append, List.cons_append, List.cons.injEq] at h
    rw [h.1] at h1
    unfold isHexB at h1; simp at h1
  | p :: a, q :: b, x, y, ha, hb, h => by
    rw [spansT, spansT] at h
    simp only [List.append_assoc, List.cons_append] at h
    obtain ⟨e1, h⟩ := run_uniq (not_hex (.inl rfl)) (not_hex (.inl rfl)) h
    obtain ⟨e2, h⟩ := run_uniq (not_hex (.inr (.inl rfl))) (not_hex (.inr (.inl rfl))) h
    obtain ⟨e3, e4⟩ := spansT_inj (fun z hz => ha z (List.mem_cons_of_mem _ hz)) (fun z hz => hb z (List.mem_cons_of_mem _ hz)) h
    have ep := hexT_inj e1
    have eq := hexT_inj e2
    have p0 := ha p (List.mem_cons_self ..)
    have q0 := hb q (List.mem_cons_self ..)
    refine ⟨?_, e4⟩
    rw [e3, show p = q from Prod.ext (by omega) (by omega)]
theorem sign_inj {k k' : Bool} (h : sign k = sign k') : k = k' := by cases k <;> cases k' <;> simp [sign] at h ⊢
theorem sign_ne (k : Bool) : sign k ≠ 91 ∧ sign k ≠ 101 ∧ sign k ≠ 46 ∧ sign k ≠ 42 ∧ sign k ≠ 126 ∧ sign k ≠ 59 := by cases k <;> decide
/-- the first sign of a term's text. -/
theorem rend_first : ∀ (m : Option Bool) (t : Tm), ∃ c r, rendF m t = c :: r ∧ c ≠ 59
  | _, .set l => ⟨91, _, rfl, by decide⟩
  | _, .eps => ⟨101, _, rfl, by decide⟩
  | _, .chain a b => ⟨46, _, rfl, by decide⟩
  | _, .star a => ⟨42, _, rfl, by decide⟩
  | _, .not a => ⟨126, _, rfl, by decide⟩
  | m, .grp k a b => by
    rw [rendF]
    split
    · obtain ⟨c, r, h, hc⟩ := rend_first Option.none a
      exact ⟨c, r ++ rendF (some k) b, by rw [h]; rfl, hc⟩
    · exact ⟨sign k, _, rfl, (sign_ne k).2.2.2.2.2⟩
def notGrp (k : Bool) : Tm → Bool
  | .grp k' _ _ => k' != k
  | _ => true
theorem rend_some {k : Bool} : ∀ {t : Tm}, notGrp k t = true → rendF (some k) t = rend t
  | .set _, _ => rfl
  | .eps, _ => rfl
  | .chain _ _, _ => rfl
  | .star _, _ => rfl
  | .not _, _ => rfl
  | .grp k' a b, h => by
    have : k' ≠ k := by simpa [notGrp] using h
    rw [rend, rendF, rendF, if_neg (by simpa using fun e => this e.symm), if_neg (by simp)]
theorem rend_rest (k : Bool) (a b : Tm) : rendF (some k) (.grp k a b) = rend a ++ rendF (some k) b := by rw [rendF, if_pos rfl]
theorem rend_grp (k : Bool) (a b : Tm) : rend (.grp k a b) = sign k :: (rend a ++ (rendF (some k) b ++ [59])) := by rw [rend, rendF, if_neg (by simp)]
theorem grp_or (k : Bool) (t : Tm) : (∃ a b, t = .grp k a b) ∨ notGrp k t = true := by
  cases t with
  | grp k' a b =>
    by_cases h : k' = k
    · exact .inl ⟨a, b, by rw [h]⟩
    · exact .inr (by simpa [notGrp] using h)
  | _ => exact .inr rfl
theorem rend_rest_inj {k : Bool} {a : Tm} (P : ∀ (b : Tm) (x y : List UInt8), OkT b → rend a ++ x = rend b ++ y → a = b ∧ x = y)
    (Q : ∀ a1 a2, a = .grp k a1 a2 → (∀ (b : Tm) (x y : List UInt8), OkT b → rend a1 ++ x = rend b ++ y → a1 = b ∧ x = y) ∧ ∀ (b : Tm) (x y : List UInt8), OkT b → rendF (some k) a2 ++ 59 :: x = rendF (some k) b ++ 59 :: y → a2 = b ∧ x = y)
    (b : Tm) (x y : List UInt8) (hb : OkT b) (h : rendF (some k) a ++ 59 :: x = rendF (some k) b ++ 59 :: y) : a = b ∧ x = y := by
  rcases grp_or k a with ⟨a1, a2, rfl⟩ | ha
  · obtain ⟨P1, Q2⟩ := Q a1 a2 rfl
    rw [rend_rest, List.append_assoc] at h
    rcases grp_or k b with ⟨b1, b2, rfl⟩ | hb'
    · rw [rend_rest, List.append_assoc] at h
      obtain ⟨e1, h⟩ := P1 b1 _ _ hb.1 h
      obtain ⟨e2, h⟩ := Q2 b2 _ _ hb.2 h
      exact ⟨by rw [e1, e2], h⟩
    · rw [rend_some hb'] at h
      obtain ⟨e1, h⟩ := P1 b _ _ hb h
      obtain ⟨c, r, hc, hn⟩ := rend_first (some k) a2
      rw [hc] at h
      simp only [List.cons_append, List.cons.injEq] at h
      exact absurd h.1 hn
  · rw [rend_some ha] at h
    rcases grp_or k b with ⟨b1, b2, rfl⟩ | hb'
    · rw [rend_rest, List.append_assoc] at h
      obtain ⟨e1, h⟩ := P b1 _ _ hb.1 h
      obtain ⟨c, r, hc, hn⟩ := rend_first (some k) b2
      rw [hc] at h
      simp only [List.cons_append, List.cons.injEq] at h
      exact absurd h.1.symm hn
    · rw [rend_some hb'] at h
      obtain ⟨e1, h⟩ := P b _ _ hb h
      simp only [List.cons.injEq, true_and] at h
      exact ⟨e1, h⟩
theorem rend_inj2 : ∀ (a : Tm), OkT a → (∀ (b : Tm) (x y : List UInt8), OkT b → rend a ++ x = rend b ++ y → a = b ∧ x = y) ∧
    ∀ k, ∀ (b : Tm) (x y : List UInt8), OkT b → rendF (some k) a ++ 59 :: x = rendF (some k) b ++ 59 :: y → a = b ∧ x = y
  | .set l, ha => by
    have P : ∀ (b : Tm) (x y : List UInt8), OkT b → rend (.set l) ++ x = rend b ++ y → .set l = b ∧ x = y := by
      intro b x y hb h
      cases b with
      | set m =>
        simp only [rend, rendF, List.cons_append, List.append_assoc, List.cons.injEq, true_and, List.nil_append] at h
        obtain ⟨e1, e2⟩ := spansT_inj (TidyF.pos ha) (TidyF.pos hb) h
        exact ⟨by rw [e1], e2⟩
      | grp k c d => rw [rend_grp] at h; simp [rend, rendF] at h; exact absurd h.1.symm (sign_ne k).1
      | _ => simp [rend, rendF] at h
    exact ⟨P, fun k => rend_rest_inj P (fun _ _ h => by cases h)⟩
  | .eps, ha => by
    have P : ∀ (b : Tm) (x y : List UInt8), OkT b → rend eps ++ x = rend b ++ y → eps = b ∧ x = y := by
      intro b x y hb h
      cases b with
      | eps => simp [rend, rendF] at h; exact ⟨rfl, h⟩
      | grp k c d => rw [rend_grp] at h; simp [rend, rendF] at h; exact absurd h.1.symm (sign_ne k).2.1
      | _ => simp [rend, rendF] at h
    exact ⟨P, fun k => rend_rest_inj P (fun _ _ h => by cases h)⟩
  | .chain a1 a2, ha => by
    have P1 := (rend_inj2 a1 ha.1).1
    have P2 := (rend_inj2 a2 ha.2).1
    have P : ∀ (b : Tm) (x y : List UInt8), OkT b → rend (.chain a1 a2) ++ x = rend b ++ y → .chain a1 a2 = b ∧ x = y := by
      intro b x y hb h
      cases b with
      | chain b1 b2 =>
        simp only [rend, rendF, List.cons_append, List.append_assoc, List.cons.injEq, true_and] at h
        obtain ⟨e1, h⟩ := P1 b1 _ _ hb.1 h
        obtain ⟨e2, h⟩ := P2 b2 _ _ hb.2 h
        exact ⟨by rw [e1, e2], h⟩
      | grp k c d => rw [rend_grp] at h; simp [rend, rendF] at h; exact absurd h.1.symm (sign_ne k).2.2.1
      | _ => simp [rend, rendF] at h
    exact ⟨P, fun k => rend_rest_inj P (fun _ _ h => by cases h)⟩
  | .star a1, ha => by
    have P1 := (rend_inj2 a1 ha).1
    have P : ∀ (b : Tm) (x y : List UInt8), OkT b → rend (.star a1) ++ x = rend b ++ y → .star a1 = b ∧ x = y := by
      intro b x y hb h
      cases b with
      | star b1 =>
        simp only [rend, rendF, List.cons_append, List.cons.injEq, true_and] at h
        obtain ⟨e1, h⟩ := P1 b1 _ _ hb h
        exact ⟨by rw [e1], h⟩
      | grp k c d => rw [rend_grp] at h; simp [rend, rendF] at h; exact absurd h.1.symm (sign_ne k).2.2.2.1
      | _ => simp [rend, rendF] at h
    exact ⟨P, fun k => rend_rest_inj P (fun _ _ h => by cases h)⟩
  | .not a1, ha => by
    have P1 := (rend_inj2 a1 ha).1
    have P : ∀ (b : Tm) (x y : List UInt8), OkT b → rend (.not a1) ++ x = rend b ++ y → .not a1 = b ∧ x = y := by
      intro b x y hb h
      cases b with
      | not b1 =>
        simp only [rend, rendF, List.cons_append, List.cons.injEq, true_and] at h
        obtain ⟨e1, h⟩ := P1 b1 _ _ hb h
        exact ⟨by rw [e1], h⟩
      | grp k c d => rw [rend_grp] at h; simp [rend, rendF] at h; exact absurd h.1.symm (sign_ne k).2.2.2.2.1
      | _ => simp [rend, rendF] at h
    exact ⟨P, fun k => rend_rest_inj P (fun _ _ h => by cases h)⟩
  | .grp k a1 a2, ha => by
    have P1 := (rend_inj2 a1 ha.1).1
    have Q2 := (rend_inj2 a2 ha.2).2
    have P : ∀ (b : Tm) (x y : List UInt8), OkT b → rend (.grp k a1 a2) ++ x = rend b ++ y → .grp k a1 a2 = b ∧ x = y := by
      intro b x y hb h
      rw [rend_grp] at h
      cases b with
      | grp k' b1 b2 =>
        rw [rend_grp] at h
        simp only [List.cons_append, List.append_assoc, List.cons.injEq, List.nil_append] at h
        have hk := sign_inj h.1
        subst hk
        obtain ⟨e1, h⟩ := P1 b1 _ _ hb.1 h.2
        obtain ⟨e2, h⟩ := Q2 k b2 _ _ hb.2 h
        exact ⟨by rw [e1, e2], h⟩
      | set l => simp [rend, rendF] at h; exact absurd h.1 (sign_ne k).1
      | eps => simp [rend, rendF] at h; exact absurd h.1 (sign_ne k).2.1
      | chain c d => simp [rend, rendF] at h; exact absurd h.1 (sign_ne k).2.2.1
      | star c => simp [rend, rendF] at h; exact absurd h.1 (sign_ne k).2.2.2.1
      | not c => simp [rend, rendF] at h; exact absurd h.1 (sign_ne k).2.2.2.2.1
    exact ⟨P, fun k' => rend_rest_inj P (fun c d h => by
      cases h
      exact ⟨P1, Q2 k⟩)⟩
theorem rend_inj {a b : Tm} (ha : OkT a) (hb : OkT b) (h : rend a = rend b) : a = b := ((rend_inj2 a ha).1 b [] [] hb (by rw [h])).1

/-! the order -/
theorem gtB_irrefl : ∀ l : List UInt8, gtB l l = false
  | [] => rfl
  | x :: r => by rw [gtB, if_pos rfl, gtB_irrefl r]
theorem gtB_trans : ∀ a b c : List UInt8, gtB b a = true → gtB c b = true → gtB c a = true
  | _, [], _, h, _ => by simp [gtB] at h
  | _, _ :: _, [], _, h => by simp [gtB] at h
  | [], _ :: _, _ :: _, _, _ => rfl
  | x :: a, y :: b, z :: c, h1, h2 => by
    rw [gtB] at h1 h2 ⊢
    by_cases e1 : y = x
    · by_cases e2 : z = y
      · rw [if_pos e1] at h1; rw [if_pos e2] at h2; rw [if_pos (e2.trans e1)]
        exact gtB_trans a b c h1 h2
      · rw [if_neg e2] at h2; rw [e1] at e2; rw [if_neg e2]; rw [e1] at h2; exact h2
    · rw [if_neg e1] at h1
      have h1' := of_decide_eq_true h1
      by_cases e2 : z = y
      · subst e2; rw [if_neg e1]; exact h1
      · rw [if_neg e2] at h2
        have h2' := of_decide_eq_true h2
        have : x < z := UInt8.lt_trans h1' h2'
        rw [if_neg (by rintro rfl; exact absurd this (UInt8.lt_irrefl _))]
        exact decide_eq_true this
theorem gtB_total : ∀ a b : List UInt8, gtB a b = true ∨ gtB b a = true ∨ a = b
  | [], [] => .inr (.inr rfl)
  | [], _ :: _ => .inr (.inl rfl)
  | _ :: _, [] => .inl rfl
  | x :: a, y :: b => by
    rw [gtB, gtB]
    by_cases e : x = y
    · subst e
      rw [if_pos rfl, if_pos rfl]
      rcases gtB_total a b with h | h | h
      · exact .inl h
      · exact .inr (.inl h)
      · exact .inr (.inr (by rw [h]))
    · rw [if_neg e, if_neg (fun h => e h.symm)]
      rcases UInt8.lt_or_lt_of_ne e with h | h
      · exact .inr (.inl (decide_eq_true h))
      · exact .inl (decide_eq_true h)
theorem gtT_irrefl (a : Tm) : gtT a a = false := gtB_irrefl _
theorem gtT_trans (a b c : Tm) : gtT b a = true → gtT c b = true → gtT c a = true := gtB_trans _ _ _
theorem gtT_total {a b : Tm} (ha : OkT a) (hb : OkT b) : gtT a b = true ∨ gtT b a = true ∨ a = b := by
  rcases gtB_total (rend a) (rend b) with h | h | h
  · exact .inl h
  · exact .inr (.inl h)
  · exact .inr (.inr (rend_inj ha hb h))
def SrtT (l : List Tm) : Prop := l.Pairwise (fun a b => gtT b a = true)
theorem srtT_ext {l m : List Tm} (hl : SrtT l) (hm : SrtT m) (h : ∀ x, x ∈ l ↔ x ∈ m) : l = m := sorted_ext gtT_irrefl gtT_trans hl hm h
theorem withT_sorted {l : List Tm} (h : SrtT l) (hl : ∀ t ∈ l, OkT t) {c : Tm} (hc : OkT c) : SrtT (withB gtT c l) := by
  unfold withB
  split
  · exact h
  · rename_i hn
    refine insB_sorted gtT_trans (fun x hx => ?_) h
    rcases gtT_total (hl x hx) hc with h1 | h1 | h1
    · exact .inl h1
    · exact .inr h1
    · subst h1; exact absurd (by simpa using hx) hn
theorem fold_sorted : ∀ {f l : List Tm}, SrtT l → (∀ t ∈ l, OkT t) → (∀ t ∈ f, OkT t) → SrtT (f.foldl (fun l t => withB gtT t l) l)
  | [], _, h, _, _ => h
  | x :: f, l, h, hl, hf => by
    have hx := hf x (List.mem_cons_self ..)
    refine fold_sorted (f := f) (withT_sorted h hl hx) (fun t ht => ?_) (fun t ht => hf t (List.mem_cons_of_mem _ ht))
    rcases mem_withB.1 ht with rfl | ht
    · exact hx
    · exact hl t ht
theorem outs_sorted {f : List Tm} (hf : ∀ t ∈ f, OkT t) : SrtT (outs f) := by
  refine fold_sorted (by simp [SrtT]) (by simp) fun t ht => hf t ?_
  rw [nonSets] at ht
  exact (List.mem_filter.1 ht).1
theorem withSet_ok {k : Bool} {f : List Tm} (hf : ∀ t ∈ f, OkT t) : (∀ t ∈ withSet k f, OkT t) ∧ SrtT (withSet k f) := by
  have h1 : ∀ t ∈ withSet k f, OkT t := by
    intro t ht
    rcases mem_withSet.1 ht with h | ⟨s, hs, rfl⟩
    · exact hf t h.1
    · exact foldS_tidy hs fun x hx => hf (.set x) (mem_sets.1 hx)
  refine ⟨h1, ?_⟩
  unfold withSet at h1 ⊢
  split
  · exact outs_sorted hf
  · rename_i s hs
    exact withT_sorted (outs_sorted hf) (fun t ht => hf t (mem_outs.1 ht).1) (foldS_tidy hs fun x hx => hf (.set x) (mem_sets.1 hx))
end Go.Proofs.YtfolanohokflkaaGreatDoor
