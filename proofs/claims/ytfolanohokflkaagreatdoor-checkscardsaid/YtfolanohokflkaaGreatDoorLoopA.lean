import Derived.Test.YtfolanohokflkaaGreatDoorPure
/-
  Sets of symbols as lists of spans: no program, no kit.
-/
namespace Go.Proofs.YtfolanohokflkaaGreatDoor

abbrev Spans := List (Int × Int)
def inS (l : Spans) (c : Int) : Bool := l.any fun x => decide (x.1 ≤ c) && decide (c ≤ x.2)
theorem inS_nil (c : Int) : inS [] c = false := rfl
theorem inS_cons (x : Int × Int) (l : Spans) (c : Int) : inS (x :: l) c = (decide (x.1 ≤ c ∧ c ≤ x.2) || inS l c) := by
  simp [inS, Bool.decide_and]
theorem inS_cons_iff {x : Int × Int} {l : Spans} {c : Int} : inS (x :: l) c = true ↔ (x.1 ≤ c ∧ c ≤ x.2) ∨ inS l c = true := by
  rw [inS_cons]; simp
theorem isSym_iff {n : Int} : isSym n = true ↔ 0 ≤ n ∧ n ≤ 1114111 ∧ (n < 55296 ∨ 57343 < n) := by simp [isSym]

/-- a list with one more, ahead of the first that is greater. -/
def insB {α : Type} (gt : α → α → Bool) (c : α) : List α → List α
  | [] => [c]
  | x :: r => if gt x c = true then c :: x :: r else x :: insB gt c r
theorem mem_insB {α : Type} {gt : α → α → Bool} {c x : α} : ∀ {l : List α}, x ∈ insB gt c l ↔ x = c ∨ x ∈ l
  | [] => by simp [insB]
  | y :: r => by
    rw [insB]
    split
    · simp
    · simp [mem_insB (l := r)]
      constructor
      · rintro (h | h | h) <;> simp [h]
      · rintro (h | h | h) <;> simp [h]
def withB {α : Type} [BEq α] (gt : α → α → Bool) (c : α) (l : List α) : List α := if l.contains c = true then l else insB gt c l
theorem mem_withB {α : Type} [BEq α] [LawfulBEq α] {gt : α → α → Bool} {c x : α} {l : List α} : x ∈ withB gt c l ↔ x = c ∨ x ∈ l := by
  unfold withB
  split
  · rename_i h
    have h' : c ∈ l := by simpa using h
    constructor
    · exact .inr
    · rintro (rfl | h2)
      · exact h'
      · exact h2
  · exact mem_insB
theorem insB_sorted {α : Type} {gt : α → α → Bool} (htr : ∀ a b c, gt b a = true → gt c b = true → gt c a = true) {c : α} :
    ∀ {l : List α}, (∀ x ∈ l, gt x c = true ∨ gt c x = true) → l.Pairwise (fun a b => gt b a = true) → (insB gt c l).Pairwise (fun a b => gt b a = true)
  | [], _, _ => by simp [insB]
  | y :: r, hc, hp => by
    rw [insB]
    have hp' := List.pairwise_cons.1 hp
    split
    · rename_i h
      refine List.pairwise_cons.2 ⟨fun z hz => ?_, hp⟩
      rcases List.mem_cons.1 hz with rfl | hz
      · exact h
      · exact htr _ _ _ h (hp'.1 z hz)
    · rename_i h
      refine List.pairwise_cons.2 ⟨fun z hz => ?_, insB_sorted htr (fun x hx => hc x (List.mem_cons_of_mem _ hx)) hp'.2⟩
      rcases mem_insB.1 hz with rfl | hz
      · rcases hc y (List.mem_cons_self ..) with h2 | h2
        · exact absurd h2 h
        · exact h2
      · exact hp'.1 z hz
/-- sorted lists with the same members are one. -/
theorem sorted_ext {α : Type} {gt : α → α → Bool} (hirr : ∀ a, gt a a = false) (htr : ∀ a b c, gt b a = true → gt c b = true → gt c a = true) :
    ∀ {l m : List α}, l.Pairwise (fun a b => gt b a = true) → m.Pairwise (fun a b => gt b a = true) → (∀ x, x ∈ l ↔ x ∈ m) → l = m
  | [], [], _, _, _ => rfl
  | [], y :: m, _, _, h => absurd ((h y).2 (List.mem_cons_self ..)) (by simp)
  | x :: l, [], _, _, h => absurd ((h x).1 (List.mem_cons_self ..)) (by simp)
  | x :: l, y :: m, hl, hm, h => by
    have hl' := List.pairwise_cons.1 hl
    have hm' := List.pairwise_cons.1 hm
    have e : x = y := by
      rcases List.mem_cons.1 ((h x).1 (List.mem_cons_self ..)) with e | e
      · exact e
      · rcases List.mem_cons.1 ((h y).2 (List.mem_cons_self ..)) with e2 | e2
        · exact e2.symm
        · have h1 := hm'.1 x e
          have h2 := hl'.1 y e2
          have h3 := htr _ _ _ h1 h2
          rw [hirr] at h3; exact absurd h3 (by simp)
    subst e
    have hx : ∀ z, z ∈ l ↔ z ∈ m := by
      intro z
      constructor
      · intro hz
        rcases List.mem_cons.1 ((h z).1 (List.mem_cons_of_mem _ hz)) with e | e
        · subst e; have h3 := hl'.1 z hz; rw [hirr] at h3; exact absurd h3 (by simp)
        · exact e
      · intro hz
        rcases List.mem_cons.1 ((h z).2 (List.mem_cons_of_mem _ hz)) with e | e
        · subst e; have h3 := hm'.1 z hz; rw [hirr] at h3; exact absurd h3 (by simp)
        · exact e
    rw [sorted_ext hirr htr hl'.2 hm'.2 hx]

def gtI (a b : Int) : Bool := decide (b < a)
theorem gtI_iff {a b : Int} : gtI a b = true ↔ b < a := by simp [gtI]
def gapUp (c : Int) : Int := if 55296 ≤ c ∧ c ≤ 57343 then 57344 else c
def placedS (l : List Int) (c : Int) : List Int := if 1114111 < gapUp c then l else withB gtI (gapUp c) l
def SrtI (l : List Int) : Prop := l.Pairwise (fun a b => gtI b a = true)
theorem withI_sorted {l : List Int} (h : SrtI l) (c : Int) : SrtI (withB gtI c l) := by
  unfold withB
  split
  · exact h
  · rename_i hc
    refine insB_sorted (fun a b c h1 h2 => ?_) (fun x hx => ?_) h
    · rw [gtI_iff] at *; omega
    · rw [gtI_iff, gtI_iff]
      have : ¬ x = c := by rintro rfl; exact hc (by simpa using hx)
      omega
theorem placedS_sorted {l : List Int} (h : SrtI l) (c : Int) : SrtI (placedS l c) := by
  unfold placedS; split
  · exact h
  · exact withI_sorted h _
theorem mem_placedS {l : List Int} {c x : Int} : x ∈ placedS l c ↔ x ∈ l ∨ (x = gapUp c ∧ x ≤ 1114111) := by
  unfold placedS
  split
  · constructor
    · exact .inl
    · rintro (h | ⟨rfl, h⟩)
      · exact h
      · omega
  · rw [mem_withB]
    constructor
    · rintro (rfl | h)
      · exact .inr ⟨rfl, by omega⟩
      · exact .inl h
    · rintro (h | ⟨rfl, h⟩)
      · exact .inr h
      · exact .inl rfl
theorem gapUp_ge (c : Int) : c ≤ gapUp c := by unfold gapUp; split <;> omega
theorem gapUp_le {c x : Int} (hx : isSym x = true) (h : c ≤ x) : gapUp c ≤ x := by
  rw [isSym_iff] at hx; unfold gapUp; split <;> omega
theorem gapUp_sym {c : Int} (h0 : 0 ≤ c) (h : gapUp c ≤ 1114111) : isSym (gapUp c) = true := by
  rw [isSym_iff]; unfold gapUp at *; split at h <;> omega

/-- spans whose limits are numbers of symbols, or may be. -/
def Pos (a : Spans) : Prop := ∀ x ∈ a, 0 ≤ x.1 ∧ 0 ≤ x.2
def cutsOf (l : List Int) (a : Spans) : List Int := a.foldl (fun l x => placedS (placedS l x.1) (x.2 + 1)) l
def cutsS (a b : Spans) : List Int := cutsOf (cutsOf [0] a) b
theorem cutsOf_sorted : ∀ (a : Spans) {l : List Int}, SrtI l → SrtI (cutsOf l a)
  | [], _, h => h
  | x :: a, l, h => cutsOf_sorted a (l := placedS (placedS l x.1) (x.2 + 1)) (placedS_sorted (placedS_sorted h _) _)
theorem mem_cutsOf : ∀ (a : Spans) {l : List Int} {y : Int}, y ∈ cutsOf l a ↔ y ∈ l ∨ ∃ x ∈ a, (y = gapUp x.1 ∨ y = gapUp (x.2 + 1)) ∧ y ≤ 1114111
  | [], l, y => by simp [cutsOf]
  | x :: a, l, y => by
    rw [show cutsOf l (x :: a) = cutsOf (placedS (placedS l x.1) (x.2 + 1)) a from rfl, mem_cutsOf a, mem_placedS, mem_placedS]
    constructor
    · rintro (((h | ⟨h1, h2⟩) | ⟨h1, h2⟩) | ⟨z, hz, h⟩)
      · exact .inl h
      · exact .inr ⟨x, List.mem_cons_self .., .inl h1, h2⟩
      · exact .inr ⟨x, List.mem_cons_self .., .inr h1, h2⟩
      · exact .inr ⟨z, List.mem_cons_of_mem _ hz, h⟩
    · rintro (h | ⟨z, hz, h1, h2⟩)
      · exact .inl (.inl (.inl h))
      · rcases List.mem_cons.1 hz with rfl | hz
        · rcases h1 with h1 | h1
          · exact .inl (.inl (.inr ⟨h1, h2⟩))
          · exact .inl (.inr ⟨h1, h2⟩)
        · exact .inr ⟨z, hz, h1, h2⟩
theorem mem_cutsS {a b : Spans} {y : Int} : y ∈ cutsS a b ↔ y = 0 ∨ (∃ x ∈ a, (y = gapUp x.1 ∨ y = gapUp (x.2 + 1)) ∧ y ≤ 1114111) ∨ ∃ x ∈ b, (y = gapUp x.1 ∨ y = gapUp (x.2 + 1)) ∧ y ≤ 1114111 := by
  rw [cutsS, mem_cutsOf, mem_cutsOf, or_assoc]; simp
theorem cutsS_sorted (a b : Spans) : SrtI (cutsS a b) := cutsOf_sorted _ (cutsOf_sorted _ (by simp [SrtI]))
theorem cutsS_sym {a b : Spans} (ha : Pos a) (hb : Pos b) : ∀ y ∈ cutsS a b, isSym y = true := by
  intro y hy
  have key : ∀ l : Spans, Pos l → (∃ x ∈ l, (y = gapUp x.1 ∨ y = gapUp (x.2 + 1)) ∧ y ≤ 1114111) → isSym y = true := by
    rintro l hl ⟨x, hx, rfl | rfl, h⟩
    · exact gapUp_sym (hl x hx).1 h
    · exact gapUp_sym (by have := (hl x hx).2; omega) h
  rcases mem_cutsS.1 hy with rfl | h | h
  · decide
  · exact key a ha h
  · exact key b hb h
theorem srt_head {x : Int} {r : List Int} (h : SrtI (x :: r)) : ∀ y ∈ r, x < y := fun y hy => gtI_iff.1 ((List.pairwise_cons.1 h).1 y hy)
theorem srt_tail {x : Int} {r : List Int} (h : SrtI (x :: r)) : SrtI r := (List.pairwise_cons.1 h).2
/-- the cut at which a symbol's segment begins. -/
def seg : List Int → Int → Int
  | [], c => c
  | [x], _ => x
  | x :: y :: r, c => if y ≤ c then seg (y :: r) c else x
theorem seg_spec : ∀ (l : List Int) (c : Int), SrtI l → (∃ x r, l = x :: r ∧ x ≤ c) → seg l c ∈ l ∧ seg l c ≤ c ∧ ∀ y ∈ l, y ≤ c → y ≤ seg l c
  | [], _, _, h => by obtain ⟨x, r, h, _⟩ := h; cases h
  | [x], c, _, h => by
    obtain ⟨x', r, e, hx⟩ := h
    cases e
    exact ⟨by simp [seg], hx, fun y hy _ => by simp at hy; simp [seg, hy]⟩
  | x :: y :: r, c, hs, h => by
    obtain ⟨x', r', e, hx⟩ := h
    cases e
    rw [seg]
    have h1 := srt_head hs
    split
    · rename_i hy
      obtain ⟨h2, h3, h4⟩ := seg_spec (y :: r) c (srt_tail hs) ⟨y, r, rfl, hy⟩
      refine ⟨List.mem_cons_of_mem _ h2, h3, fun z hz hzc => ?_⟩
      rcases List.mem_cons.1 hz with rfl | hz
      · have := h4 y (List.mem_cons_self ..) hy
        have := h1 y (List.mem_cons_self ..)
        omega
      · exact h4 z hz hzc
    · rename_i hy
      refine ⟨List.mem_cons_self .., hx, fun z hz hzc => ?_⟩
      rcases List.mem_cons.1 hz with rfl | hz
      · exact Int.le_refl _
      · rcases List.mem_cons.1 hz with rfl | hz
        · exact absurd hzc hy
        · have := srt_head (srt_tail hs) z hz
          omega
theorem head_zero {l : List Int} (hs : SrtI l) (h0 : 0 ∈ l) (hp : ∀ y ∈ l, 0 ≤ y) : ∃ r, l = 0 :: r := by
  cases l with
  | nil => simp at h0
  | cons x r =>
    rcases List.mem_cons.1 h0 with h | h
    · exact ⟨r, by rw [h]⟩
    · have := srt_head hs 0 h
      have := hp x (List.mem_cons_self ..)
      omega
/-- a set does not tell a symbol from the cut of its segment. -/
theorem inS_seg {a : Spans} {l : List Int} (hs : SrtI l) (h0 : ∃ x r, l = x :: r ∧ x ≤ 0) (hl : ∀ y ∈ l, isSym y = true)
    (hc : ∀ x ∈ a, ∀ y, y = gapUp x.1 ∨ y = gapUp (x.2 + 1) → y ≤ 1114111 → y ∈ l) {c : Int} (hy : isSym c = true) : inS a c = inS a (seg l c) := by
  have hc0 := isSym_iff.1 hy
  obtain ⟨h1, h2, h3⟩ := seg_spec l c hs (by obtain ⟨x, r, e, h⟩ := h0; exact ⟨x, r, e, by omega⟩)
  have hsy := hl _ h1
  have key : ∀ x ∈ a, (x.1 ≤ c ∧ c ≤ x.2) ↔ (x.1 ≤ seg l c ∧ seg l c ≤ x.2) := by
    intro x hx
    have up : ∀ z : Int, (∀ y, y = gapUp z → y ≤ 1114111 → y ∈ l) → (z ≤ c ↔ z ≤ seg l c) := by
      intro z hz
      constructor
      · intro hzc
        have h4 := gapUp_le hy hzc
        have h5 := hz _ rfl (by omega)
        have := h3 _ h5 h4
        have := gapUp_ge z
        omega
      · intro h; omega
    have u1 := up x.1 (fun y e => hc x hx y (.inl e))
    have u2 := up (x.2 + 1) (fun y e => hc x hx y (.inr e))
    omega
  unfold inS
  rw [Bool.eq_iff_iff, List.any_eq_true, List.any_eq_true]
  constructor
  · rintro ⟨x, hx, h⟩; exact ⟨x, hx, by have := key x hx; simp at h ⊢; omega⟩
  · rintro ⟨x, hx, h⟩; exact ⟨x, hx, by have := key x hx; simp at h ⊢; omega⟩
theorem inS_cuts {a b : Spans} (ha : Pos a) (hb : Pos b) {c : Int} (hy : isSym c = true) : inS a c = inS a (seg (cutsS a b) c) ∧ inS b c = inS b (seg (cutsS a b) c) := by
  have hs := cutsS_sorted a b
  have hl := cutsS_sym ha hb
  obtain ⟨r, hr⟩ := head_zero hs (mem_cutsS.2 (.inl rfl)) (fun y h => (isSym_iff.1 (hl y h)).1)
  have h0 : ∃ x r, cutsS a b = x :: r ∧ x ≤ 0 := ⟨0, r, hr, Int.le_refl _⟩
  exact ⟨inS_seg hs h0 hl (fun x hx y h1 h2 => mem_cutsS.2 (.inr (.inl ⟨x, hx, h1, h2⟩))) hy, inS_seg hs h0 hl (fun x hx y h1 h2 => mem_cutsS.2 (.inr (.inr ⟨x, hx, h1, h2⟩))) hy⟩

/-- the last symbol ahead of the next cut. -/
def hiOf : List Int → Int
  | [] => 1114111
  | y :: _ => if y - 1 = 57343 then 55295 else y - 1
def headP (p : Int → Bool) : List Int → Bool
  | [] => false
  | y :: _ => p y
def joinHead (x h : Int) (b : Bool) (l : Spans) : Spans := match b, l with
  | true, z :: q => (x, z.2) :: q
  | _, l => (x, h) :: l
def tidyS (p : Int → Bool) : List Int → Spans
  | [] => []
  | x :: r => if p x = true then joinHead x (hiOf r) (headP p r) (tidyS p r) else tidyS p r
def abv (h : Int) : Int := if h = 55295 then 57344 else h + 1
def TidyF (m : Int) : Spans → Prop
  | [] => True
  | x :: r => m < x.1 ∧ isSym x.1 = true ∧ isSym x.2 = true ∧ x.1 ≤ x.2 ∧ TidyF (abv x.2) r
abbrev Tidy (l : Spans) : Prop := TidyF (-1) l
theorem TidyF.mono {m n : Int} : ∀ {l : Spans}, TidyF m l → n ≤ m → TidyF n l
  | [], _, _ => trivial
  | _ :: _, h, hn => ⟨by have := h.1; omega, h.2⟩
theorem TidyF.ge {m c : Int} : ∀ {l : Spans}, TidyF m l → inS l c = true → m < c
  | [], _, h => by simp [inS] at h
  | x :: r, h, hc => by
    rcases inS_cons_iff.1 hc with h1 | h1
    · have := h.1; omega
    · have h2 := h.2.2.2.2.ge h1
      have : x.2 < abv x.2 := by unfold abv; split <;> omega
      have := h.1
      have := h.2.2.2.1
      omega
theorem TidyF.pos {m : Int} : ∀ {l : Spans}, TidyF m l → Pos l
  | [], _ => fun x h => by simp at h
  | y :: r, h => fun x hx => by
    rcases List.mem_cons.1 hx with rfl | hx
    · exact ⟨(isSym_iff.1 h.2.1).1, (isSym_iff.1 h.2.2.1).1⟩
    · exact h.2.2.2.2.pos x hx
theorem abv_sym {h y : Int} (hh : isSym h = true) (hy : isSym y = true) (hlt : h < y) : isSym (abv h) = true ∧ abv h ≤ y ∧ h < abv h := by
  rw [isSym_iff] at *; unfold abv; split <;> omega
/-- tidy sets with the same symbols are one list. -/
theorem tidy_ext : ∀ {m n : Int} {a b : Spans}, TidyF m a → TidyF n b → (∀ c, isSym c = true → inS a c = inS b c) → a = b
  | _, _, [], [], _, _, _ => rfl
  | _, _, [], y :: b, _, hb, h => by
    have := h y.1 hb.2.1
    rw [inS_nil, inS_cons] at this
    simp [hb.2.2.2.1] at this
  | _, _, x :: a, [], ha, _, h => by
    have := h x.1 ha.2.1
    rw [inS_nil, inS_cons] at this
    simp [ha.2.2.2.1] at this
  | _, _, x :: a, y :: b, ha, hb, h => by
    have xin : inS (x :: a) x.1 = true := inS_cons_iff.2 (.inl ⟨Int.le_refl _, ha.2.2.2.1⟩)
    have yin : inS (y :: b) y.1 = true := inS_cons_iff.2 (.inl ⟨Int.le_refl _, hb.2.2.2.1⟩)
    have lo : ∀ {m : Int} {z : Int × Int} {l : Spans} {c : Int}, TidyF m (z :: l) → inS (z :: l) c = true → z.1 ≤ c := by
      intro m z l c hz hc
      rcases inS_cons_iff.1 hc with h1 | h1
      · exact h1.1
      · have := hz.2.2.2.2.ge h1
        have : z.2 < abv z.2 := by unfold abv; split <;> omega
        have := hz.2.2.2.1
        omega
    have e1 : x.1 = y.1 := by
      have h1 := lo hb (by rw [← h x.1 ha.2.1]; exact xin)
      have h2 := lo ha (by rw [h y.1 hb.2.1]; exact yin)
      omega
    have no : ∀ {m : Int} {z : Int × Int} {l : Spans} {c : Int}, TidyF m (z :: l) → z.2 < c → c ≤ abv z.2 → ¬ inS (z :: l) c = true := by
      intro m z l c hz h1 h2 hc
      rcases inS_cons_iff.1 hc with h3 | h3
      · omega
      · have := hz.2.2.2.2.ge h3
        omega
    have e2 : x.2 = y.2 := by
      rcases Int.lt_trichotomy x.2 y.2 with hlt | he | hgt
      · obtain ⟨h1, h2, h3⟩ := abv_sym ha.2.2.1 hb.2.2.1 hlt
        refine absurd ?_ (no ha h3 (Int.le_refl _))
        rw [h _ h1]
        exact inS_cons_iff.2 (.inl ⟨by have := ha.2.2.2.1; omega, h2⟩)
      · exact he
      · obtain ⟨h1, h2, h3⟩ := abv_sym hb.2.2.1 ha.2.2.1 hgt
        refine absurd ?_ (no hb h3 (Int.le_refl _))
        rw [← h _ h1]
        exact inS_cons_iff.2 (.inl ⟨by have := hb.2.2.2.1; omega, h2⟩)
    have e : x = y := Prod.ext e1 e2
    subst e
    have hr : ∀ c, isSym c = true → inS a c = inS b c := by
      intro c hc
      have h1 := h c hc
      rw [inS_cons, inS_cons] at h1
      by_cases hin : x.1 ≤ c ∧ c ≤ x.2
      · have g : ∀ {l : Spans}, TidyF (abv x.2) l → inS l c = false := by
          intro l hl
          cases hb2 : inS l c with
          | false => rfl
          | true =>
            have := hl.ge hb2
            have : x.2 < abv x.2 := by unfold abv; split <;> omega
            omega
        rw [g ha.2.2.2.2, g hb.2.2.2.2]
      · simpa [hin] using h1
    rw [tidy_ext ha.2.2.2.2 hb.2.2.2.2 hr]

theorem tidyS_head {p : Int → Bool} {y : Int} {r : List Int} (h : p y = true) : ∃ z q, tidyS p (y :: r) = (y, z) :: q := by
  rw [tidyS, if_pos h]
  unfold joinHead
  split
  · exact ⟨_, _, rfl⟩
  · exact ⟨_, _, rfl⟩
theorem tidyS_tidy (p : Int → Bool) : ∀ (l : List Int) (m : Int), SrtI l → (∀ y ∈ l, isSym y = true) → (∀ y ∈ l, m < y) → TidyF m (tidyS p l)
  | [], _, _, _, _ => trivial
  | x :: r, m, hs, hy, hm => by
    rw [tidyS]
    have hx := srt_head hs
    have hr : ∀ y ∈ r, isSym y = true := fun y h => hy y (List.mem_cons_of_mem _ h)
    have hmx := hm x (List.mem_cons_self ..)
    have hxs := hy x (List.mem_cons_self ..)
    split
    · cases r with
      | nil => exact ⟨hmx, hxs, by show isSym 1114111 = true; decide, by show x ≤ 1114111; have := isSym_iff.1 hxs; omega, trivial⟩
      | cons y r =>
        have hxy := hx y (List.mem_cons_self ..)
        have hys := isSym_iff.1 (hr y (List.mem_cons_self ..))
        have hxs' := isSym_iff.1 hxs
        cases hp : p y with
        | true =>
          have ih := tidyS_tidy p (y :: r) x (srt_tail hs) hr hx
          obtain ⟨z, q, e⟩ := tidyS_head (r := r) hp
          rw [e] at ih ⊢
          rw [show headP p (y :: r) = true from hp]
          exact ⟨hmx, hxs, ih.2.2.1, by show x ≤ z; have := ih.2.2.2.1; simp at this; omega, ih.2.2.2.2⟩
        | false =>
          have ih := tidyS_tidy p r y (srt_tail (srt_tail hs)) (fun z h => hr z (List.mem_cons_of_mem _ h)) (srt_head (srt_tail hs))
          rw [show headP p (y :: r) = false from hp, tidyS, if_neg (by rw [hp]; decide)]
          have e1 : abv (hiOf (y :: r)) = y := by simp only [hiOf, abv]; split <;> split <;> omega
          refine ⟨hmx, hxs, ?_, ?_, ?_⟩
          · show isSym (hiOf (y :: r)) = true
            rw [isSym_iff]; simp only [hiOf]; split <;> omega
          · show x ≤ hiOf (y :: r)
            simp only [hiOf]; split <;> omega
          · show TidyF (abv (hiOf (y :: r))) _
            rw [e1]; exact ih
    · exact tidyS_tidy p r m (srt_tail hs) hr (fun y h => hm y (List.mem_cons_of_mem _ h))
theorem tidyS_in (p : Int → Bool) : ∀ (l : List Int) (c : Int), SrtI l → (∀ y ∈ l, isSym y = true) → isSym c = true → (∃ x r, l = x :: r ∧ x ≤ c) → inS (tidyS p l) c = p (seg l c)
  | [], _, _, _, _, h => by obtain ⟨x, r, h, _⟩ := h; cases h
  | [x], c, _, _, hc, h => by
    obtain ⟨x', r, e, hx⟩ := h
    cases e
    rw [seg, tidyS]
    have := isSym_iff.1 hc
    split
    · rename_i hp
      rw [hp]
      exact inS_cons_iff.2 (.inl ⟨hx, by show c ≤ 1114111; omega⟩)
    · rename_i hp
      simp [tidyS, inS]
      simpa using hp
  | x :: y :: r, c, hs, hy, hc, h => by
    obtain ⟨x', r', e, hx⟩ := h
    cases e
    have hxy := srt_head hs y (List.mem_cons_self ..)
    have hr : ∀ z ∈ y :: r, isSym z = true := fun z h => hy z (List.mem_cons_of_mem _ h)
    have hcs := isSym_iff.1 hc
    have hys := isSym_iff.1 (hr y (List.mem_cons_self ..))
    rw [seg]
    by_cases hyc : y ≤ c
    · rw [if_pos hyc, ← tidyS_in p (y :: r) c (srt_tail hs) hr hc ⟨y, r, rfl, hyc⟩]
      rw [tidyS]
      split
      · cases hp : p y with
        | true =>
          obtain ⟨z, q, e⟩ := tidyS_head (r := r) hp
          rw [e, show headP p (y :: r) = true from hp]
          show inS ((x, z) :: q) c = _
          rw [inS_cons, inS_cons]
          have hiff : (x ≤ c ∧ c ≤ z) ↔ (y ≤ c ∧ c ≤ z) := by omega
          simp only [hiff]
        | false =>
          rw [show headP p (y :: r) = false from hp]
          show inS ((x, hiOf (y :: r)) :: tidyS p (y :: r)) c = _
          rw [inS_cons]
          have : hiOf (y :: r) < c := by simp only [hiOf]; split <;> omega
          simp; omega
      · rfl
    · rw [if_neg hyc]
      have hbelow : inS (tidyS p (y :: r)) c = false := by
        cases hb : inS (tidyS p (y :: r)) c with
        | false => rfl
        | true =>
          have := (tidyS_tidy p (y :: r) (y - 1) (srt_tail hs) hr (fun z hz => by
            rcases List.mem_cons.1 hz with rfl | hz
            · omega
            · have := srt_head (srt_tail hs) z hz; omega)).ge hb
          omega
      rw [tidyS]
      split
      · rename_i hpx
        rw [hpx]
        cases hp : p y with
        | true =>
          have ht := tidyS_tidy p (y :: r) (-1) (srt_tail hs) hr (fun z hz => by have := isSym_iff.1 (hr z hz); omega)
          obtain ⟨z, q, e⟩ := tidyS_head (r := r) hp
          rw [e] at ht ⊢
          rw [show headP p (y :: r) = true from hp]
          exact inS_cons_iff.2 (.inl ⟨hx, by have := ht.2.2.2.1; simp at this; show c ≤ z; omega⟩)
        | false =>
          rw [show headP p (y :: r) = false from hp]
          exact inS_cons_iff.2 (.inl ⟨hx, by show c ≤ hiOf (y :: r); simp only [hiOf]; split <;> omega⟩)
      · rename_i hpx
        rw [hbelow]; simpa using hpx

def cupS (a b : Spans) : Spans := tidyS (fun x => inS a x || inS b x) (cutsS a b)
def capS (a b : Spans) : Spans := tidyS (fun x => inS a x && inS b x) (cutsS a b)
def othS (a : Spans) : Spans := tidyS (fun x => !inS a x) (cutsS a [])
theorem cuts_zero {a b : Spans} (ha : Pos a) (hb : Pos b) {c : Int} (hc : isSym c = true) : ∃ x r, cutsS a b = x :: r ∧ x ≤ c := by
  obtain ⟨r, hr⟩ := head_zero (cutsS_sorted a b) (mem_cutsS.2 (.inl rfl)) (fun y h => (isSym_iff.1 (cutsS_sym ha hb y h)).1)
  exact ⟨0, r, hr, (isSym_iff.1 hc).1⟩
theorem cupS_in {a b : Spans} (ha : Pos a) (hb : Pos b) {c : Int} (hc : isSym c = true) : inS (cupS a b) c = (inS a c || inS b c) := by
  rw [cupS, tidyS_in _ _ c (cutsS_sorted a b) (cutsS_sym ha hb) hc (cuts_zero ha hb hc), ← (inS_cuts ha hb hc).1, ← (inS_cuts ha hb hc).2]
theorem capS_in {a b : Spans} (ha : Pos a) (hb : Pos b) {c : Int} (hc : isSym c = true) : inS (capS a b) c = (inS a c && inS b c) := by
  rw [capS, tidyS_in _ _ c (cutsS_sorted a b) (cutsS_sym ha hb) hc (cuts_zero ha hb hc), ← (inS_cuts ha hb hc).1, ← (inS_cuts ha hb hc).2]
theorem pos_nil : Pos [] := fun x h => by simp at h
theorem othS_in {a : Spans} (ha : Pos a) {c : Int} (hc : isSym c = true) : inS (othS a) c = !inS a c := by
  rw [othS, tidyS_in _ _ c (cutsS_sorted a []) (cutsS_sym ha pos_nil) hc (cuts_zero ha pos_nil hc), ← (inS_cuts ha pos_nil hc).1]
theorem tidy_of {a b : Spans} (ha : Pos a) (hb : Pos b) (p : Int → Bool) : Tidy (tidyS p (cutsS a b)) :=
  tidyS_tidy _ _ _ (cutsS_sorted a b) (cutsS_sym ha hb) (fun y hy => by have := isSym_iff.1 (cutsS_sym ha hb y hy); omega)
theorem cupS_tidy {a b : Spans} (ha : Pos a) (hb : Pos b) : Tidy (cupS a b) := tidy_of ha hb _
theorem capS_tidy {a b : Spans} (ha : Pos a) (hb : Pos b) : Tidy (capS a b) := tidy_of ha hb _
theorem othS_tidy {a : Spans} (ha : Pos a) : Tidy (othS a) := tidy_of ha pos_nil _
end Go.Proofs.YtfolanohokflkaaGreatDoor

/-
  The loops of the lists, from the left on: no program, no kit.
-/
namespace Go.Proofs.YtfolanohokflkaaGreatDoor

def doneAt {α : Type} (gt : α → α → Bool) (c : α) (l : List α) : Bool := l.any fun x => gt x c
def mAt {α : Type} (gt : α → α → Bool) (c : α) (l : List α) : List α := if doneAt gt c l = true then insB gt c l else l
theorem done_snoc {α : Type} (gt : α → α → Bool) (c y : α) (l : List α) : doneAt gt c (l ++ [y]) = (doneAt gt c l || gt y c) := by simp [doneAt]
theorem insB_snoc {α : Type} (gt : α → α → Bool) (c y : α) : ∀ l : List α, doneAt gt c l = true → insB gt c (l ++ [y]) = insB gt c l ++ [y]
  | [], h => by simp [doneAt] at h
  | x :: l, h => by
    rw [List.cons_append, insB, insB]
    by_cases hx : gt x c = true
    · rw [if_pos hx, if_pos hx]; rfl
    · rw [if_neg hx, if_neg hx, insB_snoc gt c y l (by simpa [doneAt, hx] using h)]; rfl
theorem insB_none {α : Type} (gt : α → α → Bool) (c : α) : ∀ l : List α, doneAt gt c l = false → insB gt c l = l ++ [c]
  | [], _ => rfl
  | x :: l, h => by
    have hx : ¬ gt x c = true := by intro hx; simp [doneAt, hx] at h
    rw [insB, if_neg hx, insB_none gt c l (by simpa [doneAt, hx] using h)]; rfl
theorem insB_first {α : Type} (gt : α → α → Bool) (c y : α) (hy : gt y c = true) : ∀ l : List α, doneAt gt c l = false → insB gt c (l ++ [y]) = l ++ [c, y]
  | [], _ => by rw [List.nil_append, insB, if_pos hy]; rfl
  | x :: l, h => by
    have hx : ¬ gt x c = true := by intro hx; simp [doneAt, hx] at h
    rw [List.cons_append, insB, if_neg hx, insB_first gt c y hy l (by simpa [doneAt, hx] using h)]; rfl
theorem mAt_nil {α : Type} (gt : α → α → Bool) (c : α) : mAt gt c [] = [] := rfl
theorem mAt_done {α : Type} {gt : α → α → Bool} {c y : α} {l : List α} (h : doneAt gt c l = true) : mAt gt c (l ++ [y]) = mAt gt c l ++ [y] := by
  unfold mAt
  rw [done_snoc, h, Bool.true_or, if_pos rfl, if_pos rfl, insB_snoc gt c y l h]
theorem mAt_new {α : Type} {gt : α → α → Bool} {c y : α} {l : List α} (h : doneAt gt c l = false) (hy : gt y c = true) : mAt gt c (l ++ [y]) = mAt gt c l ++ [c] ++ [y] := by
  unfold mAt
  rw [done_snoc, h, hy, Bool.or_true, if_pos rfl, if_neg (by decide), insB_first gt c y hy l h]; simp
theorem mAt_low {α : Type} {gt : α → α → Bool} {c y : α} {l : List α} (h : doneAt gt c l = false) (hy : gt y c = false) : mAt gt c (l ++ [y]) = mAt gt c l ++ [y] := by
  unfold mAt
  rw [done_snoc, h, hy, Bool.or_false, if_neg (by decide), if_neg (by decide)]
theorem insB_end {α : Type} (gt : α → α → Bool) (c : α) (l : List α) : insB gt c l = if doneAt gt c l = true then mAt gt c l else mAt gt c l ++ [c] := by
  unfold mAt
  cases h : doneAt gt c l with
  | true => rw [if_pos rfl, if_pos rfl]
  | false => rw [if_neg (by decide), if_neg (by decide), insB_none gt c l h]
theorem mAt_len {α : Type} (gt : α → α → Bool) (c : α) (l : List α) : (mAt gt c l).length ≤ l.length + 1 := by
  have h := insB_len gt c l
  unfold mAt; split <;> omega
where insB_len {α : Type} (gt : α → α → Bool) (c : α) : ∀ l : List α, (insB gt c l).length = l.length + 1
  | [] => rfl
  | x :: l => by rw [insB]; split <;> simp [insB_len gt c l]
theorem placedS_len (l : List Int) (c : Int) : (placedS l c).length ≤ l.length + 1 := by
  unfold placedS
  split
  · omega
  · unfold withB
    split
    · omega
    · rw [mAt_len.insB_len]; omega
theorem cutsOf_len : ∀ (a : Spans) (l : List Int), (cutsOf l a).length ≤ l.length + 2 * a.length
  | [], l => by simp [cutsOf]
  | x :: a, l => by
    have h1 := placedS_len l x.1
    have h2 := placedS_len (placedS l x.1) (x.2 + 1)
    have h3 := cutsOf_len a (placedS (placedS l x.1) (x.2 + 1))
    rw [List.length_cons]
    show (cutsOf (placedS (placedS l x.1) (x.2 + 1)) a).length ≤ _
    omega
theorem cutsS_len (a b : Spans) : (cutsS a b).length ≤ 1 + 2 * (a.length + b.length) := by
  have h1 := cutsOf_len b (cutsOf [0] a)
  have h2 := cutsOf_len a [0]
  unfold cutsS
  simp at h2
  omega
theorem cutsOf_snoc (l : List Int) (a : Spans) (x : Int × Int) : cutsOf l (a ++ [x]) = placedS (placedS (cutsOf l a) x.1) (x.2 + 1) := by simp [cutsOf]

/-- tidy's loop: what is there, whether the last cut was kept, the cuts that are left. -/
def tidyRun (p : Int → Bool) : Spans → Bool → List Int → Spans
  | acc, _, [] => acc
  | acc, prev, x :: r => if p x = true then (if prev = true then tidyRun p (acc.dropLast ++ [((acc.getLastD (0, 0)).1, hiOf r)]) true r else tidyRun p (acc ++ [(x, hiOf r)]) true r) else tidyRun p acc false r
theorem tidyRun_eq (p : Int → Bool) : ∀ (r : List Int) (acc : Spans), tidyRun p acc false r = acc ++ tidyS p r ∧ ∀ a h, tidyRun p (acc ++ [(a, h)]) true r = acc ++ joinHead a h (headP p r) (tidyS p r)
  | [], acc => ⟨by simp [tidyRun, tidyS], fun a h => by simp [tidyRun, tidyS, headP, joinHead]⟩
  | x :: r, acc => by
    constructor
    · rw [tidyRun, tidyS]
      by_cases hx : p x = true
      · rw [if_pos hx, if_pos hx, if_neg (by decide), (tidyRun_eq p r acc).2]
      · rw [if_neg hx, if_neg hx, (tidyRun_eq p r acc).1]
    · intro a h
      rw [tidyRun]
      by_cases hx : p x = true
      · rw [if_pos hx, if_pos rfl, List.dropLast_concat, List.getLastD_concat, (tidyRun_eq p r acc).2, show headP p (x :: r) = true from hx, tidyS, if_pos hx]
        congr 1
        unfold joinHead
        split <;> rfl
      · rw [if_neg hx, (tidyRun_eq p r _).1, show headP p (x :: r) = false from by simpa [headP] using hx, tidyS, if_neg hx]
        simp [joinHead]
theorem tidyRun_all (p : Int → Bool) (l : List Int) : tidyRun p [] false l = tidyS p l := by rw [(tidyRun_eq p l []).1]; rfl
theorem joinHead_len (x h : Int) (b : Bool) (l : Spans) : (joinHead x h b l).length ≤ l.length + 1 := by
  unfold joinHead; split <;> simp
theorem tidyS_len (p : Int → Bool) : ∀ l : List Int, 2 * (tidyS p l).length ≤ l.length + (if headP p l = true then 1 else 0)
  | [] => by simp [tidyS]
  | x :: r => by
    have ih := tidyS_len p r
    rw [tidyS, List.length_cons]
    by_cases hx : p x = true
    · rw [if_pos hx, show headP p (x :: r) = true from hx, if_pos rfl]
      cases hr : headP p r with
      | true =>
        rw [hr, if_pos rfl] at ih
        cases ht : tidyS p r with
        | nil => simp [joinHead]
        | cons z q => rw [ht] at ih; simp [joinHead] at ih ⊢; omega
      | false =>
        rw [hr, if_neg (by decide)] at ih
        have := joinHead_len x (hiOf r) false (tidyS p r)
        omega
    · rw [if_neg hx]
      have : headP p (x :: r) = false := by simpa [headP] using hx
      rw [this, if_neg (by decide)]
      split at ih <;> omega
theorem op_len {a b : Spans} {p : Int → Bool} : (tidyS p (cutsS a b)).length ≤ a.length + b.length + 1 := by
  have h1 := tidyS_len p (cutsS a b)
  have h2 := cutsS_len a b
  split at h1 <;> omega
theorem cupS_len (a b : Spans) : (cupS a b).length ≤ a.length + b.length + 1 := op_len
theorem capS_len (a b : Spans) : (capS a b).length ≤ a.length + b.length + 1 := op_len
theorem othS_len (a : Spans) : (othS a).length ≤ a.length + 1 := op_len (b := [])
end Go.Proofs.YtfolanohokflkaaGreatDoor
