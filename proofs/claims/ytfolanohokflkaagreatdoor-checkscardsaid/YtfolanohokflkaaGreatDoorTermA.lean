import Derived.Test.YtfolanohokflkaaGreatDoorLoopA
/-
  Terms, the form in which they are kept, what they become, their words: no program, no kit.
-/
namespace Go.Proofs.YtfolanohokflkaaGreatDoor

/-- a term; grp: an any (false) or an all (true), of its first member and the rest. -/
inductive Tm where
  | set (l : List (Int × Int))
  | eps
  | chain (a b : Tm)
  | star (a : Tm)
  | not (a : Tm)
  | grp (k : Bool) (a b : Tm)
deriving DecidableEq

abbrev voidT : Tm := .set []
abbrev whole : Tm := .not (.set [])
open Tm (eps)

/-! texts of terms -/
def hexD (d : Nat) : UInt8 := if d < 10 then UInt8.ofNat (48 + d) else UInt8.ofNat (87 + d)
def hexF : Nat → Nat → List UInt8 → List UInt8
  | 0, _, acc => acc
  | f + 1, n, acc => if n / 16 = 0 then hexD (n % 16) :: acc else hexF f (n / 16) (hexD (n % 16) :: acc)
def hexT (n : Nat) : List UInt8 := hexF (n + 1) n []
def spansT : Spans → List UInt8
  | [] => []
  | x :: r => hexT x.1.toNat ++ (45 :: (hexT x.2.toNat ++ (44 :: spansT r)))
def sign (k : Bool) : UInt8 := if k = true then 38 else 124
/-- the text of a term; within members of a kind the rest of them follows without its sign. -/
def rendF : Option Bool → Tm → List UInt8
  | _, .set l => 91 :: (spansT l ++ [93])
  | _, .eps => [101]
  | _, .chain a b => 46 :: (rendF .none a ++ rendF .none b)
  | _, .star a => 42 :: rendF .none a
  | _, .not a => 126 :: rendF .none a
  | m, .grp k a b => if m = some k then rendF .none a ++ rendF (some k) b else sign k :: (rendF .none a ++ (rendF (some k) b ++ [59]))
abbrev rend (t : Tm) : List UInt8 := rendF Option.none t

def gtB : List UInt8 → List UInt8 → Bool
  | [], _ => false
  | _ :: _, [] => true
  | x :: r, y :: s => if x = y then gtB r s else decide (y < x)
def gtT (a b : Tm) : Bool := gtB (rend a) (rend b)

/-! the form -/
def isChain : Tm → Bool
  | .chain _ _ => true
  | _ => false
def chainT : Tm → Tm → Tm
  | .chain x y, b => if b = voidT then voidT else if b = eps then .chain x y else chainT x (chainT y b)
  | .set l, b => if .set l = voidT ∨ b = voidT then voidT else if b = eps then .set l else .chain (.set l) b
  | .eps, b => b
  | .star a, b => if b = voidT then voidT else if b = eps then .star a else .chain (.star a) b
  | .not a, b => if b = voidT then voidT else if b = eps then .not a else .chain (.not a) b
  | .grp k x y, b => if b = voidT then voidT else if b = eps then .grp k x y else .chain (.grp k x y) b
def starT (a : Tm) : Tm := if a = voidT ∨ a = eps then eps else match a with
  | .star x => .star x
  | x => .star x
def notT : Tm → Tm
  | .not a => a
  | a => .not a
/-- the members of a term of a kind; another is its own one. -/
def memT (k : Bool) : Tm → List Tm
  | .grp k' a b => if k' = k then a :: memT k b else [.grp k' a b]
  | t => [t]
def joinT (k : Bool) : List Tm → Tm
  | [] => voidT
  | [a] => a
  | a :: r => .grp k a (joinT k r)
def unitT (k : Bool) : Tm := if k = true then whole else voidT
def zeroT (k : Bool) : Tm := if k = true then voidT else whole
def setOfT : Tm → Option Spans
  | .set l => some l
  | _ => Option.none
def opS (k : Bool) (a b : Spans) : Spans := if k = true then capS a b else cupS a b
def foldS (k : Bool) : List Spans → Option Spans
  | [] => Option.none
  | s :: r => some (r.foldl (opS k) s)
def nonSets (f : List Tm) : List Tm := f.filter fun t => (setOfT t).isNone
/-- the members that are no sets, rising, each once. -/
def outs (f : List Tm) : List Tm := (nonSets f).foldl (fun l t => withB gtT t l) []
def withSet (k : Bool) (f : List Tm) : List Tm := match foldS k (f.filterMap setOfT) with
  | Option.none => outs f
  | some s => withB gtT (.set s) (outs f)
def endG (k : Bool) (out : List Tm) : Tm := if zeroT k ∈ out then zeroT k else match out.filter (fun t => decide (t ≠ unitT k)) with
  | [] => unitT k
  | l => joinT k l
def groupT (k : Bool) (l : List Tm) : Tm := endG k (withSet k (l.flatMap (memT k)))

def nullT : Tm → Bool
  | .set _ => false
  | .eps => true
  | .chain a b => nullT a && nullT b
  | .star _ => true
  | .not a => !nullT a
  | .grp k a b => if k = true then nullT a && nullT b else nullT a || nullT b
def one1 : List Tm → Tm
  | t :: _ => t
  | [] => voidT
/-- what a term becomes; within members of a kind: what each of them does. -/
def derL (c : Int) : Option Bool → Tm → List Tm
  | _, .set l => [if inS l c = true then eps else voidT]
  | _, .eps => [voidT]
  | _, .chain a b => [if nullT a = true then groupT false [chainT (one1 (derL c .none a)) b, one1 (derL c .none b)] else chainT (one1 (derL c .none a)) b]
  | _, .star a => [chainT (one1 (derL c .none a)) (.star a)]
  | _, .not a => [notT (one1 (derL c .none a))]
  | m, .grp k a b => if m = some k then one1 (derL c .none a) :: derL c (some k) b else [groupT k (one1 (derL c .none a) :: derL c (some k) b)]
def derT (c : Int) (t : Tm) : Tm := one1 (derL c Option.none t)
theorem derL_mem (c : Int) (k : Bool) : ∀ t : Tm, derL c (some k) t = (memT k t).map (derT c)
  | .set l => by simp [derL, memT, derT, one1]
  | .eps => by simp [derL, memT, derT, one1]
  | .chain a b => by simp [derL, memT, derT, one1]
  | .star a => by simp [derL, memT, derT, one1]
  | .not a => by simp [derL, memT, derT, one1]
  | .grp k' a b => by
    have ih := derL_mem c k b
    rw [derL, memT]
    by_cases h : k' = k
    · subst h
      rw [if_pos rfl, if_pos rfl, ih]; rfl
    · rw [if_neg h, if_neg (by simpa using fun e => h e.symm)]
      simp [derT, derL, one1]
theorem derT_set (c : Int) (l : Spans) : derT c (.set l) = if inS l c = true then eps else voidT := rfl
theorem derT_eps (c : Int) : derT c eps = voidT := rfl
theorem derT_chain (c : Int) (a b : Tm) : derT c (.chain a b) = if nullT a = true then groupT false [chainT (derT c a) b, derT c b] else chainT (derT c a) b := rfl
theorem derT_star (c : Int) (a : Tm) : derT c (.star a) = chainT (derT c a) (.star a) := rfl
theorem derT_not (c : Int) (a : Tm) : derT c (.not a) = notT (derT c a) := rfl
theorem derT_grp (c : Int) (k : Bool) (a b : Tm) : derT c (.grp k a b) = groupT k ((memT k (.grp k a b)).map (derT c)) := by
  rw [memT, if_pos rfl, List.map_cons, ← derL_mem]
  simp [derT, derL, one1]

theorem chainT_eq (a b : Tm) : chainT a b = if a = voidT ∨ b = voidT then voidT else if a = eps then b else if b = eps then a else match a with
    | .chain x y => chainT x (chainT y b)
    | a => .chain a b := by
  cases a with
  | set l => by_cases h : l = [] <;> simp [chainT, h]
  | eps => by_cases h : b = voidT <;> simp [chainT, h]
  | chain x y => simp [chainT]
  | star a => simp [chainT]
  | not a => simp [chainT]
  | grp k x y => simp [chainT]
theorem chainT_none_left (b : Tm) : chainT voidT b = voidT := by rw [chainT_eq]; simp
theorem chainT_none_right (a : Tm) : chainT a voidT = voidT := by rw [chainT_eq]; simp
theorem chainT_eps_left (b : Tm) : chainT eps b = b := by cases b <;> rfl
theorem chainT_eps_right (a : Tm) : chainT a eps = a := by
  rw [chainT_eq]
  by_cases h : a = voidT
  · simp [h]
  · by_cases h2 : a = eps <;> simp [h, h2]

/-! words -/
inductive Star (P : List Int → Prop) : List Int → Prop where
  | nil : Star P []
  | more {u v : List Int} : P u → Star P v → Star P (u ++ v)
def wd : Tm → List Int → Prop
  | .set l, w => ∃ c, w = [c] ∧ inS l c = true
  | .eps, w => w = []
  | .chain a b, w => ∃ u v, w = u ++ v ∧ wd a u ∧ wd b v
  | .star a, w => Star (wd a) w
  | .not a, w => ¬ wd a w
  | .grp k a b, w => if k = true then wd a w ∧ wd b w else wd a w ∨ wd b w
def Syms (w : List Int) : Prop := ∀ c ∈ w, isSym c = true
theorem Syms.left {u v : List Int} (h : Syms (u ++ v)) : Syms u := fun c hc => h c (List.mem_append_left _ hc)
theorem Syms.right {u v : List Int} (h : Syms (u ++ v)) : Syms v := fun c hc => h c (List.mem_append_right _ hc)

theorem wd_none {w : List Int} : ¬ wd voidT w := by rintro ⟨c, _, h⟩; simp [inS] at h
theorem wd_whole {w : List Int} : wd whole w := wd_none
theorem wd_chainT : ∀ (a b : Tm) (w : List Int), wd (chainT a b) w ↔ ∃ u v, w = u ++ v ∧ wd a u ∧ wd b v
  | a, b, w => by
    rw [chainT_eq]
    by_cases h1 : a = voidT
    · subst h1
      rw [if_pos (.inl rfl)]
      exact ⟨fun h => absurd h wd_none, fun ⟨u, v, _, h, _⟩ => absurd h wd_none⟩
    by_cases h2 : b = voidT
    · subst h2
      rw [if_pos (.inr rfl)]
      exact ⟨fun h => absurd h wd_none, fun ⟨u, v, _, _, h⟩ => absurd h wd_none⟩
    rw [if_neg (by simp [h1, h2])]
    by_cases h3 : a = eps
    · subst h3
      rw [if_pos rfl]
      constructor
      · intro h; exact ⟨[], w, rfl, rfl, h⟩
      · rintro ⟨u, v, rfl, hu, hv⟩
        have hu' : u = [] := hu
        subst hu'; exact hv
    rw [if_neg h3]
    by_cases h4 : b = eps
    · subst h4
      rw [if_pos rfl]
      constructor
      · intro h; exact ⟨w, [], by simp, h, rfl⟩
      · rintro ⟨u, v, rfl, hu, hv⟩
        have hv' : v = [] := hv
        subst hv'; simpa using hu
    rw [if_neg h4]
    cases a with
    | chain x y =>
      show wd (chainT x (chainT y b)) w ↔ _
      rw [wd_chainT x]
      constructor
      · rintro ⟨u, v, rfl, hu, hv⟩
        obtain ⟨u2, v2, rfl, hu2, hv2⟩ := (wd_chainT y b v).1 hv
        exact ⟨u ++ u2, v2, by simp, ⟨u, u2, rfl, hu, hu2⟩, hv2⟩
      · rintro ⟨u, v, rfl, ⟨u1, u2, rfl, hu1, hu2⟩, hv⟩
        exact ⟨u1, u2 ++ v, by simp, hu1, (wd_chainT y b _).2 ⟨u2, v, rfl, hu2, hv⟩⟩
    | set l => exact Iff.rfl
    | eps => exact absurd rfl h3
    | star a => exact Iff.rfl
    | not a => exact Iff.rfl
    | grp k x y => exact Iff.rfl
  termination_by a => a
theorem Star.append {P : List Int → Prop} {u v : List Int} (h : Star P u) (k : Star P v) : Star P (u ++ v) := by
  induction h with
  | nil => exact k
  | more hp _ ih => rw [List.append_assoc]; exact .more hp ih
theorem Star.mono {P Q : List Int → Prop} (h : ∀ w, P w → Q w) {w : List Int} (s : Star P w) : Star Q w := by
  induction s with
  | nil => exact .nil
  | more hp _ ih => exact .more (h _ hp) ih
theorem Star.flat {P : List Int → Prop} {w : List Int} (s : Star (Star P) w) : Star P w := by
  induction s with
  | nil => exact .nil
  | more hp _ ih => exact hp.append ih
theorem wd_starT (a : Tm) (w : List Int) : wd (starT a) w ↔ Star (wd a) w := by
  unfold starT
  by_cases h : a = voidT ∨ a = eps
  · rw [if_pos h]
    constructor
    · intro hw
      have hw' : w = [] := hw
      subst hw'; exact .nil
    · intro hs
      show w = []
      induction hs with
      | nil => rfl
      | more hp _ ih =>
        rcases h with rfl | rfl
        · exact absurd hp wd_none
        · rw [show _ = [] from hp, ih]; rfl
  · rw [if_neg h]
    cases a with
    | star x =>
      constructor
      · intro hs; exact (show Star (wd (.star x)) w from by have := Star.more (P := wd (.star x)) (u := w) (v := []) hs .nil; simpa using this)
      · intro hs; exact hs.flat
    | set l => exact Iff.rfl
    | eps => exact Iff.rfl
    | chain x y => exact Iff.rfl
    | not a => exact Iff.rfl
    | grp k x y => exact Iff.rfl
theorem wd_notT (a : Tm) (w : List Int) : wd (notT a) w ↔ ¬ wd a w := by
  cases a with
  | not x => exact Classical.not_not.symm
  | set l => exact Iff.rfl
  | eps => exact Iff.rfl
  | chain x y => exact Iff.rfl
  | star a => exact Iff.rfl
  | grp k x y => exact Iff.rfl

/-- the words of members together. -/
def wdL (k : Bool) (l : List Tm) (w : List Int) : Prop := if k = true then ∀ t ∈ l, wd t w else ∃ t ∈ l, wd t w
theorem wdL_cons (k : Bool) (t : Tm) (l : List Tm) (w : List Int) : wdL k (t :: l) w ↔ if k = true then wd t w ∧ wdL k l w else wd t w ∨ wdL k l w := by
  cases k <;> simp [wdL]
theorem wdL_append (k : Bool) (l m : List Tm) (w : List Int) : wdL k (l ++ m) w ↔ if k = true then wdL k l w ∧ wdL k m w else wdL k l w ∨ wdL k m w := by
  cases k
  · simp only [wdL, Bool.false_eq_true, if_false, List.mem_append]
    constructor
    · rintro ⟨t, h | h, ht⟩
      · exact .inl ⟨t, h, ht⟩
      · exact .inr ⟨t, h, ht⟩
    · rintro (⟨t, h, ht⟩ | ⟨t, h, ht⟩)
      · exact ⟨t, .inl h, ht⟩
      · exact ⟨t, .inr h, ht⟩
  · simp only [wdL, if_true, List.mem_append]
    exact ⟨fun h => ⟨fun t ht => h t (.inl ht), fun t ht => h t (.inr ht)⟩, fun h t ht => ht.elim (h.1 t) (h.2 t)⟩
theorem wdL_ext {k : Bool} {l m : List Tm} (h : ∀ t, t ∈ l ↔ t ∈ m) (w : List Int) : wdL k l w ↔ wdL k m w := by
  cases k <;> simp [wdL, h]
theorem wd_mem (k : Bool) (w : List Int) : ∀ t : Tm, wd t w ↔ wdL k (memT k t) w
  | .set l => by cases k <;> simp [memT, wdL]
  | .eps => by cases k <;> simp [memT, wdL]
  | .chain a b => by cases k <;> simp [memT, wdL]
  | .star a => by cases k <;> simp [memT, wdL]
  | .not a => by cases k <;> simp [memT, wdL]
  | .grp k' a b => by
    have ih := wd_mem k w b
    rw [memT]
    by_cases h : k' = k
    · subst h
      rw [if_pos rfl, wdL_cons, ← ih]
      exact Iff.rfl
    · rw [if_neg h]
      cases k <;> simp [wdL]
theorem wd_joinT (k : Bool) (w : List Int) : ∀ l : List Tm, l ≠ [] → (wd (joinT k l) w ↔ wdL k l w)
  | [], h => absurd rfl h
  | [a], _ => by cases k <;> simp [joinT, wdL]
  | a :: b :: r, _ => by
    rw [show joinT k (a :: b :: r) = .grp k a (joinT k (b :: r)) from rfl, wdL_cons, ← wd_joinT k w (b :: r) (by simp)]
    exact Iff.rfl

/-- all sets in a term are tidy. -/
def OkT : Tm → Prop
  | .set l => Tidy l
  | .eps => True
  | .chain a b => OkT a ∧ OkT b
  | .star a => OkT a
  | .not a => OkT a
  | .grp _ a b => OkT a ∧ OkT b
theorem okNone : OkT voidT := trivial
theorem okWhole : OkT whole := trivial
theorem okChain : ∀ (a b : Tm), OkT a → OkT b → OkT (chainT a b)
  | a, b, ha, hb => by
    rw [chainT_eq]
    split
    · exact okNone
    split
    · exact hb
    split
    · exact ha
    cases a with
    | chain x y => exact okChain x _ ha.1 (okChain y b ha.2 hb)
    | set l => exact ⟨ha, hb⟩
    | eps => exact ⟨ha, hb⟩
    | star a => exact ⟨ha, hb⟩
    | not a => exact ⟨ha, hb⟩
    | grp k x y => exact ⟨ha, hb⟩
  termination_by a => a
theorem okStar {a : Tm} (h : OkT a) : OkT (starT a) := by
  unfold starT
  split
  · trivial
  · cases a <;> exact h
theorem okNot {a : Tm} (h : OkT a) : OkT (notT a) := by cases a <;> exact h
theorem okMem (k : Bool) : ∀ {t : Tm}, OkT t → ∀ m ∈ memT k t, OkT m
  | .set l, h => by simpa [memT] using h
  | .eps, h => by simpa [memT] using h
  | .chain a b, h => by simpa [memT] using h
  | .star a, h => by simpa [memT] using h
  | .not a, h => by simpa [memT] using h
  | .grp k' a b, h => by
    rw [memT]
    split
    · intro m hm
      rcases List.mem_cons.1 hm with rfl | hm
      · exact h.1
      · exact okMem k h.2 m hm
    · intro m hm; simp at hm; subst hm; exact h
theorem okJoin (k : Bool) : ∀ {l : List Tm}, (∀ t ∈ l, OkT t) → OkT (joinT k l)
  | [], _ => okNone
  | [a], h => h a (List.mem_cons_self ..)
  | a :: b :: r, h => ⟨h a (List.mem_cons_self ..), okJoin k (l := b :: r) fun t ht => h t (List.mem_cons_of_mem _ ht)⟩
theorem opS_tidy (k : Bool) {a b : Spans} (ha : Tidy a) (hb : Tidy b) : Tidy (opS k a b) := by
  unfold opS; split
  · exact capS_tidy ha.pos hb.pos
  · exact cupS_tidy ha.pos hb.pos
theorem foldl_tidy (k : Bool) : ∀ (r : List Spans) (s : Spans), Tidy s → (∀ x ∈ r, Tidy x) → Tidy (r.foldl (opS k) s)
  | [], _, h, _ => h
  | x :: r, s, h, hr => foldl_tidy k r (opS k s x) (opS_tidy k h (hr x (List.mem_cons_self ..))) fun y hy => hr y (List.mem_cons_of_mem _ hy)
theorem foldS_tidy {k : Bool} {l : List Spans} {s : Spans} (h : foldS k l = some s) (hl : ∀ x ∈ l, Tidy x) : Tidy s := by
  cases l with
  | nil => simp [foldS] at h
  | cons x r =>
    simp only [foldS, Option.some.injEq] at h
    subst h
    exact foldl_tidy k r x (hl x (List.mem_cons_self ..)) fun y hy => hl y (List.mem_cons_of_mem _ hy)
theorem mem_fold_with {t : Tm} : ∀ {l m : List Tm}, t ∈ l.foldl (fun l t => withB gtT t l) m ↔ t ∈ l ∨ t ∈ m
  | [], m => by simp
  | x :: l, m => by
    rw [List.foldl_cons, mem_fold_with, mem_withB]
    simp only [List.mem_cons]
    constructor
    · rintro (h | h | h) <;> simp [h]
    · rintro ((h | h) | h) <;> simp [h]
theorem mem_outs {f : List Tm} {t : Tm} : t ∈ outs f ↔ t ∈ f ∧ setOfT t = Option.none := by
  rw [outs, mem_fold_with, nonSets]; simp
theorem mem_sets {f : List Tm} {s : Spans} : s ∈ f.filterMap setOfT ↔ Tm.set s ∈ f := by
  rw [List.mem_filterMap]
  constructor
  · rintro ⟨t, ht, h⟩
    cases t <;> simp [setOfT] at h
    subst h; exact ht
  · intro h; exact ⟨_, h, rfl⟩
theorem mem_withSet {k : Bool} {f : List Tm} {t : Tm} : t ∈ withSet k f ↔ (t ∈ f ∧ setOfT t = Option.none) ∨ ∃ s, foldS k (f.filterMap setOfT) = some s ∧ t = .set s := by
  unfold withSet
  split
  · rename_i h; simp [mem_outs, h]
  · rename_i s h
    rw [mem_withB, mem_outs, h]
    constructor
    · rintro (rfl | h)
      · exact .inr ⟨s, rfl, rfl⟩
      · exact .inl h
    · rintro (h | ⟨s', h1, rfl⟩)
      · exact .inr h
      · cases h1; exact .inl rfl
theorem okEnd {k : Bool} {l : List Tm} (h : ∀ t ∈ l, OkT t) : OkT (endG k l) := by
  unfold endG
  split
  · cases k <;> trivial
  · split
    · cases k <;> trivial
    · rename_i m hm _
      refine okJoin k fun t ht => h t ?_
      exact (List.mem_filter.1 ht).1
theorem okGroup {k : Bool} {l : List Tm} (h : ∀ t ∈ l, OkT t) : OkT (groupT k l) := by
  have hf : ∀ t ∈ l.flatMap (memT k), OkT t := by
    intro t ht
    obtain ⟨x, hx, hm⟩ := List.mem_flatMap.1 ht
    exact okMem k (h x hx) t hm
  refine okEnd fun t ht => ?_
  rcases mem_withSet.1 ht with ⟨h1, _⟩ | ⟨s, h1, rfl⟩
  · exact hf t h1
  · exact foldS_tidy h1 fun x hx => hf _ (mem_sets.1 hx)
theorem okDer (c : Int) : ∀ {t : Tm}, OkT t → OkT (derT c t) ∧ ∀ k, ∀ m ∈ memT k t, OkT (derT c m)
  | .set l, _ => by
    have h0 : OkT (derT c (.set l)) := by rw [derT_set]; split <;> trivial
    exact ⟨h0, fun k m hm => by simp [memT] at hm; subst hm; exact h0⟩
  | .eps, _ => ⟨trivial, fun k m hm => by simp [memT] at hm; subst hm; trivial⟩
  | .chain a b, h => by
    have h0 : OkT (derT c (.chain a b)) := by
      have ha := okChain _ b (okDer c h.1).1 h.2
      rw [derT_chain]; split
      · refine okGroup fun t ht => ?_
        simp at ht
        rcases ht with rfl | rfl
        · exact ha
        · exact (okDer c h.2).1
      · exact ha
    exact ⟨h0, fun k m hm => by simp [memT] at hm; subst hm; exact h0⟩
  | .star a, h => by
    have h0 : OkT (derT c (.star a)) := okChain _ _ (okDer c (t := a) h).1 h
    exact ⟨h0, fun k m hm => by simp [memT] at hm; subst hm; exact h0⟩
  | .not a, h => by
    have h0 : OkT (derT c (.not a)) := okNot (okDer c (t := a) h).1
    exact ⟨h0, fun k m hm => by simp [memT] at hm; subst hm; exact h0⟩
  | .grp k' a b, h => by
    have ha := (okDer c h.1).1
    have hb := (okDer c h.2).2
    have hall : ∀ m ∈ memT k' (.grp k' a b), OkT (derT c m) := by
      intro m hm
      rw [memT, if_pos rfl] at hm
      rcases List.mem_cons.1 hm with rfl | hm
      · exact ha
      · exact hb k' m hm
    have h0 : OkT (derT c (.grp k' a b)) := by
      rw [derT_grp]
      refine okGroup fun t ht => ?_
      obtain ⟨m, hm, rfl⟩ := List.mem_map.1 ht
      exact hall m hm
    refine ⟨h0, fun k m hm => ?_⟩
    by_cases e : k' = k
    · subst e; exact hall m hm
    · rw [memT, if_neg e] at hm
      simp at hm; subst hm; exact h0

theorem wd_set_op (k : Bool) {a b : Spans} (ha : Tidy a) (hb : Tidy b) {w : List Int} (hw : Syms w) :
    wd (.set (opS k a b)) w ↔ if k = true then wd (.set a) w ∧ wd (.set b) w else wd (.set a) w ∨ wd (.set b) w := by
  cases k
  · simp only [opS, Bool.false_eq_true, if_false]
    constructor
    · rintro ⟨c, rfl, h⟩
      rw [cupS_in ha.pos hb.pos (hw c (by simp)), Bool.or_eq_true] at h
      exact h.imp (fun h => ⟨c, rfl, h⟩) (fun h => ⟨c, rfl, h⟩)
    · rintro (⟨c, rfl, h⟩ | ⟨c, rfl, h⟩)
      · exact ⟨c, rfl, by rw [cupS_in ha.pos hb.pos (hw c (by simp)), h]; rfl⟩
      · exact ⟨c, rfl, by rw [cupS_in ha.pos hb.pos (hw c (by simp)), h]; simp⟩
  · simp only [opS, if_true]
    constructor
    · rintro ⟨c, rfl, h⟩
      rw [capS_in ha.pos hb.pos (hw c (by simp)), Bool.and_eq_true] at h
      exact ⟨⟨c, rfl, h.1⟩, ⟨c, rfl, h.2⟩⟩
    · rintro ⟨⟨c, rfl, h⟩, ⟨d, hd, h2⟩⟩
      cases hd
      exact ⟨c, rfl, by rw [capS_in ha.pos hb.pos (hw c (by simp)), h, h2]; rfl⟩
theorem wd_foldl (k : Bool) {w : List Int} (hw : Syms w) : ∀ (r : List Spans) (s : Spans), Tidy s → (∀ x ∈ r, Tidy x) →
    (wd (.set (r.foldl (opS k) s)) w ↔ wdL k ((s :: r).map Tm.set) w)
  | [], s, _, _ => by cases k <;> simp [wdL]
  | x :: r, s, h, hr => by
    have hx := hr x (List.mem_cons_self ..)
    rw [List.foldl_cons, wd_foldl k hw r _ (opS_tidy k h hx) (fun y hy => hr y (List.mem_cons_of_mem _ hy)), List.map_cons, wdL_cons, wd_set_op k h hx hw, List.map_cons, List.map_cons, wdL_cons, wdL_cons]
    cases k
    · simp [or_assoc]
    · simp [and_assoc]
theorem wd_endG {k : Bool} {l : List Tm} {w : List Int} : wd (endG k l) w ↔ wdL k l w := by
  unfold endG
  by_cases hz : zeroT k ∈ l
  · rw [if_pos hz]
    cases k
    · exact ⟨fun _ => ⟨_, hz, wd_whole⟩, fun _ => wd_whole⟩
    · exact ⟨fun h => absurd h wd_none, fun h => absurd (h _ hz) wd_none⟩
  · rw [if_neg hz]
    have hfil : wdL k (l.filter (fun t => decide (t ≠ unitT k))) w ↔ wdL k l w := by
      cases k
      · simp only [wdL, Bool.false_eq_true, if_false, List.mem_filter]
        constructor
        · rintro ⟨t, ⟨h, _⟩, ht⟩; exact ⟨t, h, ht⟩
        · rintro ⟨t, h, ht⟩
          refine ⟨t, ⟨h, ?_⟩, ht⟩
          have : t ≠ unitT false := by rintro rfl; exact wd_none ht
          simpa using this
      · simp only [wdL, if_true, List.mem_filter]
        constructor
        · intro h t ht
          by_cases e : t = unitT true
          · rw [e]; exact wd_whole
          · exact h t ⟨ht, by simpa using e⟩
        · intro h t ht; exact h t ht.1
    split
    · rename_i he
      rw [← hfil, he]
      cases k
      · exact ⟨fun h => absurd h wd_none, fun ⟨_, h, _⟩ => by simp at h⟩
      · exact ⟨fun _ t h => by simp at h, fun _ => wd_whole⟩
    · rename_i hne
      rw [← hfil]
      exact wd_joinT k w _ hne
theorem wd_groupT {k : Bool} {l : List Tm} (hl : ∀ t ∈ l, OkT t) {w : List Int} (hw : Syms w) : wd (groupT k l) w ↔ wdL k l w := by
  rw [groupT, wd_endG]
  have hflat : wdL k (l.flatMap (memT k)) w ↔ wdL k l w := by
    clear hl
    induction l with
    | nil => simp
    | cons t l ih => rw [List.flatMap_cons, wdL_append, wdL_cons, ih, ← wd_mem]
  rw [← hflat]
  have hf : ∀ t ∈ l.flatMap (memT k), OkT t := by
    intro t ht
    obtain ⟨x, hx, hm⟩ := List.mem_flatMap.1 ht
    exact okMem k (hl x hx) t hm
  generalize hff : l.flatMap (memT k) = f at *
  clear hflat hff
  -- the sets together, the others
  cases hs : foldS k (f.filterMap setOfT) with
  | none =>
    have hno : f.filterMap setOfT = [] := by
      cases h : f.filterMap setOfT with
      | nil => rfl
      | cons s r => rw [h] at hs; simp [foldS] at hs
    refine wdL_ext (fun t => ?_) w
    rw [mem_withSet, hs]
    simp only [reduceCtorEq, false_and, exists_false, or_false]
    refine ⟨fun h => h.1, fun h => ⟨h, ?_⟩⟩
    cases ht : setOfT t with
    | none => rfl
    | some s =>
      cases t <;> simp [setOfT] at ht
      subst ht
      have := mem_sets.2 h
      rw [hno] at this
      simp at this
  | some s =>
    have hfold : wd (.set s) w ↔ wdL k ((f.filterMap setOfT).map Tm.set) w := by
      cases hq : f.filterMap setOfT with
      | nil => rw [hq] at hs; simp [foldS] at hs
      | cons x r =>
        rw [hq] at hs
        simp only [foldS, Option.some.injEq] at hs
        subst hs
        have hall : ∀ y ∈ x :: r, Tidy y := fun y hy => hf (.set y) (mem_sets.1 (hq ▸ hy))
        exact wd_foldl k hw r x (hall x (List.mem_cons_self ..)) fun y hy => hall y (List.mem_cons_of_mem _ hy)
    have e1 : wdL k (withSet k f) w ↔ wdL k (.set s :: outs f) w := by
      refine wdL_ext (fun t => ?_) w
      rw [mem_withSet, hs, List.mem_cons, mem_outs]
      constructor
      · rintro (h | ⟨s', h1, rfl⟩)
        · exact .inr h
        · cases h1; exact .inl rfl
      · rintro (rfl | h)
        · exact .inr ⟨s, rfl, rfl⟩
        · exact .inl h
    have e2 : wdL k f w ↔ wdL k ((f.filterMap setOfT).map Tm.set ++ outs f) w := by
      refine wdL_ext (fun t => ?_) w
      rw [List.mem_append, mem_outs, List.mem_map]
      constructor
      · intro h
        cases ht : setOfT t with
        | none => exact .inr ⟨h, rfl⟩
        | some s' =>
          cases t <;> simp [setOfT] at ht
          subst ht
          exact .inl ⟨_, mem_sets.2 h, rfl⟩
      · rintro (⟨x, hx, rfl⟩ | h)
        · exact mem_sets.1 hx
        · exact h.1
    rw [e1, e2, wdL_cons, wdL_append, hfold]

theorem wd_null : ∀ t : Tm, nullT t = true ↔ wd t []
  | .set l => by simp [nullT, wd]
  | .eps => by simp [nullT, wd]
  | .chain a b => by
    simp only [nullT, wd, Bool.and_eq_true, wd_null a, wd_null b]
    constructor
    · rintro ⟨h1, h2⟩; exact ⟨[], [], rfl, h1, h2⟩
    · rintro ⟨u, v, h, h1, h2⟩
      have := List.append_eq_nil_iff.1 h.symm
      rw [this.1] at h1; rw [this.2] at h2; exact ⟨h1, h2⟩
  | .star a => by simp only [nullT, wd, true_iff]; exact .nil
  | .not a => by simp [nullT, wd, ← wd_null a]
  | .grp k a b => by
    cases k
    · simp [nullT, wd, wd_null a, wd_null b]
    · simp [nullT, wd, wd_null a, wd_null b]
theorem star_cons {P : List Int → Prop} {c : Int} {w : List Int} : Star P (c :: w) ↔ ∃ u v, w = u ++ v ∧ P (c :: u) ∧ Star P v := by
  constructor
  · intro h
    generalize he : c :: w = z at h
    induction h with
    | nil => cases he
    | more hp hs ih =>
      rename_i u v
      cases u with
      | nil => exact ih (by simpa using he)
      | cons d u =>
        simp only [List.cons_append, List.cons.injEq] at he
        obtain ⟨rfl, rfl⟩ := he
        exact ⟨u, v, rfl, hp, hs⟩
  · rintro ⟨u, v, rfl, hp, hs⟩
    exact Star.more (u := c :: u) hp hs
/-- what a term becomes has the words that go on behind the symbol. -/
theorem wd_der {c : Int} (hc : isSym c = true) : ∀ {t : Tm}, OkT t → ∀ {w : List Int}, Syms w → ((wd (derT c t) w ↔ wd t (c :: w)) ∧ ∀ k, ∀ m ∈ memT k t, (wd (derT c m) w ↔ wd m (c :: w)))
  | .set l, _, w, _ => by
    have h0 : wd (derT c (.set l)) w ↔ wd (.set l) (c :: w) := by
      rw [derT_set]
      by_cases h : inS l c = true
      · rw [if_pos h]
        constructor
        · intro hw'
          have hw'' : w = [] := hw'
          subst hw''; exact ⟨c, rfl, h⟩
        · rintro ⟨d, hd, _⟩
          show w = []
          simp at hd; exact hd.2
      · rw [if_neg h]
        constructor
        · intro h2; exact absurd h2 wd_none
        · rintro ⟨d, hd, h2⟩
          simp at hd
          rw [hd.1] at h; exact absurd h2 h
    exact ⟨h0, fun k m hm => by simp [memT] at hm; subst hm; exact h0⟩
  | .eps, _, w, _ => by
    have h0 : wd (derT c eps) w ↔ wd eps (c :: w) := ⟨fun h => absurd h wd_none, fun h => by simp [wd] at h⟩
    exact ⟨h0, fun k m hm => by simp [memT] at hm; subst hm; exact h0⟩
  | .chain a b, h, w, hw => by
    have first : (∃ u v, w = u ++ v ∧ wd (derT c a) u ∧ wd b v) ↔ ∃ u v, w = u ++ v ∧ wd a (c :: u) ∧ wd b v := by
      constructor
      · rintro ⟨u, v, rfl, h1, h2⟩; exact ⟨u, v, rfl, (wd_der hc h.1 hw.left).1.1 h1, h2⟩
      · rintro ⟨u, v, rfl, h1, h2⟩; exact ⟨u, v, rfl, (wd_der hc h.1 hw.left).1.2 h1, h2⟩
    have split' : wd (.chain a b) (c :: w) ↔ (∃ u v, w = u ++ v ∧ wd a (c :: u) ∧ wd b v) ∨ (wd a [] ∧ wd b (c :: w)) := by
      constructor
      · rintro ⟨u, v, he, h1, h2⟩
        cases u with
        | nil => simp at he; subst he; exact .inr ⟨h1, h2⟩
        | cons d u =>
          simp only [List.cons_append, List.cons.injEq] at he
          obtain ⟨rfl, rfl⟩ := he
          exact .inl ⟨u, v, rfl, h1, h2⟩
      · rintro (⟨u, v, rfl, h1, h2⟩ | ⟨h1, h2⟩)
        · exact ⟨c :: u, v, rfl, h1, h2⟩
        · exact ⟨[], c :: w, rfl, h1, h2⟩
    have h0 : wd (derT c (.chain a b)) w ↔ wd (.chain a b) (c :: w) := by
      rw [derT_chain, split']
      by_cases hn : nullT a = true
      · rw [if_pos hn, wd_groupT (by
          intro t ht
          simp at ht
          rcases ht with rfl | rfl
          · exact okChain _ b (okDer c h.1).1 h.2
          · exact (okDer c h.2).1) hw]
        simp only [wdL, Bool.false_eq_true, if_false, List.mem_cons, List.not_mem_nil, or_false, exists_eq_or_imp, exists_eq_left]
        rw [wd_chainT, first, (wd_der hc h.2 hw).1]
        simp [(wd_null a).1 hn]
      · rw [if_neg hn, wd_chainT, first]
        have : ¬ wd a [] := fun h => hn ((wd_null a).2 h)
        simp [this]
    exact ⟨h0, fun k m hm => by simp [memT] at hm; subst hm; exact h0⟩
  | .star a, h, w, hw => by
    have h0 : wd (derT c (.star a)) w ↔ wd (.star a) (c :: w) := by
      rw [derT_star, wd_chainT]
      show _ ↔ Star (wd a) (c :: w)
      rw [star_cons]
      constructor
      · rintro ⟨u, v, rfl, h1, h2⟩; exact ⟨u, v, rfl, (wd_der hc (t := a) h hw.left).1.1 h1, h2⟩
      · rintro ⟨u, v, rfl, h1, h2⟩; exact ⟨u, v, rfl, (wd_der hc (t := a) h hw.left).1.2 h1, h2⟩
    exact ⟨h0, fun k m hm => by simp [memT] at hm; subst hm; exact h0⟩
  | .not a, h, w, hw => by
    have h0 : wd (derT c (.not a)) w ↔ wd (.not a) (c :: w) := by
      rw [derT_not, wd_notT, (wd_der hc (t := a) h hw).1]; exact Iff.rfl
    exact ⟨h0, fun k m hm => by simp [memT] at hm; subst hm; exact h0⟩
  | .grp k' a b, h, w, hw => by
    have ha := (wd_der hc h.1 hw).1
    have hb := (wd_der hc h.2 hw).2
    have hall : ∀ m ∈ memT k' (.grp k' a b), (wd (derT c m) w ↔ wd m (c :: w)) := by
      intro m hm
      rw [memT, if_pos rfl] at hm
      rcases List.mem_cons.1 hm with rfl | hm
      · exact ha
      · exact hb k' m hm
    have h0 : wd (derT c (.grp k' a b)) w ↔ wd (.grp k' a b) (c :: w) := by
      rw [derT_grp, wd_groupT (by
        intro t ht
        obtain ⟨m, hm, rfl⟩ := List.mem_map.1 ht
        exact (okDer c (t := .grp k' a b) h).2 k' m hm) hw, wd_mem k' (c :: w) (.grp k' a b)]
      generalize memT k' (.grp k' a b) = l at hall
      cases k'
      · simp only [wdL, Bool.false_eq_true, if_false, List.mem_map]
        constructor
        · rintro ⟨t, ⟨m, hm, rfl⟩, ht⟩; exact ⟨m, hm, (hall m hm).1 ht⟩
        · rintro ⟨m, hm, ht⟩; exact ⟨_, ⟨m, hm, rfl⟩, (hall m hm).2 ht⟩
      · simp only [wdL, if_true, List.mem_map]
        constructor
        · intro hh m hm; exact (hall m hm).1 (hh _ ⟨m, hm, rfl⟩)
        · rintro hh t ⟨m, hm, rfl⟩; exact (hall m hm).2 (hh m hm)
    refine ⟨h0, fun k m hm => ?_⟩
    by_cases e : k' = k
    · subst e; exact hall m hm
    · rw [memT, if_neg e] at hm
      simp at hm; subst hm; exact h0

/-- by symbols, one after the other. -/
def ders (t : Tm) (w : List Int) : Tm := w.foldl (fun t c => derT c t) t
theorem okDers : ∀ (w : List Int) {t : Tm}, OkT t → OkT (ders t w)
  | [], _, h => h
  | c :: w, t, h => okDers w (t := derT c t) (okDer c h).1
theorem wd_ders : ∀ (w : List Int) {t : Tm}, OkT t → Syms w → (nullT (ders t w) = true ↔ wd t w)
  | [], t, _, _ => wd_null t
  | c :: w, t, h, hw => by
    have hc := hw c (List.mem_cons_self ..)
    have hw' : Syms w := fun d hd => hw d (List.mem_cons_of_mem _ hd)
    show nullT (ders (derT c t) w) = true ↔ _
    rw [wd_ders w (okDer c h).1 hw', (wd_der hc h hw').1]
end Go.Proofs.YtfolanohokflkaaGreatDoor
