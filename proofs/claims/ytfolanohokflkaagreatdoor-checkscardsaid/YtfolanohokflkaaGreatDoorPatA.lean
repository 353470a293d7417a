import Derived.Test.YtfolanohokflkaaGreatDoorTermB
/-
  Terms in their form: what is made of such is such; a group of one is that one: no program, no kit.
-/
namespace Go.Proofs.YtfolanohokflkaaGreatDoor
open Tm (eps)

def isStar : Tm → Bool
  | .star _ => true
  | _ => false
def isNot : Tm → Bool
  | .not _ => true
  | _ => false
def OneSet (l : List Tm) : Prop := (l.filterMap setOfT).length ≤ 1
/-- a term in its form; within a kind: a rest of members. -/
def CnF : Option Bool → Tm → Prop
  | m, .set l => Tidy l ∧ (m ≠ Option.none → l ≠ [])
  | _, .eps => True
  | _, .chain a b => CnF .none a ∧ CnF .none b ∧ isChain a = false ∧ a ≠ voidT ∧ a ≠ eps ∧ b ≠ voidT ∧ b ≠ eps
  | _, .star a => CnF .none a ∧ a ≠ voidT ∧ a ≠ eps ∧ isStar a = false
  | m, .not a => CnF .none a ∧ isNot a = false ∧ (m ≠ Option.none → a ≠ voidT)
  | _, .grp k a b => CnF .none a ∧ notGrp k a = true ∧ a ≠ voidT ∧ a ≠ whole ∧ CnF (some k) b ∧ SrtT (memT k (.grp k a b)) ∧ OneSet (memT k (.grp k a b))
abbrev Cn (t : Tm) : Prop := CnF Option.none t
theorem CnF.any {m : Option Bool} : ∀ {t : Tm}, CnF m t → Cn t
  | .set _, h => ⟨h.1, fun e => absurd rfl e⟩
  | .eps, _ => trivial
  | .chain _ _, h => h
  | .star _, h => h
  | .not _, h => ⟨h.1, h.2.1, fun e => absurd rfl e⟩
  | .grp _ _ _, h => h
theorem CnF.ok : ∀ {m : Option Bool} {t : Tm}, CnF m t → OkT t
  | _, .set _, h => h.1
  | _, .eps, _ => trivial
  | _, .chain _ _, h => ⟨CnF.ok h.1, CnF.ok h.2.1⟩
  | _, .star a, h => CnF.ok (t := a) h.1
  | _, .not a, h => CnF.ok (t := a) h.1
  | _, .grp _ _ _, h => ⟨CnF.ok h.1, CnF.ok h.2.2.2.2.1⟩
/-- a member of a kind. -/
def MemOk (k : Bool) (m : Tm) : Prop := Cn m ∧ notGrp k m = true ∧ m ≠ voidT ∧ m ≠ whole
theorem CnF.void {k : Bool} : ∀ {t : Tm}, CnF (some k) t → t ≠ voidT ∧ t ≠ whole
  | .set l, h => ⟨by intro e; cases e; exact h.2 (by simp) rfl, by simp⟩
  | .eps, _ => ⟨by simp, by simp⟩
  | .chain _ _, _ => ⟨by simp, by simp⟩
  | .star _, _ => ⟨by simp, by simp⟩
  | .not a, h => ⟨by simp, by intro e; cases e; exact h.2.2 (by simp) rfl⟩
  | .grp _ _ _, _ => ⟨by simp, by simp⟩
theorem CnF.rest {k : Bool} {t : Tm} (h : Cn t) (h1 : t ≠ voidT) (h2 : t ≠ whole) : CnF (some k) t := by
  cases t with
  | set l => exact ⟨h.1, fun _ e => h1 (by rw [e])⟩
  | eps => trivial
  | chain a b => exact h
  | star a => exact h
  | not a => exact ⟨h.1, h.2.1, fun _ e => h2 (by rw [e])⟩
  | grp k a b => exact h
theorem memT_self {k : Bool} {t : Tm} (h : notGrp k t = true) : memT k t = [t] := by
  cases t with
  | grp k' a b =>
    have : k' ≠ k := by simpa [notGrp] using h
    rw [memT, if_neg this]
  | _ => rfl
theorem memT_grp (k : Bool) (a b : Tm) : memT k (.grp k a b) = a :: memT k b := by rw [memT, if_pos rfl]
theorem CnF.members {k : Bool} : ∀ {t : Tm}, CnF (some k) t → ∀ m ∈ memT k t, MemOk k m
  | t, h => by
    rcases grp_or k t with ⟨a, b, rfl⟩ | hn
    · rw [memT_grp]
      intro m hm
      rcases List.mem_cons.1 hm with rfl | hm
      · exact ⟨h.1, h.2.1, h.2.2.1, h.2.2.2.1⟩
      · exact CnF.members (t := b) h.2.2.2.2.1 m hm
    · rw [memT_self hn]
      intro m hm
      simp at hm; subst hm
      exact ⟨h.any, hn, h.void.1, h.void.2⟩
  termination_by t => t
/-- the members of a term in its form. -/
theorem Cn.members {k : Bool} {t : Tm} (h : Cn t) : ∀ m ∈ memT k t, Cn m ∧ notGrp k m = true := by
  rcases grp_or k t with ⟨a, b, rfl⟩ | hn
  · intro m hm
    have := CnF.members (k := k) (t := .grp k a b) h m hm
    exact ⟨this.1, this.2.1⟩
  · rw [memT_self hn]
    intro m hm
    simp at hm; subst hm
    exact ⟨h, hn⟩
theorem joinT_cons (k : Bool) (a : Tm) {l : List Tm} (h : l ≠ []) : joinT k (a :: l) = .grp k a (joinT k l) := by
  cases l with
  | nil => exact absurd rfl h
  | cons b r => rfl
theorem memT_joinT (k : Bool) : ∀ {l : List Tm}, l ≠ [] → (∀ m ∈ l, notGrp k m = true) → memT k (joinT k l) = l
  | [], h, _ => absurd rfl h
  | [a], _, hm => memT_self (hm a (List.mem_cons_self ..))
  | a :: b :: r, _, hm => by
    rw [joinT_cons k a (by simp), memT_grp, memT_joinT k (l := b :: r) (by simp) fun m h => hm m (List.mem_cons_of_mem _ h)]
theorem memT_ne (k : Bool) (t : Tm) : memT k t ≠ [] := by
  cases t with
  | grp k' a b => rw [memT]; split <;> simp
  | _ => simp [memT]
theorem joinT_memT (k : Bool) : ∀ t : Tm, joinT k (memT k t) = t
  | t => by
    rcases grp_or k t with ⟨a, b, rfl⟩ | hn
    · rw [memT_grp, joinT_cons k a (memT_ne k b), joinT_memT k b]
    · rw [memT_self hn]; rfl
  termination_by t => t
theorem oneSet_tail {a : Tm} {l : List Tm} (h : OneSet (a :: l)) : OneSet l := by
  unfold OneSet at *
  rw [List.filterMap_cons] at h
  split at h
  · exact h
  · rw [List.length_cons] at h; omega
theorem cn_join {k : Bool} : ∀ {l : List Tm}, l ≠ [] → (∀ m ∈ l, MemOk k m) → SrtT l → OneSet l → CnF (some k) (joinT k l)
  | [], h, _, _, _ => absurd rfl h
  | [a], _, hm, _, _ => by
    have := hm a (List.mem_cons_self ..)
    exact CnF.rest this.1 this.2.2.1 this.2.2.2
  | a :: b :: r, _, hm, hs, ho => by
    have ha := hm a (List.mem_cons_self ..)
    have hm' : ∀ m ∈ b :: r, MemOk k m := fun m h => hm m (List.mem_cons_of_mem _ h)
    have ih := cn_join (l := b :: r) (by simp) hm' (List.pairwise_cons.1 hs).2 (oneSet_tail ho)
    have e := memT_joinT k (l := a :: b :: r) (by simp) fun m h => (hm m h).2.1
    rw [joinT_cons k a (by simp)] at e ⊢
    exact ⟨ha.1, ha.2.1, ha.2.2.1, ha.2.2.2, ih, by rw [e]; exact hs, by rw [e]; exact ho⟩
theorem cnUnit (k : Bool) : Cn (unitT k) := by
  cases k
  · exact ⟨trivial, fun e => absurd rfl e⟩
  · exact ⟨⟨trivial, fun e => absurd rfl e⟩, rfl, fun e => absurd rfl e⟩
theorem cnZero (k : Bool) : Cn (zeroT k) := by
  cases k
  · exact ⟨⟨trivial, fun e => absurd rfl e⟩, rfl, fun e => absurd rfl e⟩
  · exact ⟨trivial, fun e => absurd rfl e⟩
theorem oneSet_sub {l : List Tm} (hn : l.Nodup) (h : ∀ s s', Tm.set s ∈ l → Tm.set s' ∈ l → s = s') : OneSet l := by
  unfold OneSet
  induction l with
  | nil => simp
  | cons a l ih =>
    have hn' := List.nodup_cons.1 hn
    have ih' := ih hn'.2 fun s s' h1 h2 => h s s' (List.mem_cons_of_mem _ h1) (List.mem_cons_of_mem _ h2)
    rw [List.filterMap_cons]
    cases hs : setOfT a with
    | none => exact ih'
    | some s =>
      have ea : a = .set s := by cases a <;> simp [setOfT] at hs; rw [hs]
      have : l.filterMap setOfT = [] := by
        cases hq : l.filterMap setOfT with
        | nil => rfl
        | cons s' r =>
          have h2 : Tm.set s' ∈ l := mem_sets.1 (by rw [hq]; exact List.mem_cons_self ..)
          have e := h s s' (by rw [ea]; exact List.mem_cons_self ..) (List.mem_cons_of_mem _ h2)
          subst e
          rw [ea] at hn'
          exact absurd h2 hn'.1
      simp [this]
theorem srt_nodup {l : List Tm} (h : SrtT l) : l.Nodup := h.imp fun {a b} h e => by
  subst e; rw [gtT_irrefl] at h; exact absurd h (by simp)
theorem srt_sub {l : List Tm} (h : SrtT l) (p : Tm → Bool) : SrtT (l.filter p) := h.filter p
theorem setOfT_some {t : Tm} {s : Spans} (h : setOfT t = some s) : t = .set s := by cases t <;> simp [setOfT] at h; rw [h]
theorem withSet_sets {k : Bool} {f : List Tm} {s s' : Spans} (h : Tm.set s ∈ withSet k f) (h' : Tm.set s' ∈ withSet k f) : s = s' := by
  rcases mem_withSet.1 h with ⟨_, h1⟩ | ⟨x, hx, e⟩
  · simp [setOfT] at h1
  · rcases mem_withSet.1 h' with ⟨_, h1⟩ | ⟨y, hy, e'⟩
    · simp [setOfT] at h1
    · rw [hx] at hy; cases hy; cases e; cases e'; rfl
theorem cn_end {k : Bool} {l : List Tm} (hm : ∀ m ∈ l, Cn m ∧ notGrp k m = true) (hs : SrtT l) (ho : ∀ s s', Tm.set s ∈ l → Tm.set s' ∈ l → s = s') : Cn (endG k l) := by
  unfold endG
  split
  · exact cnZero k
  rename_i hz
  split
  · exact cnUnit k
  · rename_i hne
    refine (cn_join hne (fun m h => ?_) (srt_sub hs _) (oneSet_sub (srt_nodup (srt_sub hs _)) fun s s' h h' => ho s s' (List.mem_filter.1 h).1 (List.mem_filter.1 h').1)).any
    have h' := List.mem_filter.1 h
    have hu : m ≠ unitT k := by simpa using h'.2
    have hzz : m ≠ zeroT k := by rintro rfl; exact hz h'.1
    refine ⟨(hm m h'.1).1, (hm m h'.1).2, ?_, ?_⟩
    · cases k
      · exact hu
      · exact hzz
    · cases k
      · exact hzz
      · exact hu
theorem cn_group {k : Bool} {l : List Tm} (h : ∀ t ∈ l, Cn t) : Cn (groupT k l) := by
  have hf : ∀ m ∈ l.flatMap (memT k), Cn m ∧ notGrp k m = true := by
    intro m hm
    obtain ⟨x, hx, hm⟩ := List.mem_flatMap.1 hm
    exact (h x hx).members m hm
  have hok : ∀ m ∈ l.flatMap (memT k), OkT m := fun m hm => (hf m hm).1.ok
  refine cn_end (fun m hm => ?_) (withSet_ok hok).2 (fun s s' => withSet_sets)
  rcases mem_withSet.1 hm with ⟨h1, _⟩ | ⟨s, hs, rfl⟩
  · exact hf m h1
  · exact ⟨⟨foldS_tidy hs fun x hx => (hf (.set x) (mem_sets.1 hx)).1.1, fun e => absurd rfl e⟩, rfl⟩
theorem cn_chain : ∀ (a b : Tm), Cn a → Cn b → Cn (chainT a b)
  | a, b, ha, hb => by
    rw [chainT_eq]
    split
    · exact ⟨trivial, fun e => absurd rfl e⟩
    rename_i h1
    split
    · exact hb
    rename_i h2
    split
    · exact ha
    rename_i h3
    have hv : a ≠ voidT ∧ b ≠ voidT := ⟨fun e => h1 (.inl e), fun e => h1 (.inr e)⟩
    cases a with
    | chain x y => exact cn_chain x _ ha.1 (cn_chain y b ha.2.1 hb)
    | set l => exact ⟨ha, hb, rfl, hv.1, h2, hv.2, h3⟩
    | eps => exact absurd rfl h2
    | star a => exact ⟨ha, hb, rfl, hv.1, h2, hv.2, h3⟩
    | not a => exact ⟨ha, hb, rfl, hv.1, h2, hv.2, h3⟩
    | grp k x y => exact ⟨ha, hb, rfl, hv.1, h2, hv.2, h3⟩
  termination_by a => a
theorem cn_star {a : Tm} (h : Cn a) : Cn (starT a) := by
  unfold starT
  split
  · trivial
  · rename_i h1
    have h2 : a ≠ voidT ∧ a ≠ eps := ⟨fun e => h1 (.inl e), fun e => h1 (.inr e)⟩
    cases a with
    | star x => exact h
    | set l => exact ⟨h, h2.1, h2.2, rfl⟩
    | eps => exact absurd rfl h2.2
    | chain x y => exact ⟨h, h2.1, h2.2, rfl⟩
    | not x => exact ⟨h, h2.1, h2.2, rfl⟩
    | grp k x y => exact ⟨h, h2.1, h2.2, rfl⟩
theorem cn_not {a : Tm} (h : Cn a) : Cn (notT a) := by
  cases a with
  | not x => exact h.1
  | set l => exact ⟨h, rfl, fun e => absurd rfl e⟩
  | eps => exact ⟨h, rfl, fun e => absurd rfl e⟩
  | chain x y => exact ⟨h, rfl, fun e => absurd rfl e⟩
  | star x => exact ⟨h, rfl, fun e => absurd rfl e⟩
  | grp k x y => exact ⟨h, rfl, fun e => absurd rfl e⟩
theorem cn_void : Cn voidT := cnUnit false
theorem cn_eps : Cn eps := trivial
theorem cn_der (c : Int) : ∀ {m : Option Bool} {t : Tm}, CnF m t → Cn (derT c t) ∧ ∀ k, m = some k → ∀ x ∈ memT k t, Cn (derT c x)
  | m, .set l, h => by
    have h0 : Cn (derT c (.set l)) := by
      rw [derT_set]; split
      · trivial
      · exact cn_void
    exact ⟨h0, fun k _ x hx => by simp [memT] at hx; subst hx; exact h0⟩
  | m, .eps, _ => ⟨cn_void, fun k _ x hx => by simp [memT] at hx; subst hx; exact cn_void⟩
  | m, .chain a b, h => by
    have ha := cn_chain _ b (cn_der c h.1).1 h.2.1
    have hb := (cn_der c h.2.1).1
    have h0 : Cn (derT c (.chain a b)) := by
      rw [derT_chain]; split
      · refine cn_group fun t ht => ?_
        simp at ht
        rcases ht with rfl | rfl
        · exact ha
        · exact hb
      · exact ha
    exact ⟨h0, fun k _ x hx => by simp [memT] at hx; subst hx; exact h0⟩
  | m, .star a, h => by
    have h0 : Cn (derT c (.star a)) := cn_chain _ _ (cn_der c (t := a) h.1).1 h
    exact ⟨h0, fun k _ x hx => by simp [memT] at hx; subst hx; exact h0⟩
  | m, .not a, h => by
    have h0 : Cn (derT c (.not a)) := cn_not (cn_der c (t := a) h.1).1
    exact ⟨h0, fun k _ x hx => by simp [memT] at hx; subst hx; exact h0⟩
  | m, .grp k' a b, h => by
    have ha := (cn_der c h.1).1
    have hb := (cn_der c h.2.2.2.2.1).2
    have hall : ∀ x ∈ memT k' (.grp k' a b), Cn (derT c x) := by
      intro x hx
      rw [memT_grp] at hx
      rcases List.mem_cons.1 hx with rfl | hx
      · exact ha
      · exact hb k' rfl x hx
    have h0 : Cn (derT c (.grp k' a b)) := by
      rw [derT_grp]
      refine cn_group fun t ht => ?_
      obtain ⟨x, hx, rfl⟩ := List.mem_map.1 ht
      exact hall x hx
    refine ⟨h0, fun k _ x hx => ?_⟩
    by_cases e : k' = k
    · subst e; exact hall x hx
    · rw [memT, if_neg e] at hx
      simp at hx; subst hx; exact h0
theorem cn_ders : ∀ (w : List Int) {t : Tm}, Cn t → Cn (ders t w)
  | [], _, h => h
  | c :: w, t, h => cn_ders w (t := derT c t) (cn_der c h).1

theorem endG_self {k : Bool} {l : List Tm} (hne : l ≠ []) (h1 : voidT ∉ l) (h2 : whole ∉ l) : endG k l = joinT k l := by
  have hz : zeroT k ∉ l := by cases k <;> assumption
  have hu : unitT k ∉ l := by cases k <;> assumption
  unfold endG
  rw [if_neg hz, List.filter_eq_self.2 (fun t ht => by
    have : t ≠ unitT k := by rintro rfl; exact hu ht
    simpa using this)]
  cases l with
  | nil => exact absurd rfl hne
  | cons a r => rfl
theorem withSet_self {k : Bool} {l : List Tm} (hok : ∀ t ∈ l, OkT t) (hs : SrtT l) (ho : OneSet l) : withSet k l = l := by
  refine srtT_ext (withSet_ok hok).2 hs fun t => ?_
  rw [mem_withSet]
  cases hq : l.filterMap setOfT with
  | nil =>
    simp only [foldS, reduceCtorEq, false_and, exists_false, or_false]
    refine ⟨fun h => h.1, fun h => ⟨h, ?_⟩⟩
    cases hst : setOfT t with
    | none => rfl
    | some s =>
      rw [setOfT_some hst] at h
      have := mem_sets.2 h
      rw [hq] at this; simp at this
  | cons s r =>
    have hr : r = [] := by
      unfold OneSet at ho; rw [hq] at ho; simp at ho; exact ho
    subst hr
    simp only [foldS, List.foldl_nil, Option.some.injEq, exists_eq_left']
    have hmem : Tm.set s ∈ l := mem_sets.1 (by rw [hq]; exact List.mem_cons_self ..)
    constructor
    · rintro (h | rfl)
      · exact h.1
      · exact hmem
    · intro h
      cases hst : setOfT t with
      | none => exact .inl ⟨h, rfl⟩
      | some s' =>
        have e := setOfT_some hst
        rw [e] at h
        have := mem_sets.2 h
        rw [hq] at this
        simp at this
        subst this
        exact .inr e
/-- a group of one is that one. -/
theorem group_one' {k : Bool} {t : Tm} (h : Cn t) : groupT k [t] = t := by
  rw [groupT, List.flatMap_cons, List.flatMap_nil, List.append_nil]
  rcases grp_or k t with ⟨a, b, rfl⟩ | hn
  · have hm := CnF.members (k := k) (t := .grp k a b) h
    rw [withSet_self (fun x hx => (hm x hx).1.ok) h.2.2.2.2.2.1 h.2.2.2.2.2.2, endG_self (memT_ne k _) (fun hv => (hm _ hv).2.2.1 rfl) (fun hv => (hm _ hv).2.2.2 rfl), joinT_memT]
  · rw [memT_self hn, withSet_self (by simpa using h.ok) (by simp [SrtT]) (by unfold OneSet; exact Nat.le_trans (List.length_filterMap_le ..) (by simp))]
    unfold endG
    by_cases hz : t = zeroT k
    · rw [if_pos (by simp [hz]), hz]
    · rw [if_neg (by simpa using fun e => hz e.symm)]
      by_cases hu : t = unitT k
      · rw [hu]; simp
      · simp [hu, joinT]
end Go.Proofs.YtfolanohokflkaaGreatDoor

/-
  Patterns as trees, their terms: no program, no kit.
-/
namespace Go.Proofs.YtfolanohokflkaaGreatDoor
open Tm (eps)

inductive Pt where
  | set (l : List (Int × Int))
  | row (l : List Pt)
  | grp (k : Bool) (l : List Pt)
  | not (a : Pt)
  | rep (a : Pt) (least : Nat) (most : Option Nat)

def rowT (l : List Tm) : Tm := l.foldr chainT eps
def optT (t : Tm) : Tm := groupT false [eps, t]
def repT (t : Tm) (n : Nat) : Option Nat → Tm
  | Option.none => (List.replicate n t).foldr chainT (starT t)
  | some m => (List.replicate n t).foldr chainT (rowT (List.replicate (m - n) (optT t)))
mutual
def tmP : Pt → Tm
  | .set l => .set l
  | .row l => rowT (tmPs l)
  | .grp k l => groupT k (tmPs l)
  | .not a => notT (tmP a)
  | .rep a n m => repT (tmP a) n m
def tmPs : List Pt → List Tm
  | [] => []
  | p :: r => tmP p :: tmPs r
end
theorem tmPs_map : ∀ l : List Pt, tmPs l = l.map tmP
  | [] => by rw [tmPs]; rfl
  | p :: r => by rw [tmPs, tmPs_map r]; rfl
mutual
def OkP : Pt → Prop
  | .set l => Tidy l
  | .row l => OkPs l
  | .grp _ l => OkPs l
  | .not a => OkP a
  | .rep a _ _ => OkP a
def OkPs : List Pt → Prop
  | [] => True
  | p :: r => OkP p ∧ OkPs r
end
theorem cn_foldr {l : List Tm} {t : Tm} (hl : ∀ x ∈ l, Cn x) (ht : Cn t) : Cn (l.foldr chainT t) := by
  induction l with
  | nil => exact ht
  | cons x l ih => exact cn_chain _ _ (hl x (List.mem_cons_self ..)) (ih fun y hy => hl y (List.mem_cons_of_mem _ hy))
theorem cn_opt {t : Tm} (h : Cn t) : Cn (optT t) := cn_group fun x hx => by
  simp at hx
  rcases hx with rfl | rfl
  · trivial
  · exact h
theorem cn_rep {t : Tm} (h : Cn t) (n : Nat) (m : Option Nat) : Cn (repT t n m) := by
  have hr : ∀ x ∈ List.replicate n t, Cn x := fun x hx => by rw [(List.mem_replicate.1 hx).2]; exact h
  cases m with
  | none => exact cn_foldr hr (cn_star h)
  | some m => exact cn_foldr hr (cn_foldr (fun x hx => by rw [(List.mem_replicate.1 hx).2]; exact cn_opt h) trivial)
mutual
theorem cn_tmP : ∀ {p : Pt}, OkP p → Cn (tmP p)
  | .set l, h => by rw [OkP] at h; rw [tmP]; exact ⟨h, fun e => absurd rfl e⟩
  | .row l, h => by rw [OkP] at h; rw [tmP]; exact cn_foldr (cn_tmPs h) trivial
  | .grp k l, h => by rw [OkP] at h; rw [tmP]; exact cn_group (cn_tmPs h)
  | .not a, h => by rw [OkP] at h; rw [tmP]; exact cn_not (cn_tmP h)
  | .rep a n m, h => by rw [OkP] at h; rw [tmP]; exact cn_rep (cn_tmP h) n m
theorem cn_tmPs : ∀ {l : List Pt}, OkPs l → ∀ t ∈ tmPs l, Cn t
  | [], _ => by rw [tmPs]; simp
  | p :: r, h => by
    rw [OkPs] at h
    rw [tmPs]
    have hp := cn_tmP h.1
    have hr := cn_tmPs h.2
    intro t ht
    rcases List.mem_cons.1 ht with rfl | ht
    · exact hp
    · exact hr t ht
end

/-! words of repeats -/
def Pow (P : List Int → Prop) : Nat → List Int → Prop
  | 0, w => w = []
  | n + 1, w => ∃ u v, w = u ++ v ∧ P u ∧ Pow P n v
theorem star_pow {P : List Int → Prop} {w : List Int} : Star P w ↔ ∃ n, Pow P n w := by
  constructor
  · intro h
    induction h with
    | nil => exact ⟨0, rfl⟩
    | more hp _ ih =>
      obtain ⟨n, hn⟩ := ih
      exact ⟨n + 1, _, _, rfl, hp, hn⟩
  · rintro ⟨n, h⟩
    induction n generalizing w with
    | zero => rw [show w = [] from h]; exact .nil
    | succ n ih =>
      obtain ⟨u, v, rfl, hp, hn⟩ := h
      exact .more hp (ih hn)
theorem wd_foldr {t b : Tm} : ∀ (n : Nat) (w : List Int), wd ((List.replicate n t).foldr chainT b) w ↔ ∃ u v, w = u ++ v ∧ Pow (wd t) n u ∧ wd b v
  | 0, w => by
    constructor
    · intro h; exact ⟨[], w, rfl, rfl, h⟩
    · rintro ⟨u, v, rfl, hu, hv⟩
      rw [show u = [] from hu]; exact hv
  | n + 1, w => by
    rw [List.replicate_succ, List.foldr_cons, wd_chainT]
    constructor
    · rintro ⟨u, v, rfl, hu, hv⟩
      obtain ⟨u2, v2, rfl, hp, hb⟩ := (wd_foldr n v).1 hv
      exact ⟨u ++ u2, v2, by simp, ⟨u, u2, rfl, hu, hp⟩, hb⟩
    · rintro ⟨u, v, rfl, ⟨u1, u2, rfl, h1, h2⟩, hb⟩
      exact ⟨u1, u2 ++ v, by simp, h1, (wd_foldr n _).2 ⟨u2, v, rfl, h2, hb⟩⟩
theorem pow_opt {P Q : List Int → Prop} (S : List Int → Prop) (hS : ∀ u v, S (u ++ v) → S u ∧ S v) (hQ : ∀ w, S w → (Q w ↔ w = [] ∨ P w)) : ∀ (k : Nat) (w : List Int), S w → (Pow Q k w ↔ ∃ j, j ≤ k ∧ Pow P j w)
  | 0, w, _ => by
    constructor
    · intro h; exact ⟨0, Nat.le_refl _, h⟩
    · rintro ⟨j, hj, h⟩
      have : j = 0 := by omega
      subst this; exact h
  | k + 1, w, hs => by
    constructor
    · rintro ⟨u, v, rfl, hu, hv⟩
      obtain ⟨s1, s2⟩ := hS u v hs
      obtain ⟨j, hj, hp⟩ := (pow_opt S hS hQ k v s2).1 hv
      rcases (hQ u s1).1 hu with rfl | hu
      · exact ⟨j, by omega, hp⟩
      · exact ⟨j + 1, by omega, u, v, rfl, hu, hp⟩
    · rintro ⟨j, hj, h⟩
      cases j with
      | zero =>
        refine ⟨[], w, rfl, (hQ [] (hS [] w hs).1).2 (.inl rfl), (pow_opt S hS hQ k w hs).2 ⟨0, Nat.zero_le _, h⟩⟩
      | succ j =>
        obtain ⟨u, v, rfl, hu, hv⟩ := h
        obtain ⟨s1, s2⟩ := hS u v hs
        exact ⟨u, v, rfl, (hQ u s1).2 (.inr hu), (pow_opt S hS hQ k v s2).2 ⟨j, by omega, hv⟩⟩
theorem pow_add {P : List Int → Prop} : ∀ (m n : Nat) (w : List Int), Pow P (m + n) w ↔ ∃ u v, w = u ++ v ∧ Pow P m u ∧ Pow P n v
  | 0, n, w => by
    rw [Nat.zero_add]
    constructor
    · intro h; exact ⟨[], w, rfl, rfl, h⟩
    · rintro ⟨u, v, rfl, hu, hv⟩
      rw [show u = [] from hu]; exact hv
  | m + 1, n, w => by
    rw [show m + 1 + n = (m + n) + 1 from by omega]
    constructor
    · rintro ⟨u, v, rfl, hu, hv⟩
      obtain ⟨u2, v2, rfl, h1, h2⟩ := (pow_add m n v).1 hv
      exact ⟨u ++ u2, v2, by simp, ⟨u, u2, rfl, hu, h1⟩, h2⟩
    · rintro ⟨u, v, rfl, ⟨u1, u2, rfl, h1, h2⟩, h3⟩
      exact ⟨u1, u2 ++ v, by simp, h1, (pow_add m n _).2 ⟨u2, v, rfl, h2, h3⟩⟩
theorem pow_ext {P Q : List Int → Prop} (S : List Int → Prop) (hS : ∀ u v, S (u ++ v) → S u ∧ S v) (h : ∀ w, S w → (P w ↔ Q w)) : ∀ (n : Nat) (w : List Int), S w → (Pow P n w ↔ Pow Q n w)
  | 0, _, _ => Iff.rfl
  | n + 1, w, hs => by
    constructor
    · rintro ⟨u, v, rfl, hu, hv⟩
      obtain ⟨s1, s2⟩ := hS u v hs
      exact ⟨u, v, rfl, (h u s1).1 hu, (pow_ext S hS h n v s2).1 hv⟩
    · rintro ⟨u, v, rfl, hu, hv⟩
      obtain ⟨s1, s2⟩ := hS u v hs
      exact ⟨u, v, rfl, (h u s1).2 hu, (pow_ext S hS h n v s2).2 hv⟩
theorem syms_app (u v : List Int) (h : Syms (u ++ v)) : Syms u ∧ Syms v := ⟨h.left, h.right⟩
theorem wd_opt {t : Tm} (h : OkT t) {w : List Int} (hw : Syms w) : wd (optT t) w ↔ w = [] ∨ wd t w := by
  rw [optT, wd_groupT (by
    intro x hx
    simp at hx
    rcases hx with rfl | rfl
    · trivial
    · exact h) hw]
  simp [wdL, wd]
/-- the words of a repeat. -/
theorem wd_rep {t : Tm} (h : OkT t) (n : Nat) (m : Option Nat) {w : List Int} (hw : Syms w) :
    wd (repT t n m) w ↔ ∃ j, n ≤ j ∧ (∀ k, m = some k → j ≤ max n k) ∧ Pow (wd t) j w := by
  cases m with
  | none =>
    rw [repT, wd_foldr]
    constructor
    · rintro ⟨u, v, rfl, hu, hv⟩
      obtain ⟨j, hj⟩ := star_pow.1 ((wd_starT t v).1 hv)
      exact ⟨n + j, by omega, by simp, (pow_add n j _).2 ⟨u, v, rfl, hu, hj⟩⟩
    · rintro ⟨j, hj, _, hp⟩
      obtain ⟨u, v, rfl, h1, h2⟩ := (pow_add n (j - n) w).1 (by rw [show n + (j - n) = j from by omega]; exact hp)
      exact ⟨u, v, rfl, h1, (wd_starT t v).2 (star_pow.2 ⟨_, h2⟩)⟩
  | some m =>
    rw [repT, wd_foldr]
    constructor
    · rintro ⟨u, v, rfl, hu, hv⟩
      obtain ⟨a, b, rfl, h1, h2⟩ := (wd_foldr (t := optT t) (b := eps) (m - n) v).1 hv
      rw [show b = [] from h2] at *
      obtain ⟨j, hj, hp⟩ := (pow_opt Syms syms_app (fun w hw => wd_opt h hw) (m - n) a hw.right.left).1 h1
      exact ⟨n + j, by omega, fun k e => by cases e; omega, (pow_add n j _).2 ⟨u, a, by simp, hu, hp⟩⟩
    · rintro ⟨j, hj, hk, hp⟩
      obtain ⟨u, v, rfl, h1, h2⟩ := (pow_add n (j - n) w).1 (by rw [show n + (j - n) = j from by omega]; exact hp)
      refine ⟨u, v, rfl, h1, (wd_foldr (t := optT t) (b := eps) (m - n) v).2 ⟨v, [], by simp, ?_, rfl⟩⟩
      exact (pow_opt Syms syms_app (fun w hw => wd_opt h hw) (m - n) v hw.right).2 ⟨j - n, by have := hk m rfl; omega, h2⟩

/-! what is met -/
def addT (l : List Tm) (t : Tm) : List Tm := if t ∈ l then l else l ++ [t]
/-- from a term on, by symbols; with stop: no further than where there is no word. -/
def runT : Tm → List Int → List Tm
  | t, [] => [t]
  | t, c :: w => t :: runT (derT c t) w
def metT (l : List Tm) (m : List Tm) : List Tm := m.foldl addT l
theorem addT_sub {l : List Tm} {t : Tm} : ∀ x ∈ l, x ∈ addT l t := by
  intro x hx
  unfold addT; split
  · exact hx
  · exact List.mem_append_left _ hx
theorem mem_addT {l : List Tm} {t x : Tm} : x ∈ addT l t ↔ x ∈ l ∨ x = t := by
  unfold addT
  split
  · rename_i h
    exact ⟨.inl, fun hx => hx.elim id (fun e => by rw [e]; exact h)⟩
  · simp
theorem addT_len {l : List Tm} {t : Tm} : l.length ≤ (addT l t).length := by unfold addT; split <;> simp
theorem metT_len : ∀ {m l : List Tm}, l.length ≤ (metT l m).length
  | [], _ => Nat.le_refl _
  | t :: m, l => Nat.le_trans (addT_len (t := t)) (metT_len (m := m) (l := addT l t))
theorem addT_nodup {l : List Tm} {t : Tm} (h : l.Nodup) : (addT l t).Nodup := by
  unfold addT; split
  · exact h
  · rename_i hn
    exact List.nodup_append.2 ⟨h, by simp, fun a ha b hb e => by simp at hb; subst hb; subst e; exact hn ha⟩
theorem metT_nodup : ∀ {m l : List Tm}, l.Nodup → (metT l m).Nodup
  | [], _, h => h
  | _ :: m, _, h => metT_nodup (m := m) (addT_nodup h)
theorem mem_metT {x : Tm} : ∀ {m l : List Tm}, x ∈ metT l m ↔ x ∈ l ∨ x ∈ m
  | [], l => by simp [metT]
  | t :: m, l => by
    rw [show metT l (t :: m) = metT (addT l t) m from rfl, mem_metT, mem_addT, List.mem_cons, or_assoc]
theorem runT_last : ∀ (w : List Int) (t : Tm), (runT t w).getLast? = some (ders t w)
  | [], t => rfl
  | c :: w, t => by
    rw [runT, List.getLast?_cons, runT_last w]; rfl
end Go.Proofs.YtfolanohokflkaaGreatDoor
