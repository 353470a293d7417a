import Derived.Test.YtfolanohokflkabGreatDoorTermA
import Derived.Test.YtfolanohokflkabGreatDoorPlA
namespace Go.Proofs.YtfolanohokflkabGreatDoor

theorem hd_pos {l : List Sy} (h : ¬ hd l = -1) : l.tail.length < l.length := by
  cases l with
  | nil => exact absurd rfl h
  | cons x r => simp
theorem tail_le (l : List Sy) : l.tail.length ≤ l.length := by rw [List.length_tail]; omega

theorem numberS_len {n : Nat} {a : Int} {l : List Sy} {y : Int × List Sy} (h : numberS n a l = .ok y) : y.2.length ≤ l.length := by
  have h1 := tail_le l
  have h2 := tail_le l.tail
  unfold numberS at h
  split at h
  · split at h
    · cases h
    · injection h with h
      subst h
      unfold numV
      split <;> dsimp only <;> omega
  · cases h
theorem closeS_len {n : Nat} {m : Int} {l : List Sy} {y : Int × List Sy} (h : closeS n m l = .ok y) : y.2.length ≤ l.length := by
  have h1 := tail_le l
  unfold closeS at h
  split at h
  · injection h with h; subst h; exact h1
  · cases h
theorem boundsS_len {n : Nat} {l : List Sy} {y : Int × List Sy} (h : boundsS n l = .ok y) : y.2.length ≤ l.length := by
  unfold boundsS at h
  split at h
  · cases h
  · rename_i a l1 h1
    have g1 := numberS_len h1
    have t1 := tail_le l1
    have t2 := tail_le l1.tail
    dsimp only at g1
    split at h
    · split at h
      · injection h with h; subst h; dsimp only; omega
      · split at h
        · cases h
        · rename_i m l2 h2
          have g2 := numberS_len h2
          have g3 := closeS_len h
          dsimp only at g2
          omega
    · have g3 := closeS_len h
      omega
theorem repeatS_len {n : Nat} {l : List Sy} {y : Int × List Sy} (hr : isRep (hd l) = true) (h : repeatS n l = .ok y) : y.2.length < l.length := by
  have hp := hd_pos (l := l) (by intro e; rw [e] at hr; exact absurd hr (by decide))
  unfold repeatS at h
  split at h
  · have := boundsS_len h; omega
  · injection h with h; subst h; exact hp
theorem hexS_len : ∀ (f : Nat) (v : Int) (k : Nat) (l : List Sy), (hexS f v k l).2.2.length ≤ l.length
  | 0, _, _, _ => Nat.le_refl _
  | f + 1, v, k, l => by
    rw [hexS]
    split
    · exact Nat.le_trans (hexS_len f _ _ _) (tail_le l)
    · exact Nat.le_refl _
theorem codeS_len {n : Nat} {l : List Sy} {y : Int × List Sy} (h : codeS n l = .ok y) : y.2.length ≤ l.length := by
  unfold codeS at h
  split at h
  · have g := hexS_len 6 0 0 l.tail
    have t := tail_le l
    have t2 := tail_le (hexS 6 0 0 l.tail).2.2
    unfold codeEnd at h
    split at h
    · cases h
    · split at h
      · injection h with h; subst h; dsimp only; omega
      · cases h
  · cases h
theorem escapeS_len {n : Nat} {l : List Sy} {y : Int × List Sy} (h : escapeS n l = .ok y) : y.2.length ≤ l.length := by
  have t := tail_le l
  unfold escapeS at h
  split at h
  · have := codeS_len h; omega
  · split at h
    · injection h with h; subst h; exact t
    · split at h
      · injection h with h; subst h; exact t
      · cases h
theorem limitS_len {n : Nat} {l : List Sy} {y : Int × List Sy} (h : limitS n l = .ok y) : y.2.length < l.length := by
  unfold limitS at h
  split at h
  · rename_i h92
    have hp := hd_pos (l := l) (by omega)
    have := escapeS_len h; omega
  · split at h
    · cases h
    · injection h with h; subst h; exact hd_pos (by omega)
theorem isSet_len {l : List Sy} (h : isSet l = true) : l.tail.tail.length < l.length := by
  have h' : hd l = 92 ∧ (hd l.tail = 100 ∨ hd l.tail = 119) := by simpa [isSet] using h
  have hp := hd_pos (l := l) (by omega)
  have := tail_le l.tail
  omega
theorem partS_len {n : Nat} {l : List Sy} {y : Unit × List Sy} (h : partS n l = .ok y) : y.2.length < l.length := by
  unfold partS at h
  split at h
  · rename_i hs
    injection h with h; subst h; exact isSet_len hs
  · split at h
    · cases h
    · rename_i a l1 h1
      have g1 := limitS_len h1
      have t1 := tail_le l1
      dsimp only at g1
      split at h
      · split at h
        · cases h
        · rename_i b l2 h2
          have g2 := limitS_len h2
          dsimp only at g2
          split at h
          · cases h
          · injection h with h; subst h; dsimp only; omega
      · injection h with h; subst h; exact g1
theorem classLoopS_len {n : Nat} : ∀ (f : Nat) {l : List Sy} {y : Unit × List Sy}, classLoopS n f l = .ok y → y.2.length ≤ l.length
  | 0, l, y, h => by cases h
  | f + 1, l, y, h => by
    rw [classLoopS] at h
    split at h
    · injection h with h; subst h; exact tail_le l
    · split at h
      · cases h
      · rename_i u l1 h1
        have g1 := partS_len h1
        have g2 := classLoopS_len f h
        dsimp only at g1
        omega
theorem classS_len {n : Nat} {l : List Sy} {y : Unit × List Sy} (h : classS n l = .ok y) : y.2.length ≤ l.length := by
  unfold classS at h
  split at h
  · have := classLoopS_len _ h; have := tail_le l; omega
  · exact classLoopS_len _ h
theorem leafS_len {n : Nat} {l : List Sy} {y : Int × List Sy} (h : leafS n l = .ok y) : y.2.length < l.length := by
  unfold leafS at h
  split at h
  · have hp := hd_pos (l := l) (by omega)
    split at h
    · cases h
    · rename_i u l1 h1
      have := classS_len h1
      injection h with h; subst h; dsimp only at this ⊢; omega
  · split at h
    · have hp := hd_pos (l := l) (by omega)
      split at h
      · rename_i hs
        injection h with h; subst h; exact isSet_len hs
      · split at h
        · cases h
        · rename_i u l1 h1
          have := escapeS_len h1
          injection h with h; subst h; dsimp only at this ⊢; omega
    · split at h
      · injection h with h; subst h; exact hd_pos (by omega)
      · split at h
        · cases h
        · injection h with h; subst h; exact hd_pos (by omega)
theorem repsS_len {n : Nat} : ∀ (f : Nat) {z : Int} {l : List Sy} {y : Int × List Sy}, repsS n f z l = .ok y → y.2.length ≤ l.length
  | 0, _, l, y, h => by cases h
  | f + 1, z, l, y, h => by
    rw [repsS] at h
    split at h
    · rename_i hr
      split at h
      · cases h
      · rename_i m l1 h1
        have g1 := repeatS_len hr h1
        have g2 := repsS_len f h
        dsimp only at g1
        omega
    · injection h with h; subst h; exact Nat.le_refl _
/-- what reads takes at least one symbol. -/
def Shr (at_ : List Sy → Res Int) : Prop := ∀ l y, at_ l = .ok y → y.2.length < l.length
def Shr0 (at_ : List Sy → Res Int) : Prop := ∀ l y, at_ l = .ok y → y.2.length ≤ l.length
theorem itemS_len {n : Nat} {at_ : List Sy → Res Int} (ha : Shr at_) : ∀ (f : Nat) {l : List Sy} {y : Int × List Sy}, itemS n at_ f l = .ok y → y.2.length < l.length
  | 0, l, y, h => by cases h
  | f + 1, l, y, h => by
    rw [itemS] at h
    split at h
    · split at h
      · cases h
      · rename_i z l1 h1
        have g1 := itemS_len ha f h1
        have t := tail_le l
        injection h with h; subst h; dsimp only at g1 ⊢; omega
    · split at h
      · cases h
      · rename_i z l1 h1
        have g1 := ha _ _ h1
        have g2 := repsS_len _ h
        dsimp only at g1
        omega
theorem rowLoopS_len {n : Nat} {at_ : List Sy → Res Int} (ha : Shr at_) : ∀ (f : Nat) {z : Int} {l : List Sy} {y : Int × List Sy}, rowLoopS n at_ f z l = .ok y → y.2.length ≤ l.length
  | 0, _, l, y, h => by cases h
  | f + 1, z, l, y, h => by
    rw [rowLoopS] at h
    split at h
    · injection h with h; subst h; exact Nat.le_refl _
    · split at h
      · cases h
      · rename_i x l1 h1
        have g1 := itemS_len ha _ h1
        have g2 := rowLoopS_len ha f h
        dsimp only at g1
        omega
theorem rowS_len {n : Nat} {at_ : List Sy → Res Int} (ha : Shr at_) : Shr0 (rowS n at_) := by
  intro l y h
  unfold rowS at h
  split at h
  · injection h with h; subst h; exact Nat.le_refl _
  · split at h
    · cases h
    · rename_i x l1 h1
      have g1 := itemS_len ha _ h1
      have g2 := rowLoopS_len ha _ h
      dsimp only at g1
      omega
theorem sepLoopS_len {n : Nat} {sub : List Sy → Res Int} {sg : Int} (hs : Shr0 sub) : ∀ (f : Nat) {z : Int} {l : List Sy} {y : Int × List Sy}, sepLoopS n sub sg f z l = .ok y → y.2.length ≤ l.length
  | 0, _, l, y, h => by cases h
  | f + 1, z, l, y, h => by
    rw [sepLoopS] at h
    split at h
    · split at h
      · cases h
      · rename_i x l1 h1
        have g1 := hs _ _ h1
        have t := tail_le l
        have g2 := sepLoopS_len hs f h
        dsimp only at g1
        omega
    · injection h with h; subst h; exact Nat.le_refl _
theorem sepS_len {n : Nat} {sub : List Sy → Res Int} {sg : Int} (hs : Shr0 sub) : Shr0 (sepS n sub sg) := by
  intro l y h
  unfold sepS at h
  split at h
  · cases h
  · rename_i x l1 h1
    have g1 := hs _ _ h1
    have g2 := sepLoopS_len hs _ h
    dsimp only at g1
    omega
theorem bothS_len {n : Nat} {at_ : List Sy → Res Int} (ha : Shr at_) : Shr0 (bothS n at_) := sepS_len (rowS_len ha)
theorem choiceS_len {n : Nat} {at_ : List Sy → Res Int} (ha : Shr at_) : Shr0 (choiceS n at_) := sepS_len (bothS_len ha)
theorem atomS_len (n : Nat) : ∀ k, Shr (atomS n k)
  | 0 => by
    intro l y h
    rw [atomS] at h
    split at h
    · cases h
    · exact leafS_len h
  | k + 1 => by
    intro l y h
    rw [atomS] at h
    split at h
    · have hp := hd_pos (l := l) (by omega)
      split at h
      · cases h
      · rename_i z l1 h1
        have g1 := choiceS_len (atomS_len n k) _ _ h1
        have t := tail_le l1
        split at h
        · injection h with h; subst h; dsimp only at g1 ⊢; omega
        · cases h
    · exact leafS_len h
end Go.Proofs.YtfolanohokflkabGreatDoor

/-
  The reading with trees and the reading with sizes alone tell the same errors and sizes: no program, no kit.
-/
namespace Go.Proofs.YtfolanohokflkabGreatDoor

theorem mapR_bad {a b : Type} (g : a → b) (e : Int) (n : Nat) (l : List Sy) : mapR g (bad e n l) = bad e n l := rfl
theorem mapR_ok {a b : Type} (g : a → b) (v : a) (l : List Sy) : mapR g (.ok (v, l)) = .ok (g v, l) := rfl
theorem mapR_err {a b : Type} (g : a → b) (x : Int × Int) : mapR g (.error x : Res a) = .error x := rfl
/-- a reading with sizes and one with trees. -/
def Same2 (r : Res Int) (q : Res Pn) : Prop := r = mapR Prod.snd q ∧ ∀ v l, q = .ok (v, l) → 0 ≤ v.2 ∧ v.2 ≤ 61
def SameA (a : List Sy → Res Int) (b : List Sy → Res Pn) : Prop := ∀ l, Same2 (a l) (b l)
theorem Same2.bad {e : Int} {n : Nat} {l : List Sy} : Same2 (bad e n l) (bad e n l) := ⟨rfl, fun _ _ h => by simp [Go.Proofs.YtfolanohokflkabGreatDoor.bad] at h⟩
theorem Same2.err {x : Int × Int} : Same2 (.error x) (.error x) := ⟨rfl, fun _ _ h => by cases h⟩
theorem Same2.ok {v : Pn} {l : List Sy} (h0 : 0 ≤ v.2) (h1 : v.2 ≤ 61) : Same2 (.ok (v.2, l)) (.ok (v, l)) := ⟨rfl, fun _ _ h => by cases h; exact ⟨h0, h1⟩⟩
theorem close_same (n : Nat) (m : Often) (l : List Sy) : closeS n m.2.2 l = mapR (fun o => o.2.2) (closeP n m l) := by
  unfold closeS closeP
  split <;> rfl
theorem bounds_same (n : Nat) (l : List Sy) : boundsS n l = mapR (fun o => o.2.2) (boundsP n l) := by
  unfold boundsS boundsP
  cases h : numberS n 0 l with
  | error x => rfl
  | ok y =>
    obtain ⟨a, l1⟩ := y
    simp only []
    by_cases h1 : hd l1 = 44
    · rw [if_pos h1, if_pos h1]
      by_cases h2 : hd l1.tail = 125
      · rw [if_pos h2, if_pos h2]; rfl
      · rw [if_neg h2, if_neg h2]
        cases h3 : numberS n a l1.tail with
        | error x => rfl
        | ok z => exact close_same n (a.toNat, some z.1.toNat, pos1 z.1) z.2
    · rw [if_neg h1, if_neg h1]; exact close_same n (a.toNat, some a.toNat, pos1 a) l1
theorem repeat_same (n : Nat) (l : List Sy) : repeatS n l = mapR (fun o => o.2.2) (repeatP n l) := by
  unfold repeatS repeatP
  by_cases h : hd l = 123
  · rw [if_pos h, if_pos h]; exact bounds_same n l.tail
  · rw [if_neg h, if_neg h]
    split
    · rfl
    · split <;> rfl
def unitR : Res Spans → Res Unit := mapR fun _ => ()
theorem part_same (n : Nat) (l : List Sy) : partS n l = unitR (partP n l) := by
  unfold partS partP unitR
  by_cases h : isSet l = true
  · rw [if_pos h, if_pos h]; rfl
  · rw [if_neg h, if_neg h]
    cases h1 : limitS n l with
    | error x => rfl
    | ok y =>
      obtain ⟨a, l1⟩ := y
      simp only []
      by_cases h2 : hd l1 = 45
      · rw [if_pos h2, if_pos h2]
        cases h3 : limitS n l1.tail with
        | error x => rfl
        | ok z =>
          simp only []
          split <;> rfl
      · rw [if_neg h2, if_neg h2]; rfl
theorem classLoop_same (n : Nat) : ∀ (f : Nat) (s : Spans) (l : List Sy), classLoopS n f l = unitR (classLoopP n f s l)
  | 0, _, _ => rfl
  | f + 1, s, l => by
    rw [classLoopS, classLoopP, part_same]
    by_cases h : hd l = 93
    · rw [if_pos h, if_pos h]; rfl
    · rw [if_neg h, if_neg h]
      cases h1 : partP n l with
      | error x => rfl
      | ok y => exact classLoop_same n f (cupS s y.1) y.2
theorem unit_turn (r : Res Spans) : unitR (turnR r) = unitR r := by cases r <;> rfl
theorem class_same (n : Nat) (l : List Sy) : classS n l = unitR (classP n l) := by
  unfold classS classP
  by_cases h : hd l = 94
  · rw [if_pos h, if_pos h, unit_turn]; exact classLoop_same n _ [] _
  · rw [if_neg h, if_neg h]; exact classLoop_same n _ [] _
theorem leaf_same (n : Nat) (l : List Sy) : Same2 (leafS n l) (nodeR (leafP n l)) := by
  have key : leafS n l = mapR (fun _ => (1 : Int)) (leafP n l) := by
    unfold leafS leafP
    by_cases h1 : hd l = 91
    · rw [if_pos h1, if_pos h1, class_same]
      cases classP n l.tail <;> rfl
    · rw [if_neg h1, if_neg h1]
      by_cases h2 : hd l = 92
      · rw [if_pos h2, if_pos h2]
        split
        · rfl
        · cases escapeS n l.tail <;> rfl
      · rw [if_neg h2, if_neg h2]
        split
        · rfl
        · split <;> rfl
  rw [key]
  cases h : leafP n l with
  | error x => exact Same2.err
  | ok y => exact Same2.ok (v := (.set y.1, 1)) (show (0 : Int) ≤ 1 by decide) (show (1 : Int) ≤ 61 by decide)
theorem cap61_b {n : Int} (h : 0 ≤ n) : 0 ≤ cap61 n ∧ cap61 n ≤ 61 := by unfold cap61; split <;> omega
theorem fact_pos {n : Nat} {l l1 : List Sy} {o : Often} (h : repeatP n l = .ok (o, l1)) : 0 ≤ o.2.2 := by
  have hnum : ∀ (least : Int) (l l1 : List Sy) (a : Int), numberS n least l = .ok (a, l1) → 0 ≤ a := by
    intro least l l1 a h
    unfold numberS at h
    split at h
    · rename_i hd1
      split at h
      · simp [bad] at h
      · simp only [Except.ok.injEq] at h
        have e : a = (numV l).1 := by rw [h]
        rw [e]
        unfold isDig at hd1
        simp at hd1
        unfold numV
        split
        · rename_i h2
          have h3 := h2.2
          unfold isDig at h3
          simp at h3
          simp only []; omega
        · simp only []; omega
    · simp [bad] at h
  have hp1 : ∀ m : Int, 0 ≤ m → 0 ≤ pos1 m := by intro m hm; unfold pos1; split <;> omega
  have hclose : ∀ (m o : Often) (l l1 : List Sy), 0 ≤ m.2.2 → closeP n m l = .ok (o, l1) → 0 ≤ o.2.2 := by
    intro m o l l1 hm h
    unfold closeP at h
    split at h
    · cases h; exact hm
    · simp [bad] at h
  unfold repeatP at h
  split at h
  · unfold boundsP at h
    split at h
    · cases h
    · rename_i a l2 ha
      have ha0 := hnum _ _ _ _ ha
      split at h
      · split at h
        · cases h; simp only []; omega
        · split at h
          · cases h
          · rename_i m l3 hm
            exact hclose (a.toNat, some m.toNat, pos1 m) o l3 l1 (hp1 m (hnum _ _ _ _ hm)) h
      · exact hclose (a.toNat, some a.toNat, pos1 a) o l2 l1 (hp1 a ha0) h
  · split at h
    · cases h; decide
    · split at h
      · cases h; decide
      · cases h; decide
theorem reps_same (n : Nat) : ∀ (f : Nat) (z : Pn) (l : List Sy), 0 ≤ z.2 → z.2 ≤ 61 → Same2 (repsS n f z.2 l) (repsP n f z l)
  | 0, _, _, _, _ => Same2.bad
  | f + 1, z, l, h0, h1 => by
    rw [repsS, repsP, repeat_same]
    by_cases h : isRep (hd l) = true
    · rw [if_pos h, if_pos h]
      cases hr : repeatP n l with
      | error x => exact Same2.err
      | ok y =>
        obtain ⟨o, l1⟩ := y
        have hb := cap61_b (Int.mul_nonneg h0 (fact_pos hr))
        exact reps_same n f (repN z o) l1 hb.1 hb.2
    · rw [if_neg h, if_neg h]; exact Same2.ok h0 h1
theorem item_same {n : Nat} {a : List Sy → Res Int} {b : List Sy → Res Pn} (hab : SameA a b) : ∀ (f : Nat) (l : List Sy), Same2 (itemS n a f l) (itemP n b f l)
  | 0, _ => Same2.bad
  | f + 1, l => by
    rw [itemS, itemP]
    by_cases h : hd l = 126
    · rw [if_pos h, if_pos h]
      have ih := item_same (n := n) hab f l.tail
      rw [ih.1]
      cases hq : itemP n b f l.tail with
      | error x => exact Same2.err
      | ok y =>
        obtain ⟨z, l1⟩ := y
        have hz := ih.2 z l1 hq
        have hb := cap61_b (n := z.2 + 1) (by omega)
        exact Same2.ok (v := notN z) hb.1 hb.2
    · rw [if_neg h, if_neg h]
      have ih := hab l
      rw [ih.1]
      cases hq : b l with
      | error x => exact Same2.err
      | ok y =>
        obtain ⟨z, l1⟩ := y
        have hz := ih.2 z l1 hq
        exact reps_same n _ z l1 hz.1 hz.2

/-! sums -/
def AllB (l : List Pn) : Prop := ∀ p ∈ l, 0 ≤ p.2 ∧ p.2 ≤ 61
theorem AllB.snoc {l : List Pn} {p : Pn} (h : AllB l) (h0 : 0 ≤ p.2) (h1 : p.2 ≤ 61) : AllB (l ++ [p]) := by
  intro q hq
  rcases List.mem_append.1 hq with hq | hq
  · exact h q hq
  · simp at hq; subst hq; exact ⟨h0, h1⟩
theorem sumZ_snoc : ∀ (l : List Pn) (p : Pn), sumZ (l ++ [p]) = sumZ l + p.2
  | [], p => by simp [sumZ]
  | x :: l, p => by rw [List.cons_append, sumZ, sumZ, sumZ_snoc l p]; omega
theorem sumZ_ge : ∀ {l : List Pn}, AllB l → 0 ≤ sumZ l
  | [], _ => by simp [sumZ]
  | x :: l, h => by
    have := h x (List.mem_cons_self ..)
    have := sumZ_ge (l := l) fun p hp => h p (List.mem_cons_of_mem _ hp)
    rw [sumZ]; omega
/-- the size that the loops with sizes alone have come to. -/
def zOf (l : List Pn) : Int := min (((l.length : Int) - 1) + sumZ l) 61
theorem cap_min (x : Int) : cap61 x = min x 61 := by unfold cap61; split <;> omega
theorem zOf_one {p : Pn} (h : p.2 ≤ 61) : zOf [p] = p.2 := by simp [zOf, sumZ]; omega
theorem zOf_snoc {l : List Pn} {p : Pn} (h : AllB l) (hne : l ≠ []) (h0 : 0 ≤ p.2) : zOf (l ++ [p]) = cap61 (zOf l + 1 + p.2) := by
  have hs := sumZ_ge h
  have hl : 1 ≤ l.length := by
    cases l with
    | nil => exact absurd rfl hne
    | cons x l => simp
  rw [cap_min, zOf, zOf, sumZ_snoc, List.length_append]
  simp only [List.length_cons, List.length_nil]
  omega
theorem zOf_b {l : List Pn} (h : AllB l) (hne : l ≠ []) : 0 ≤ zOf l ∧ zOf l ≤ 61 := by
  have hs := sumZ_ge h
  have hl : 1 ≤ l.length := by
    cases l with
    | nil => exact absurd rfl hne
    | cons x l => simp
  unfold zOf; omega
theorem mkRow_size {l : List Pn} (h : AllB l) (hne : l ≠ []) : (mkRow l).2 = zOf l := by
  unfold mkRow
  split
  · rename_i p
    rw [zOf_one (h p (List.mem_cons_self ..)).2]
  · simp only []
    rw [if_neg (by simpa using hne)]; rfl
theorem mkGrp_size {k : Bool} {l : List Pn} (h : AllB l) : (mkGrp k l).2 = zOf l := by
  unfold mkGrp
  split
  · rename_i p
    rw [zOf_one (h p (List.mem_cons_self ..)).2]
  · rfl
def LoopSame (r : Res Int) (q : Res (List Pn)) : Prop := r = mapR zOf q ∧ ∀ v l, q = .ok (v, l) → AllB v ∧ v ≠ []
theorem rowLoop_same {n : Nat} {a : List Sy → Res Int} {b : List Sy → Res Pn} (hab : SameA a b) : ∀ (f : Nat) (z : List Pn) (l : List Sy), AllB z → z ≠ [] → LoopSame (rowLoopS n a f (zOf z) l) (rowLoopP n b f z l)
  | 0, _, _, _, _ => ⟨rfl, fun _ _ h => by simp [rowLoopP, bad] at h⟩
  | f + 1, z, l, hz, hne => by
    rw [rowLoopS, rowLoopP]
    by_cases h : rowEnd (hd l) = true
    · rw [if_pos h, if_pos h]
      exact ⟨rfl, fun v l' e => by cases e; exact ⟨hz, hne⟩⟩
    · rw [if_neg h, if_neg h]
      have ih := item_same (n := n) hab (l.length + 1) l
      rw [ih.1]
      cases hq : itemP n b (l.length + 1) l with
      | error x => exact ⟨rfl, fun v l' e => by cases e⟩
      | ok y =>
        obtain ⟨p, l1⟩ := y
        have hp := ih.2 p l1 hq
        show LoopSame (rowLoopS n a f (cap61 (zOf z + 1 + p.2)) l1) _
        rw [← zOf_snoc hz hne hp.1]
        exact rowLoop_same hab f (z ++ [p]) l1 (hz.snoc hp.1 hp.2) (by simp)
theorem LoopSame.row {r : Res Int} {q : Res (List Pn)} (h : LoopSame r q) : Same2 r (mapR mkRow q) := by
  rw [h.1]
  cases hq : q with
  | error x => exact Same2.err
  | ok y =>
    obtain ⟨v, l⟩ := y
    obtain ⟨hv, hne⟩ := h.2 v l hq
    have hb := zOf_b hv hne
    rw [← mkRow_size hv hne] at hb
    show Same2 (.ok (zOf v, l)) (.ok (mkRow v, l))
    rw [← mkRow_size hv hne]
    exact Same2.ok hb.1 hb.2
theorem LoopSame.grp {r : Res Int} {q : Res (List Pn)} (k : Bool) (h : LoopSame r q) : Same2 r (mapR (mkGrp k) q) := by
  rw [h.1]
  cases hq : q with
  | error x => exact Same2.err
  | ok y =>
    obtain ⟨v, l⟩ := y
    obtain ⟨hv, hne⟩ := h.2 v l hq
    have hb := zOf_b hv hne
    rw [← mkGrp_size (k := k) hv] at hb
    show Same2 (.ok (zOf v, l)) (.ok (mkGrp k v, l))
    rw [← mkGrp_size (k := k) hv]
    exact Same2.ok hb.1 hb.2
theorem row_same {n : Nat} {a : List Sy → Res Int} {b : List Sy → Res Pn} (hab : SameA a b) : SameA (rowS n a) (rowP n b) := by
  intro l
  unfold rowS rowP
  by_cases h : rowEnd (hd l) = true
  · rw [if_pos h, if_pos h]
    exact Same2.ok (v := mkRow []) (by decide) (by decide)
  · rw [if_neg h, if_neg h]
    have ih := item_same (n := n) hab (l.length + 1) l
    rw [ih.1]
    cases hq : itemP n b (l.length + 1) l with
    | error x => exact Same2.err
    | ok y =>
      obtain ⟨p, l1⟩ := y
      have hp := ih.2 p l1 hq
      have hone : AllB [p] := fun q hq => by simp at hq; subst hq; exact hp
      show Same2 (rowLoopS n a (l1.length + 1) p.2 l1) _
      rw [← zOf_one hp.2]
      exact (rowLoop_same hab (l1.length + 1) [p] l1 hone (by simp)).row
theorem sepLoop_same {n : Nat} {a : List Sy → Res Int} {b : List Sy → Res Pn} (hab : SameA a b) (sg : Int) : ∀ (f : Nat) (z : List Pn) (l : List Sy), AllB z → z ≠ [] → LoopSame (sepLoopS n a sg f (zOf z) l) (sepLoopP n b sg f z l)
  | 0, _, _, _, _ => ⟨rfl, fun _ _ h => by simp [sepLoopP, bad] at h⟩
  | f + 1, z, l, hz, hne => by
    rw [sepLoopS, sepLoopP]
    by_cases h : hd l = sg
    · rw [if_pos h, if_pos h]
      have ih := hab l.tail
      rw [ih.1]
      cases hq : b l.tail with
      | error x => exact ⟨rfl, fun v l' e => by cases e⟩
      | ok y =>
        obtain ⟨p, l1⟩ := y
        have hp := ih.2 p l1 hq
        show LoopSame (sepLoopS n a sg f (cap61 (zOf z + 1 + p.2)) l1) _
        rw [← zOf_snoc hz hne hp.1]
        exact sepLoop_same hab sg f (z ++ [p]) l1 (hz.snoc hp.1 hp.2) (by simp)
    · rw [if_neg h, if_neg h]
      exact ⟨rfl, fun v l' e => by cases e; exact ⟨hz, hne⟩⟩
theorem sep_same {n : Nat} {a : List Sy → Res Int} {b : List Sy → Res Pn} (hab : SameA a b) (sg : Int) (k : Bool) : SameA (sepS n a sg) (sepP n b sg (mkGrp k)) := by
  intro l
  unfold sepS sepP
  have ih := hab l
  rw [ih.1]
  cases hq : b l with
  | error x => exact Same2.err
  | ok y =>
    obtain ⟨p, l1⟩ := y
    have hp := ih.2 p l1 hq
    have hone : AllB [p] := fun q hq => by simp at hq; subst hq; exact hp
    show Same2 (sepLoopS n a sg (l1.length + 1) p.2 l1) _
    rw [← zOf_one hp.2]
    exact (sepLoop_same hab sg (l1.length + 1) [p] l1 hone (by simp)).grp k
theorem choice_same {n : Nat} {a : List Sy → Res Int} {b : List Sy → Res Pn} (hab : SameA a b) : SameA (choiceS n a) (choiceP n b) := sep_same (sep_same (row_same hab) 38 true) 124 false
theorem atom_same {n : Nat} : ∀ k : Nat, SameA (atomS n k) (atomP n k)
  | 0 => by
    intro l
    rw [atomS, atomP]
    by_cases h : hd l = 40
    · rw [if_pos h, if_pos h]; exact Same2.bad
    · rw [if_neg h, if_neg h]; exact leaf_same n l
  | k + 1 => by
    intro l
    rw [atomS, atomP]
    by_cases h : hd l = 40
    · rw [if_pos h, if_pos h]
      have ih := choice_same (n := n) (atom_same (n := n) k) l.tail
      rw [ih.1]
      cases hq : choiceP n (atomP n k) l.tail with
      | error x => exact Same2.err
      | ok y =>
        obtain ⟨p, l1⟩ := y
        have hp := ih.2 p l1 hq
        show Same2 (if hd l1 = 41 then .ok (p.2, l1.tail) else bad 2 n l1) (if hd l1 = 41 then .ok (p, l1.tail) else bad 2 n l1)
        split
        · exact Same2.ok hp.1 hp.2
        · exact Same2.bad
    · rw [if_neg h, if_neg h]; exact leaf_same n l
/-- Check's answer is that of the reading with trees. -/
theorem check_same (s : ByteArray) : checkS s = errOf (parseS s) := by
  unfold checkS parseS
  by_cases h : 60 < s.size
  · rw [if_pos h, if_pos h]; rfl
  · rw [if_neg h, if_neg h]
    have ih := choice_same (n := s.size) (atom_same (n := s.size) 8) (symsFrom s 0)
    rw [ih.1]
    cases hq : choiceP s.size (atomP s.size 8) (symsFrom s 0) with
    | error x => rfl
    | ok y =>
      obtain ⟨p, l1⟩ := y
      show (if hd l1 < 0 then (if 60 < p.2 then ((5, 0) : Int × Int) else (0, 0)) else (2, plc s.size l1)) = errOf (if hd l1 < 0 then (if 60 < p.2 then .error (5, 0) else .ok p.1) else .error (2, plc s.size l1))
      split
      · split <;> rfl
      · rfl
end Go.Proofs.YtfolanohokflkabGreatDoor
