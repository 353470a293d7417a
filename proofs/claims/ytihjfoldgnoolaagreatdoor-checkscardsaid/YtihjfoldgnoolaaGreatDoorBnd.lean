import Derived.Test.YtihjfoldgnoolaaGreatDoorSpec
namespace Go.Proofs.YtihjfoldgnoolaaGreatDoor

theorem hd_pos {l : List Sy} (h : ¬ hd l = -1) : l.tail.length < l.length := by
  cases l with
  | nil => exact absurd rfl h
  | cons x r => simp
theorem tail_le (l : List Sy) : l.tail.length ≤ l.length := by rw [List.length_tail]; omega

theorem numberS_len {n : Nat} {a : Int} {l : List Sy} {y : Int × List Sy} (h : numberS n a l = .ok y) : y.2.length ≤ l.length := by
  have h1 := tail_le l
  have h2 := tail_le l.tail
  unfold numberS at h
  split at h
  · split at h
    · cases h
    · injection h with h
      subst h
      unfold numV
      split <;> dsimp only <;> omega
  · cases h
theorem closeS_len {n : Nat} {m : Int} {l : List Sy} {y : Int × List Sy} (h : closeS n m l = .ok y) : y.2.length ≤ l.length := by
  have h1 := tail_le l
  unfold closeS at h
  split at h
  · injection h with h; subst h; exact h1
  · cases h
theorem boundsS_len {n : Nat} {l : List Sy} {y : Int × List Sy} (h : boundsS n l = .ok y) : y.2.length ≤ l.length := by
  unfold boundsS at h
  split at h
  · cases h
  · rename_i a l1 h1
    have g1 := numberS_len h1
    have t1 := tail_le l1
    have t2 := tail_le l1.tail
    dsimp only at g1
    split at h
    · split at h
      · injection h with h; subst h; dsimp only; omega
      · split at h
        · cases h
        · rename_i m l2 h2
          have g2 := numberS_len h2
          have g3 := closeS_len h
          dsimp only at g2
          omega
    · have g3 := closeS_len h
      omega
theorem repeatS_len {n : Nat} {l : List Sy} {y : Int × List Sy} (hr : isRep (hd l) = true) (h : repeatS n l = .ok y) : y.2.length < l.length := by
  have hp := hd_pos (l := l) (by intro e; rw [e] at hr; exact absurd hr (by decide))
  unfold repeatS at h
  split at h
  · have := boundsS_len h; omega
  · injection h with h; subst h; exact hp
theorem hexS_len : ∀ (f : Nat) (v : Int) (k : Nat) (l : List Sy), (hexS f v k l).2.2.length ≤ l.length
  | 0, _, _, _ => Nat.le_refl _
  | f + 1, v, k, l => by
    rw [hexS]
    split
    · exact Nat.le_trans (hexS_len f _ _ _) (tail_le l)
    · exact Nat.le_refl _
theorem codeS_len {n : Nat} {l : List Sy} {y : Int × List Sy} (h : codeS n l = .ok y) : y.2.length ≤ l.length := by
  unfold codeS at h
  split at h
  · have g := hexS_len 6 0 0 l.tail
    have t := tail_le l
    have t2 := tail_le (hexS 6 0 0 l.tail).2.2
    unfold codeEnd at h
    split at h
    · cases h
    · split at h
      · injection h with h; subst h; dsimp only; omega
      · cases h
  · cases h
theorem escapeS_len {n : Nat} {l : List Sy} {y : Int × List Sy} (h : escapeS n l = .ok y) : y.2.length ≤ l.length := by
  have t := tail_le l
  unfold escapeS at h
  split at h
  · have := codeS_len h; omega
  · split at h
    · injection h with h; subst h; exact t
    · split at h
      · injection h with h; subst h; exact t
      · cases h
theorem limitS_len {n : Nat} {l : List Sy} {y : Int × List Sy} (h : limitS n l = .ok y) : y.2.length < l.length := by
  unfold limitS at h
  split at h
  · rename_i h92
    have hp := hd_pos (l := l) (by omega)
    have := escapeS_len h; omega
  · split at h
    · cases h
    · injection h with h; subst h; exact hd_pos (by omega)
theorem isSet_len {l : List Sy} (h : isSet l = true) : l.tail.tail.length < l.length := by
  have h' : hd l = 92 ∧ (hd l.tail = 100 ∨ hd l.tail = 119) := by simpa [isSet] using h
  have hp := hd_pos (l := l) (by omega)
  have := tail_le l.tail
  omega
theorem partS_len {n : Nat} {l : List Sy} {y : Unit × List Sy} (h : partS n l = .ok y) : y.2.length < l.length := by
  unfold partS at h
  split at h
  · rename_i hs
    injection h with h; subst h; exact isSet_len hs
  · split at h
    · cases h
    · rename_i a l1 h1
      have g1 := limitS_len h1
      have t1 := tail_le l1
      dsimp only at g1
      split at h
      · split at h
        · cases h
        · rename_i b l2 h2
          have g2 := limitS_len h2
          dsimp only at g2
          split at h
          · cases h
          · injection h with h; subst h; dsimp only; omega
      · injection h with h; subst h; exact g1
theorem classLoopS_len {n : Nat} : ∀ (f : Nat) {l : List Sy} {y : Unit × List Sy}, classLoopS n f l = .ok y → y.2.length ≤ l.length
  | 0, l, y, h => by cases h
  | f + 1, l, y, h => by
    rw [classLoopS] at h
    split at h
    · injection h with h; subst h; exact tail_le l
    · split at h
      · cases h
      · rename_i u l1 h1
        have g1 := partS_len h1
        have g2 := classLoopS_len f h
        dsimp only at g1
        omega
theorem classS_len {n : Nat} {l : List Sy} {y : Unit × List Sy} (h : classS n l = .ok y) : y.2.length ≤ l.length := by
  unfold classS at h
  split at h
  · have := classLoopS_len _ h; have := tail_le l; omega
  · exact classLoopS_len _ h
theorem leafS_len {n : Nat} {l : List Sy} {y : Int × List Sy} (h : leafS n l = .ok y) : y.2.length < l.length := by
  unfold leafS at h
  split at h
  · have hp := hd_pos (l := l) (by omega)
    split at h
    · cases h
    · rename_i u l1 h1
      have := classS_len h1
      injection h with h; subst h; dsimp only at this ⊢; omega
  · split at h
    · have hp := hd_pos (l := l) (by omega)
      split at h
      · rename_i hs
        injection h with h; subst h; exact isSet_len hs
      · split at h
        · cases h
        · rename_i u l1 h1
          have := escapeS_len h1
          injection h with h; subst h; dsimp only at this ⊢; omega
    · split at h
      · injection h with h; subst h; exact hd_pos (by omega)
      · split at h
        · cases h
        · injection h with h; subst h; exact hd_pos (by omega)
theorem repsS_len {n : Nat} : ∀ (f : Nat) {z : Int} {l : List Sy} {y : Int × List Sy}, repsS n f z l = .ok y → y.2.length ≤ l.length
  | 0, _, l, y, h => by cases h
  | f + 1, z, l, y, h => by
    rw [repsS] at h
    split at h
    · rename_i hr
      split at h
      · cases h
      · rename_i m l1 h1
        have g1 := repeatS_len hr h1
        have g2 := repsS_len f h
        dsimp only at g1
        omega
    · injection h with h; subst h; exact Nat.le_refl _
/-- what reads takes at least one symbol. -/
def Shr (at_ : List Sy → Res Int) : Prop := ∀ l y, at_ l = .ok y → y.2.length < l.length
def Shr0 (at_ : List Sy → Res Int) : Prop := ∀ l y, at_ l = .ok y → y.2.length ≤ l.length
theorem itemS_len {n : Nat} {at_ : List Sy → Res Int} (ha : Shr at_) : ∀ (f : Nat) {l : List Sy} {y : Int × List Sy}, itemS n at_ f l = .ok y → y.2.length < l.length
  | 0, l, y, h => by cases h
  | f + 1, l, y, h => by
    rw [itemS] at h
    split at h
    · split at h
      · cases h
      · rename_i z l1 h1
        have g1 := itemS_len ha f h1
        have t := tail_le l
        injection h with h; subst h; dsimp only at g1 ⊢; omega
    · split at h
      · cases h
      · rename_i z l1 h1
        have g1 := ha _ _ h1
        have g2 := repsS_len _ h
        dsimp only at g1
        omega
theorem rowLoopS_len {n : Nat} {at_ : List Sy → Res Int} (ha : Shr at_) : ∀ (f : Nat) {z : Int} {l : List Sy} {y : Int × List Sy}, rowLoopS n at_ f z l = .ok y → y.2.length ≤ l.length
  | 0, _, l, y, h => by cases h
  | f + 1, z, l, y, h => by
    rw [rowLoopS] at h
    split at h
    · injection h with h; subst h; exact Nat.le_refl _
    · split at h
      · cases h
      · rename_i x l1 h1
        have g1 := itemS_len ha _ h1
        have g2 := rowLoopS_len ha f h
        dsimp only at g1
        omega
theorem rowS_len {n : Nat} {at_ : List Sy → Res Int} (ha : Shr at_) : Shr0 (rowS n at_) := by
  intro l y h
  unfold rowS at h
  split at h
  · injection h with h; subst h; exact Nat.le_refl _
  · split at h
    · cases h
    · rename_i x l1 h1
      have g1 := itemS_len ha _ h1
      have g2 := rowLoopS_len ha _ h
      dsimp only at g1
      omega
theorem sepLoopS_len {n : Nat} {sub : List Sy → Res Int} {sg : Int} (hs : Shr0 sub) : ∀ (f : Nat) {z : Int} {l : List Sy} {y : Int × List Sy}, sepLoopS n sub sg f z l = .ok y → y.2.length ≤ l.length
  | 0, _, l, y, h => by cases h
  | f + 1, z, l, y, h => by
    rw [sepLoopS] at h
    split at h
    · split at h
      · cases h
      · rename_i x l1 h1
        have g1 := hs _ _ h1
        have t := tail_le l
        have g2 := sepLoopS_len hs f h
        dsimp only at g1
        omega
    · injection h with h; subst h; exact Nat.le_refl _
theorem sepS_len {n : Nat} {sub : List Sy → Res Int} {sg : Int} (hs : Shr0 sub) : Shr0 (sepS n sub sg) := by
  intro l y h
  unfold sepS at h
  split at h
  · cases h
  · rename_i x l1 h1
    have g1 := hs _ _ h1
    have g2 := sepLoopS_len hs _ h
    dsimp only at g1
    omega
theorem bothS_len {n : Nat} {at_ : List Sy → Res Int} (ha : Shr at_) : Shr0 (bothS n at_) := sepS_len (rowS_len ha)
theorem choiceS_len {n : Nat} {at_ : List Sy → Res Int} (ha : Shr at_) : Shr0 (choiceS n at_) := sepS_len (bothS_len ha)
theorem atomS_len (n : Nat) : ∀ k, Shr (atomS n k)
  | 0 => by
    intro l y h
    rw [atomS] at h
    split at h
    · cases h
    · exact leafS_len h
  | k + 1 => by
    intro l y h
    rw [atomS] at h
    split at h
    · have hp := hd_pos (l := l) (by omega)
      split at h
      · cases h
      · rename_i z l1 h1
        have g1 := choiceS_len (atomS_len n k) _ _ h1
        have t := tail_le l1
        split at h
        · injection h with h; subst h; dsimp only at g1 ⊢; omega
        · cases h
    · exact leafS_len h
end Go.Proofs.YtihjfoldgnoolaaGreatDoor

namespace Go.Proofs.YtihjfoldgnoolaaGreatDoor

theorem cap_le (n : Int) : cap61 n ≤ 61 := by unfold cap61; split <;> omega
theorem cap_ge {n : Int} (h : 0 ≤ n) : 0 ≤ cap61 n := by unfold cap61; split <;> omega
theorem cap_id {n : Int} (h : n ≤ 61) : cap61 n = n := by unfold cap61; split <;> omega
theorem cap_cap {a b : Int} (h : 0 ≤ b) : cap61 (cap61 a + b) = cap61 (a + b) := by
  unfold cap61
  by_cases h1 : 60 < a
  · rw [if_pos h1, if_pos (by omega), if_pos (by omega)]
  · rw [if_neg h1]

theorem pos1_bd {m : Int} (h0 : 0 ≤ m) (h1 : m ≤ 12) : 0 ≤ pos1 m ∧ pos1 m ≤ 12 := by unfold pos1; split <;> omega
theorem numberS_bd {n : Nat} {least : Int} {l : List Sy} {y : Int × List Sy} (h : numberS n least l = .ok y) : 0 ≤ y.1 ∧ y.1 ≤ 12 := by
  unfold numberS at h
  split at h
  · rename_i hdig
    have hdig' : 48 ≤ hd l ∧ hd l ≤ 57 := by simpa [isDig] using hdig
    split at h
    · cases h
    · rename_i h2
      injection h with h
      subst h
      refine ⟨?_, by omega⟩
      unfold numV
      split
      · rename_i h3
        have h4 : 48 ≤ hd l.tail ∧ hd l.tail ≤ 57 := by simpa [isDig] using h3.2
        dsimp only; omega
      · dsimp only; omega
  · cases h
theorem closeS_bd {n : Nat} {m : Int} {l : List Sy} {y : Int × List Sy} (h : closeS n m l = .ok y) : y.1 = m := by
  unfold closeS at h
  split at h
  · injection h with h; subst h; rfl
  · cases h
theorem repeatS_bd {n : Nat} {l : List Sy} {y : Int × List Sy} (h : repeatS n l = .ok y) : 0 ≤ y.1 ∧ y.1 ≤ 13 := by
  unfold repeatS at h
  split at h
  · unfold boundsS at h
    split at h
    · cases h
    · rename_i a l1 h1
      have g1 := numberS_bd h1
      dsimp only at g1
      split at h
      · split at h
        · injection h with h; subst h; dsimp only; omega
        · split at h
          · cases h
          · rename_i m l2 h2
            have g2 := numberS_bd h2
            dsimp only at g2
            have g3 := closeS_bd h
            have := pos1_bd g2.1 g2.2
            omega
      · have g3 := closeS_bd h
        have := pos1_bd g1.1 g1.2
        omega
  · injection h with h; subst h; dsimp only; omega
/-- a size. -/
def Bd (f : List Sy → Res Int) : Prop := ∀ l y, f l = .ok y → 0 ≤ y.1 ∧ y.1 ≤ 61
theorem repsS_bd {n : Nat} : ∀ (f : Nat) {z : Int} {l : List Sy} {y : Int × List Sy}, 0 ≤ z → z ≤ 61 → repsS n f z l = .ok y → 0 ≤ y.1 ∧ y.1 ≤ 61
  | 0, _, l, y, _, _, h => by cases h
  | f + 1, z, l, y, h0, h1, h => by
    rw [repsS] at h
    split at h
    · split at h
      · cases h
      · rename_i m l1 hr
        have g := repeatS_bd hr
        exact repsS_bd f (cap_ge (Int.mul_nonneg h0 g.1)) (cap_le _) h
    · injection h with h; subst h; exact ⟨h0, h1⟩
theorem itemS_bd {n : Nat} {at_ : List Sy → Res Int} (ha : Bd at_) : ∀ (f : Nat) {l : List Sy} {y : Int × List Sy}, itemS n at_ f l = .ok y → 0 ≤ y.1 ∧ y.1 ≤ 61
  | 0, l, y, h => by cases h
  | f + 1, l, y, h => by
    rw [itemS] at h
    split at h
    · split at h
      · cases h
      · rename_i z l1 h1
        have g1 := itemS_bd ha f h1
        dsimp only at g1
        injection h with h; subst h
        exact ⟨cap_ge (by omega), cap_le _⟩
    · split at h
      · cases h
      · rename_i z l1 h1
        have g1 := ha _ _ h1
        exact repsS_bd _ g1.1 g1.2 h
theorem rowLoopS_bd {n : Nat} {at_ : List Sy → Res Int} (ha : Bd at_) : ∀ (f : Nat) {z : Int} {l : List Sy} {y : Int × List Sy}, 0 ≤ z → z ≤ 61 → rowLoopS n at_ f z l = .ok y → 0 ≤ y.1 ∧ y.1 ≤ 61
  | 0, _, l, y, _, _, h => by cases h
  | f + 1, z, l, y, h0, h1, h => by
    rw [rowLoopS] at h
    split at h
    · injection h with h; subst h; exact ⟨h0, h1⟩
    · split at h
      · cases h
      · rename_i x l1 hi
        have g := itemS_bd ha _ hi
        dsimp only at g
        exact rowLoopS_bd ha f (cap_ge (by omega)) (cap_le _) h
theorem rowS_bd {n : Nat} {at_ : List Sy → Res Int} (ha : Bd at_) : Bd (rowS n at_) := by
  intro l y h
  unfold rowS at h
  split at h
  · injection h with h; subst h; dsimp only; omega
  · split at h
    · cases h
    · rename_i x l1 h1
      have g1 := itemS_bd ha _ h1
      exact rowLoopS_bd ha _ g1.1 g1.2 h
theorem sepLoopS_bd {n : Nat} {sub : List Sy → Res Int} {sg : Int} (hs : Bd sub) : ∀ (f : Nat) {z : Int} {l : List Sy} {y : Int × List Sy}, 0 ≤ z → z ≤ 61 → sepLoopS n sub sg f z l = .ok y → 0 ≤ y.1 ∧ y.1 ≤ 61
  | 0, _, l, y, _, _, h => by cases h
  | f + 1, z, l, y, h0, h1, h => by
    rw [sepLoopS] at h
    split at h
    · split at h
      · cases h
      · rename_i x l1 hi
        have g := hs _ _ hi
        dsimp only at g
        exact sepLoopS_bd hs f (cap_ge (by omega)) (cap_le _) h
    · injection h with h; subst h; exact ⟨h0, h1⟩
theorem sepS_bd {n : Nat} {sub : List Sy → Res Int} {sg : Int} (hs : Bd sub) : Bd (sepS n sub sg) := by
  intro l y h
  unfold sepS at h
  split at h
  · cases h
  · rename_i x l1 h1
    have g1 := hs _ _ h1
    exact sepLoopS_bd hs _ g1.1 g1.2 h
theorem bothS_bd {n : Nat} {at_ : List Sy → Res Int} (ha : Bd at_) : Bd (bothS n at_) := sepS_bd (rowS_bd ha)
theorem choiceS_bd {n : Nat} {at_ : List Sy → Res Int} (ha : Bd at_) : Bd (choiceS n at_) := sepS_bd (bothS_bd ha)
theorem leafS_bd {n : Nat} {l : List Sy} {y : Int × List Sy} (h : leafS n l = .ok y) : y.1 = 1 := by
  unfold leafS at h
  repeat' split at h
  all_goals cases h
  all_goals rfl
theorem atomS_bd (n : Nat) : ∀ k, Bd (atomS n k)
  | 0 => by
    intro l y h
    rw [atomS] at h
    split at h
    · cases h
    · have := leafS_bd h; omega
  | k + 1 => by
    intro l y h
    rw [atomS] at h
    split at h
    · split at h
      · cases h
      · rename_i z l1 h1
        have g1 := choiceS_bd (atomS_bd n k) _ _ h1
        split at h
        · injection h with h; subst h; exact g1
        · cases h
    · have := leafS_bd h; omega

/-- so many nots ahead of an item. -/
def itemK (k : Nat) : Res Int → Res Int
  | .error x => .error x
  | .ok (z, l) => .ok (cap61 (z + k), l)
theorem itemK_zero {r : Res Int} (h : ∀ y, r = .ok y → y.1 ≤ 61) : itemK 0 r = r := by
  cases r with
  | error x => rfl
  | ok y =>
    obtain ⟨z, l⟩ := y
    have := h _ rfl
    dsimp only at this
    rw [itemK, show z + ((0 : Nat) : Int) = z from by omega, cap_id this]
theorem itemK_step {n : Nat} {at_ : List Sy → Res Int} {k f : Nat} {l : List Sy} (h : hd l = 126) : itemK k (itemS n at_ (f + 1) l) = itemK (k + 1) (itemS n at_ f l.tail) := by
  rw [itemS, if_pos h]
  cases itemS n at_ f l.tail with
  | error x => rfl
  | ok y =>
    obtain ⟨z, l1⟩ := y
    show Except.ok (cap61 (cap61 (z + 1) + (k : Int)), l1) = Except.ok (cap61 (z + ((k + 1 : Nat) : Int)), l1)
    rw [cap_cap (by omega), show z + 1 + (k : Int) = z + ((k + 1 : Nat) : Int) from by omega]
end Go.Proofs.YtihjfoldgnoolaaGreatDoor
