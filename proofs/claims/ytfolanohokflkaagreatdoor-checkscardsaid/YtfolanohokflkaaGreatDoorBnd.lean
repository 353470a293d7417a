import Derived.Test.YtfolanohokflkaaGreatDoorPSame
namespace Go.Proofs.YtfolanohokflkaaGreatDoor

theorem cap_le (n : Int) : cap61 n ≤ 61 := by unfold cap61; split <;> omega
theorem cap_ge {n : Int} (h : 0 ≤ n) : 0 ≤ cap61 n := by unfold cap61; split <;> omega
theorem cap_id {n : Int} (h : n ≤ 61) : cap61 n = n := by unfold cap61; split <;> omega
theorem cap_cap {a b : Int} (h : 0 ≤ b) : cap61 (cap61 a + b) = cap61 (a + b) := by
  unfold cap61
  by_cases h1 : 60 < a
  · rw [if_pos h1, if_pos (by omega), if_pos (by omega)]
  · rw [if_neg h1]

theorem pos1_bd {m : Int} (h0 : 0 ≤ m) (h1 : m ≤ 12) : 0 ≤ pos1 m ∧ pos1 m ≤ 12 := by unfold pos1; split <;> omega
theorem numberS_bd {n : Nat} {least : Int} {l : List Sy} {y : Int × List Sy} (h : numberS n least l = .ok y) : 0 ≤ y.1 ∧ y.1 ≤ 12 := by
  unfold numberS at h
  split at h
  · rename_i hdig
    have hdig' : 48 ≤ hd l ∧ hd l ≤ 57 := by simpa [isDig] using hdig
    split at h
    · cases h
    · rename_i h2
      injection h with h
      subst h
      refine ⟨?_, by omega⟩
      unfold numV
      split
      · rename_i h3
        have h4 : 48 ≤ hd l.tail ∧ hd l.tail ≤ 57 := by simpa [isDig] using h3.2
        dsimp only; omega
      · dsimp only; omega
  · cases h
theorem closeS_bd {n : Nat} {m : Int} {l : List Sy} {y : Int × List Sy} (h : closeS n m l = .ok y) : y.1 = m := by
  unfold closeS at h
  split at h
  · injection h with h; subst h; rfl
  · cases h
theorem repeatS_bd {n : Nat} {l : List Sy} {y : Int × List Sy} (h : repeatS n l = .ok y) : 0 ≤ y.1 ∧ y.1 ≤ 13 := by
  unfold repeatS at h
  split at h
  · unfold boundsS at h
    split at h
    · cases h
    · rename_i a l1 h1
      have g1 := numberS_bd h1
      dsimp only at g1
      split at h
      · split at h
        · injection h with h; subst h; dsimp only; omega
        · split at h
          · cases h
          · rename_i m l2 h2
            have g2 := numberS_bd h2
            dsimp only at g2
            have g3 := closeS_bd h
            have := pos1_bd g2.1 g2.2
            omega
      · have g3 := closeS_bd h
        have := pos1_bd g1.1 g1.2
        omega
  · injection h with h; subst h; dsimp only; omega
/-- a size. -/
def Bd (f : List Sy → Res Int) : Prop := ∀ l y, f l = .ok y → 0 ≤ y.1 ∧ y.1 ≤ 61
theorem repsS_bd {n : Nat} : ∀ (f : Nat) {z : Int} {l : List Sy} {y : Int × List Sy}, 0 ≤ z → z ≤ 61 → repsS n f z l = .ok y → 0 ≤ y.1 ∧ y.1 ≤ 61
  | 0, _, l, y, _, _, h => by cases h
  | f + 1, z, l, y, h0, h1, h => by
    rw [repsS] at h
    split at h
    · split at h
      · cases h
      · rename_i m l1 hr
        have g := repeatS_bd hr
        exact repsS_bd f (cap_ge (Int.mul_nonneg h0 g.1)) (cap_le _) h
    · injection h with h; subst h; exact ⟨h0, h1⟩
theorem itemS_bd {n : Nat} {at_ : List Sy → Res Int} (ha : Bd at_) : ∀ (f : Nat) {l : List Sy} {y : Int × List Sy}, itemS n at_ f l = .ok y → 0 ≤ y.1 ∧ y.1 ≤ 61
  | 0, l, y, h => by cases h
  | f + 1, l, y, h => by
    rw [itemS] at h
    split at h
    · split at h
      · cases h
      · rename_i z l1 h1
        have g1 := itemS_bd ha f h1
        dsimp only at g1
        injection h with h; subst h
        exact ⟨cap_ge (by omega), cap_le _⟩
    · split at h
      · cases h
      · rename_i z l1 h1
        have g1 := ha _ _ h1
        exact repsS_bd _ g1.1 g1.2 h
theorem rowLoopS_bd {n : Nat} {at_ : List Sy → Res Int} (ha : Bd at_) : ∀ (f : Nat) {z : Int} {l : List Sy} {y : Int × List Sy}, 0 ≤ z → z ≤ 61 → rowLoopS n at_ f z l = .ok y → 0 ≤ y.1 ∧ y.1 ≤ 61
  | 0, _, l, y, _, _, h => by cases h
  | f + 1, z, l, y, h0, h1, h => by
    rw [rowLoopS] at h
    split at h
    · injection h with h; subst h; exact ⟨h0, h1⟩
    · split at h
      · cases h
      · rename_i x l1 hi
        have g := itemS_bd ha _ hi
        dsimp only at g
        exact rowLoopS_bd ha f (cap_ge (by omega)) (cap_le _) h
theorem rowS_bd {n : Nat} {at_ : List Sy → Res Int} (ha : Bd at_) : Bd (rowS n at_) := by
  intro l y h
  unfold rowS at h
  split at h
  · injection h with h; subst h; dsimp only; omega
  · split at h
    · cases h
    · rename_i x l1 h1
      have g1 := itemS_bd ha _ h1
      exact rowLoopS_bd ha _ g1.1 g1.2 h
theorem sepLoopS_bd {n : Nat} {sub : List Sy → Res Int} {sg : Int} (hs : Bd sub) : ∀ (f : Nat) {z : Int} {l : List Sy} {y : Int × List Sy}, 0 ≤ z → z ≤ 61 → sepLoopS n sub sg f z l = .ok y → 0 ≤ y.1 ∧ y.1 ≤ 61
  | 0, _, l, y, _, _, h => by cases h
  | f + 1, z, l, y, h0, h1, h => by
    rw [sepLoopS] at h
    split at h
    · split at h
      · cases h
      · rename_i x l1 hi
        have g := hs _ _ hi
        dsimp only at g
        exact sepLoopS_bd hs f (cap_ge (by omega)) (cap_le _) h
    · injection h with h; subst h; exact ⟨h0, h1⟩
theorem sepS_bd {n : Nat} {sub : List Sy → Res Int} {sg : Int} (hs : Bd sub) : Bd (sepS n sub sg) := by
  intro l y h
  unfold sepS at h
  split at h
  · cases h
  · rename_i x l1 h1
    have g1 := hs _ _ h1
    exact sepLoopS_bd hs _ g1.1 g1.2 h
theorem bothS_bd {n : Nat} {at_ : List Sy → Res Int} (ha : Bd at_) : Bd (bothS n at_) := sepS_bd (rowS_bd ha)
theorem choiceS_bd {n : Nat} {at_ : List Sy → Res Int} (ha : Bd at_) : Bd (choiceS n at_) := sepS_bd (bothS_bd ha)
theorem leafS_bd {n : Nat} {l : List Sy} {y : Int × List Sy} (h : leafS n l = .ok y) : y.1 = 1 := by
  unfold leafS at h
  repeat' split at h
  all_goals cases h
  all_goals rfl
theorem atomS_bd (n : Nat) : ∀ k, Bd (atomS n k)
  | 0 => by
    intro l y h
    rw [atomS] at h
    split at h
    · cases h
    · have := leafS_bd h; omega
  | k + 1 => by
    intro l y h
    rw [atomS] at h
    split at h
    · split at h
      · cases h
      · rename_i z l1 h1
        have g1 := choiceS_bd (atomS_bd n k) _ _ h1
        split at h
        · injection h with h; subst h; exact g1
        · cases h
    · have := leafS_bd h; omega

/-- so many nots ahead of an item. -/
def itemK (k : Nat) : Res Int → Res Int
  | .error x => .error x
  | .ok (z, l) => .ok (cap61 (z + k), l)
theorem itemK_zero {r : Res Int} (h : ∀ y, r = .ok y → y.1 ≤ 61) : itemK 0 r = r := by
  cases r with
  | error x => rfl
  | ok y =>
    obtain ⟨z, l⟩ := y
    have := h _ rfl
    dsimp only at this
    rw [itemK, show z + ((0 : Nat) : Int) = z from by omega, cap_id this]
theorem itemK_step {n : Nat} {at_ : List Sy → Res Int} {k f : Nat} {l : List Sy} (h : hd l = 126) : itemK k (itemS n at_ (f + 1) l) = itemK (k + 1) (itemS n at_ f l.tail) := by
  rw [itemS, if_pos h]
  cases itemS n at_ f l.tail with
  | error x => rfl
  | ok y =>
    obtain ⟨z, l1⟩ := y
    show Except.ok (cap61 (cap61 (z + 1) + (k : Int)), l1) = Except.ok (cap61 (z + ((k + 1 : Nat) : Int)), l1)
    rw [cap_cap (by omega), show z + 1 + (k : Int) = z + ((k + 1 : Nat) : Int) from by omega]
end Go.Proofs.YtfolanohokflkaaGreatDoor
