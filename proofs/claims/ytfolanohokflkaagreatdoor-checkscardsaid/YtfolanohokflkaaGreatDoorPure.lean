import GoSem.Core.Utf8
/-
  The plain mathematics: no program, no kit.
-/
namespace Go.Proofs.YtfolanohokflkaaGreatDoor

/-- a size, no more than one above the greatest. -/
def cap61 (n : Int) : Int := if 60 < n then 61 else n

def isSym (n : Int) : Bool := decide (0 ≤ n ∧ n ≤ 1114111 ∧ (n < 55296 ∨ 57343 < n))

def amongL (c : Int) (l : List UInt8) : Bool := l.any fun b => (b.toNat : Int) == c
theorem take_snoc (s : ByteArray) (k : Nat) (h : k < s.size) : s.data.toList.take (k + 1) = s.data.toList.take k ++ [s[k]] := by
  rw [List.take_succ_eq_append_getElem (by simpa using h)]; rfl
theorem amongL_snoc (c : Int) (l : List UInt8) (b : UInt8) : amongL c (l ++ [b]) = (amongL c l || (b.toNat : Int) == c) := by simp [amongL]
theorem amongL_append (c : Int) (l m : List UInt8) : amongL c (l ++ m) = (amongL c l || amongL c m) := by simp [amongL]

/-- six bits of a byte that goes on an encoding; -1: it does not. -/
def tailN (s : ByteArray) (i : Nat) : Int := if i < s.size ∧ (s.get! i).toNat / 64 = 2 then (((s.get! i).toNat % 64 : Nat) : Int) else -1
theorem tailN_lt (s : ByteArray) (i : Nat) : tailN s i < 64 := by unfold tailN; split <;> omega
theorem tailN_ge (s : ByteArray) (i : Nat) : -1 ≤ tailN s i := by unfold tailN; split <;> omega
theorem get_bang (s : ByteArray) (i : Nat) (h : i < s.size) : s.get! i = s[i] := by simp [ByteArray.get!, h]; rfl

/-- the bytes that go on an encoding. -/
def oneLoop (s : ByteArray) (i : Nat) : Nat → Nat → Int → Option Int
  | 0, _, n => some n
  | m + 1, k, n => if tailN s (i + k) < 0 then none else oneLoop s i m (k + 1) (64 * n + tailN s (i + k))
def oneEnd (size : Nat) (least : Int) : Option Int → Int × Int
  | none => (65533, 1)
  | some n => if n < least then (65533, 1) else if isSym n = true then (n, size) else (65533, 1)
def oneFn (s : ByteArray) (i : Nat) : Int × Int :=
  let b : Int := ((s.get! i).toNat : Int)
  if b < 128 then (b, 1)
  else if 192 ≤ b ∧ b < 224 then oneEnd 2 128 (oneLoop s i 1 1 (b - 192))
  else if 224 ≤ b ∧ b < 240 then oneEnd 3 2048 (oneLoop s i 2 1 (b - 224))
  else if 240 ≤ b ∧ b < 248 then oneEnd 4 65536 (oneLoop s i 3 1 (b - 240))
  else (65533, 1)
def nB (k : Nat) (n : Int) : Prop := 0 ≤ n ∧ ((k = 1 ∧ n < 32) ∨ (k = 2 ∧ n < 2048) ∨ (k = 3 ∧ n < 131072) ∨ (k = 4 ∧ n < 8388608))
theorem nB_small {k : Nat} {n : Int} (h : nB k n) : 0 ≤ n ∧ n < 8388608 := by unfold nB at h; omega
theorem nB_step {k : Nat} {n t : Int} (h : nB k n) (hk : k < 4) (h0 : 0 ≤ t) (ht : t < 64) : nB (k + 1) (64 * n + t) := by unfold nB at h ⊢; omega

theorem tailN_yes {s : ByteArray} {i : Nat} (c : i < s.size ∧ (s.get! i).toNat / 64 = 2) : tailN s i = (((s.get! i).toNat % 64 : Nat) : Int) := if_pos c
theorem tailN_no {s : ByteArray} {i : Nat} (c : ¬ (i < s.size ∧ (s.get! i).toNat / 64 = 2)) : tailN s i = -1 := if_neg c
theorem oneLoop_yes {s : ByteArray} {i k m : Nat} {n t : Int} (h : tailN s (i + k) = t) (h0 : 0 ≤ t) : oneLoop s i (m + 1) k n = oneLoop s i m (k + 1) (64 * n + t) := by
  rw [oneLoop, h, if_neg (by omega)]
theorem oneLoop_no {s : ByteArray} {i k m : Nat} {n : Int} (h : tailN s (i + k) = -1) : oneLoop s i (m + 1) k n = none := by
  rw [oneLoop, h, if_pos (by omega)]
theorem isSym_true {n : Int} (h : 0 ≤ n ∧ n ≤ 1114111 ∧ (n < 55296 ∨ 57343 < n)) : isSym n = true := by simpa [isSym] using h
theorem isSym_false {n : Int} (h : ¬ (0 ≤ n ∧ n ≤ 1114111 ∧ (n < 55296 ∨ 57343 < n))) : ¬ isSym n = true := by simpa [isSym] using h

theorem pair_eq {a b : Int} {c d : Nat} (h1 : a = c) (h2 : b = d) : (a, b) = (((c, d) : Nat × Nat).1.cast, ((c, d) : Nat × Nat).2.cast) := by rw [h1, h2]

theorem oneFn_decode (s : ByteArray) (i : Nat) : oneFn s i = (((Utf8.decode s i).1 : Int), ((Utf8.decode s i).2 : Int)) := by
  have g0 := (s.get! i).toNat_lt
  have g1 := (s.get! (i + 1)).toNat_lt
  have g2 := (s.get! (i + 2)).toNat_lt
  have g3 := (s.get! (i + 3)).toNat_lt
  unfold oneFn Utf8.decode
  simp only [Utf8.valid, Utf8.runeError, Nat.add_zero, Bool.and_eq_true, Bool.or_eq_true, beq_iff_eq, decide_eq_true_eq, ge_iff_le]
  by_cases h0 : (s.get! i).toNat < 128
  · rw [if_pos (by omega), if_pos h0]; exact pair_eq rfl rfl
  rw [if_neg (by omega), if_neg h0]
  by_cases h1 : 192 ≤ (s.get! i).toNat ∧ (s.get! i).toNat < 224
  · rw [if_pos (by omega)]
    by_cases c1 : i + 1 < s.size ∧ (s.get! (i + 1)).toNat / 64 = 2
    · rw [oneLoop_yes (tailN_yes c1) (by omega), oneLoop, if_pos (by omega)]
      by_cases k1 : 128 ≤ (s.get! i).toNat % 32 * 64 + (s.get! (i + 1)).toNat % 64
      · rw [if_pos k1, oneEnd, if_neg (by omega), if_pos (isSym_true (by omega))]; exact pair_eq (by omega) rfl
      · rw [if_neg k1, oneEnd, if_pos (by omega)]; exact pair_eq rfl rfl
    · rw [oneLoop_no (tailN_no c1), if_neg (by omega), if_neg (by omega), if_neg (by omega)]; exact pair_eq rfl rfl
  rw [if_neg (by omega)]
  by_cases h2 : 224 ≤ (s.get! i).toNat ∧ (s.get! i).toNat < 240
  · rw [if_pos (by omega)]
    by_cases c1 : i + 1 < s.size ∧ (s.get! (i + 1)).toNat / 64 = 2
    · rw [oneLoop_yes (tailN_yes c1) (by omega)]
      by_cases c2 : i + 2 < s.size ∧ (s.get! (i + 2)).toNat / 64 = 2
      · rw [oneLoop_yes (tailN_yes (i := i + 2) c2) (by omega), oneLoop, if_neg (by omega), if_pos (by omega)]
        by_cases k1 : 2048 ≤ (s.get! i).toNat % 16 * 4096 + (s.get! (i + 1)).toNat % 64 * 64 + (s.get! (i + 2)).toNat % 64
        · rw [oneEnd, if_neg (by omega)]
          by_cases k2 : (s.get! i).toNat % 16 * 4096 + (s.get! (i + 1)).toNat % 64 * 64 + (s.get! (i + 2)).toNat % 64 < 55296 ∨ 57344 ≤ (s.get! i).toNat % 16 * 4096 + (s.get! (i + 1)).toNat % 64 * 64 + (s.get! (i + 2)).toNat % 64
          · rw [if_pos (isSym_true (by omega)), if_pos (by omega)]; exact pair_eq (by omega) rfl
          · rw [if_neg (isSym_false (by omega)), if_neg (by omega)]; exact pair_eq rfl rfl
        · rw [oneEnd, if_pos (by omega), if_neg (by omega)]; exact pair_eq rfl rfl
      · rw [oneLoop_no (tailN_no (i := i + 2) c2), if_neg (by omega), if_neg (by omega), if_neg (by omega)]; exact pair_eq rfl rfl
    · rw [oneLoop_no (tailN_no c1), if_neg (by omega), if_neg (by omega), if_neg (by omega)]; exact pair_eq rfl rfl
  rw [if_neg (by omega)]
  by_cases h3 : 240 ≤ (s.get! i).toNat ∧ (s.get! i).toNat < 248
  · rw [if_pos (by omega)]
    by_cases c1 : i + 1 < s.size ∧ (s.get! (i + 1)).toNat / 64 = 2
    · rw [oneLoop_yes (tailN_yes c1) (by omega)]
      by_cases c2 : i + 2 < s.size ∧ (s.get! (i + 2)).toNat / 64 = 2
      · rw [oneLoop_yes (tailN_yes (i := i + 2) c2) (by omega)]
        by_cases c3 : i + 3 < s.size ∧ (s.get! (i + 3)).toNat / 64 = 2
        · rw [oneLoop_yes (tailN_yes (i := i + 3) c3) (by omega), oneLoop, if_neg (by omega), if_neg (by omega), if_pos (by omega)]
          by_cases k1 : 65536 ≤ (s.get! i).toNat % 8 * 262144 + (s.get! (i + 1)).toNat % 64 * 4096 + (s.get! (i + 2)).toNat % 64 * 64 + (s.get! (i + 3)).toNat % 64
          · rw [oneEnd, if_neg (by omega)]
            by_cases k2 : (s.get! i).toNat % 8 * 262144 + (s.get! (i + 1)).toNat % 64 * 4096 + (s.get! (i + 2)).toNat % 64 * 64 + (s.get! (i + 3)).toNat % 64 ≤ 1114111
            · rw [if_pos (isSym_true (by omega)), if_pos (by omega)]; exact pair_eq (by omega) rfl
            · rw [if_neg (isSym_false (by omega)), if_neg (by omega)]; exact pair_eq rfl rfl
          · rw [oneEnd, if_pos (by omega), if_neg (by omega)]; exact pair_eq rfl rfl
        · rw [oneLoop_no (tailN_no (i := i + 3) c3), if_neg (by omega), if_neg (by omega), if_neg (by omega)]; exact pair_eq rfl rfl
      · rw [oneLoop_no (tailN_no (i := i + 2) c2), if_neg (by omega), if_neg (by omega), if_neg (by omega)]; exact pair_eq rfl rfl
    · rw [oneLoop_no (tailN_no c1), if_neg (by omega), if_neg (by omega), if_neg (by omega)]; exact pair_eq rfl rfl
  rw [if_neg (by omega), if_neg (by omega), if_neg (by omega), if_neg (by omega)]; exact pair_eq rfl rfl
end Go.Proofs.YtfolanohokflkaaGreatDoor
