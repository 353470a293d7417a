import GoSem.Core.Utf8
import Derived.Test.YtfolanohokflkabGreatDoorProg
import Derived.WalkKit
import Derived.WalkSpells
import Derived.WalkLawsBesides
import Derived.WalkMore
import Derived.Deep.OwnRows
import Derived.Laws.BytesArg
import Derived.Laws.BitsAllLaws
/-
  The plain mathematics: no program, no kit.
-/
namespace Go.Proofs.YtfolanohokflkabGreatDoor

/-- a size, no more than one above the greatest. -/
def cap61 (n : Int) : Int := if 60 < n then 61 else n

def isSym (n : Int) : Bool := decide (0 ≤ n ∧ n ≤ 1114111 ∧ (n < 55296 ∨ 57343 < n))

def amongL (c : Int) (l : List UInt8) : Bool := l.any fun b => (b.toNat : Int) == c
theorem take_snoc (s : ByteArray) (k : Nat) (h : k < s.size) : s.data.toList.take (k + 1) = s.data.toList.take k ++ [s[k]] := by
  rw [List.take_succ_eq_append_getElem (by simpa using h)]; rfl
theorem amongL_snoc (c : Int) (l : List UInt8) (b : UInt8) : amongL c (l ++ [b]) = (amongL c l || (b.toNat : Int) == c) := by simp [amongL]
theorem amongL_append (c : Int) (l m : List UInt8) : amongL c (l ++ m) = (amongL c l || amongL c m) := by simp [amongL]

/-- six bits of a byte that goes on an encoding; -1: it does not. -/
def tailN (s : ByteArray) (i : Nat) : Int := if i < s.size ∧ (s.get! i).toNat / 64 = 2 then (((s.get! i).toNat % 64 : Nat) : Int) else -1
theorem tailN_lt (s : ByteArray) (i : Nat) : tailN s i < 64 := by unfold tailN; split <;> omega
theorem tailN_ge (s : ByteArray) (i : Nat) : -1 ≤ tailN s i := by unfold tailN; split <;> omega
theorem get_bang (s : ByteArray) (i : Nat) (h : i < s.size) : s.get! i = s[i] := by simp [ByteArray.get!, h]; rfl

/-- the bytes that go on an encoding. -/
def oneLoop (s : ByteArray) (i : Nat) : Nat → Nat → Int → Option Int
  | 0, _, n => some n
  | m + 1, k, n => if tailN s (i + k) < 0 then none else oneLoop s i m (k + 1) (64 * n + tailN s (i + k))
def oneEnd (size : Nat) (least : Int) : Option Int → Int × Int
  | none => (65533, 1)
  | some n => if n < least then (65533, 1) else if isSym n = true then (n, size) else (65533, 1)
def oneFn (s : ByteArray) (i : Nat) : Int × Int :=
  let b : Int := ((s.get! i).toNat : Int)
  if b < 128 then (b, 1)
  else if 192 ≤ b ∧ b < 224 then oneEnd 2 128 (oneLoop s i 1 1 (b - 192))
  else if 224 ≤ b ∧ b < 240 then oneEnd 3 2048 (oneLoop s i 2 1 (b - 224))
  else if 240 ≤ b ∧ b < 248 then oneEnd 4 65536 (oneLoop s i 3 1 (b - 240))
  else (65533, 1)
def nB (k : Nat) (n : Int) : Prop := 0 ≤ n ∧ ((k = 1 ∧ n < 32) ∨ (k = 2 ∧ n < 2048) ∨ (k = 3 ∧ n < 131072) ∨ (k = 4 ∧ n < 8388608))
theorem nB_small {k : Nat} {n : Int} (h : nB k n) : 0 ≤ n ∧ n < 8388608 := by unfold nB at h; omega
theorem nB_step {k : Nat} {n t : Int} (h : nB k n) (hk : k < 4) (h0 : 0 ≤ t) (ht : t < 64) : nB (k + 1) (64 * n + t) := by unfold nB at h ⊢; omega

theorem tailN_yes {s : ByteArray} {i : Nat} (c : i < s.size ∧ (s.get! i).toNat / 64 = 2) : tailN s i = (((s.get! i).toNat % 64 : Nat) : Int) := if_pos c
theorem tailN_no {s : ByteArray} {i : Nat} (c : ¬ (i < s.size ∧ (s.get! i).toNat / 64 = 2)) : tailN s i = -1 := if_neg c
theorem oneLoop_yes {s : ByteArray} {i k m : Nat} {n t : Int} (h : tailN s (i + k) = t) (h0 : 0 ≤ t) : oneLoop s i (m + 1) k n = oneLoop s i m (k + 1) (64 * n + t) := by
  rw [oneLoop, h, if_neg (by omega)]
theorem oneLoop_no {s : ByteArray} {i k m : Nat} {n : Int} (h : tailN s (i + k) = -1) : oneLoop s i (m + 1) k n = none := by
  rw [oneLoop, h, if_pos (by omega)]
theorem isSym_true {n : Int} (h : 0 ≤ n ∧ n ≤ 1114111 ∧ (n < 55296 ∨ 57343 < n)) : isSym n = true := by simpa [isSym] using h
theorem isSym_false {n : Int} (h : ¬ (0 ≤ n ∧ n ≤ 1114111 ∧ (n < 55296 ∨ 57343 < n))) : ¬ isSym n = true := by simpa [isSym] using h

theorem pair_eq {a b : Int} {c d : Nat} (h1 : a = c) (h2 : b = d) : (a, b) = (((c, d) : Nat × Nat).1.cast, ((c, d) : Nat × Nat).2.cast) := by rw [h1, h2]

theorem oneFn_decode (s : ByteArray) (i : Nat) : oneFn s i = (((Utf8.decode s i).1 : Int), ((Utf8.decode s i).2 : Int)) := by
  have g0 := (s.get! i).toNat_lt
  have g1 := (s.get! (i + 1)).toNat_lt
  have g2 := (s.get! (i + 2)).toNat_lt
  have g3 := (s.get! (i + 3)).toNat_lt
  unfold oneFn Utf8.decode
  simp only [Utf8.valid, Utf8.runeError, Nat.add_zero, Bool.and_eq_true, Bool.or_eq_true, beq_iff_eq, decide_eq_true_eq, ge_iff_le]
  by_cases h0 : (s.get! i).toNat < 128
  · rw [if_pos (by omega), if_pos h0]; exact pair_eq rfl rfl
  rw [if_neg (by omega), if_neg h0]
  by_cases h1 : 192 ≤ (s.get! i).toNat ∧ (s.get! i).toNat < 224
  · rw [if_pos (by omega)]
    by_cases c1 : i + 1 < s.size ∧ (s.get! (i + 1)).toNat / 64 = 2
    · rw [oneLoop_yes (tailN_yes c1) (by omega), oneLoop, if_pos (by omega)]
      by_cases k1 : 128 ≤ (s.get! i).toNat % 32 * 64 + (s.get! (i + 1)).toNat % 64
      · rw [if_pos k1, oneEnd, if_neg (by omega), if_pos (isSym_true (by omega))]; exact pair_eq (by omega) rfl
      · rw [if_neg k1, oneEnd, if_pos (by omega)]; exact pair_eq rfl rfl
    · rw [oneLoop_no (tailN_no c1), if_neg (by omega), if_neg (by omega), if_neg (by omega)]; exact pair_eq rfl rfl
  rw [if_neg (by omega)]
  by_cases h2 : 224 ≤ (s.get! i).toNat ∧ (s.get! i).toNat < 240
  · rw [if_pos (by omega)]
    by_cases c1 : i + 1 < s.size ∧ (s.get! (i + 1)).toNat / 64 = 2
    · rw [oneLoop_yes (tailN_yes c1) (by omega)]
      by_cases c2 : i + 2 < s.size ∧ (s.get! (i + 2)).toNat / 64 = 2
      · rw [oneLoop_yes (tailN_yes (i := i + 2) c2) (by omega), oneLoop, if_neg (by omega), if_pos (by omega)]
        by_cases k1 : 2048 ≤ (s.get! i).toNat % 16 * 4096 + (s.get! (i + 1)).toNat % 64 * 64 + (s.get! (i + 2)).toNat % 64
        · rw [oneEnd, if_neg (by omega)]
          by_cases k2 : (s.get! i).toNat % 16 * 4096 + (s.get! (i + 1)).toNat % 64 * 64 + (s.get! (i + 2)).toNat % 64 < 55296 ∨ 57344 ≤ (s.get! i).toNat % 16 * 4096 + (s.get! (i + 1)).toNat % 64 * 64 + (s.get! (i + 2)).toNat % 64
          · rw [if_pos (isSym_true (by omega)), if_pos (by omega)]; exact pair_eq (by omega) rfl
          · rw [if_neg (isSym_false (by omega)), if_neg (by omega)]; exact pair_eq rfl rfl
        · rw [oneEnd, if_pos (by omega), if_neg (by omega)]; exact pair_eq rfl rfl
      · rw [oneLoop_no (tailN_no (i := i + 2) c2), if_neg (by omega), if_neg (by omega), if_neg (by omega)]; exact pair_eq rfl rfl
    · rw [oneLoop_no (tailN_no c1), if_neg (by omega), if_neg (by omega), if_neg (by omega)]; exact pair_eq rfl rfl
  rw [if_neg (by omega)]
  by_cases h3 : 240 ≤ (s.get! i).toNat ∧ (s.get! i).toNat < 248
  · rw [if_pos (by omega)]
    by_cases c1 : i + 1 < s.size ∧ (s.get! (i + 1)).toNat / 64 = 2
    · rw [oneLoop_yes (tailN_yes c1) (by omega)]
      by_cases c2 : i + 2 < s.size ∧ (s.get! (i + 2)).toNat / 64 = 2
      · rw [oneLoop_yes (tailN_yes (i := i + 2) c2) (by omega)]
        by_cases c3 : i + 3 < s.size ∧ (s.get! (i + 3)).toNat / 64 = 2
        · rw [oneLoop_yes (tailN_yes (i := i + 3) c3) (by omega), oneLoop, if_neg (by omega), if_neg (by omega), if_pos (by omega)]
          by_cases k1 : 65536 ≤ (s.get! i).toNat % 8 * 262144 + (s.get! (i + 1)).toNat % 64 * 4096 + (s.get! (i + 2)).toNat % 64 * 64 + (s.get! (i + 3)).toNat % 64
          · rw [oneEnd, if_neg (by omega)]
            by_cases k2 : (s.get! i).toNat % 8 * 262144 + (s.get! (i + 1)).toNat % 64 * 4096 + (s.get! (i + 2)).toNat % 64 * 64 + (s.get! (i + 3)).toNat % 64 ≤ 1114111
            · rw [if_pos (isSym_true (by omega)), if_pos (by omega)]; exact pair_eq (by omega) rfl
            · rw [if_neg (isSym_false (by omega)), if_neg (by omega)]; exact pair_eq rfl rfl
          · rw [oneEnd, if_pos (by omega), if_neg (by omega)]; exact pair_eq rfl rfl
        · rw [oneLoop_no (tailN_no (i := i + 3) c3), if_neg (by omega), if_neg (by omega), if_neg (by omega)]; exact pair_eq rfl rfl
      · rw [oneLoop_no (tailN_no (i := i + 2) c2), if_neg (by omega), if_neg (by omega), if_neg (by omega)]; exact pair_eq rfl rfl
    · rw [oneLoop_no (tailN_no c1), if_neg (by omega), if_neg (by omega), if_neg (by omega)]; exact pair_eq rfl rfl
  rw [if_neg (by omega), if_neg (by omega), if_neg (by omega), if_neg (by omega)]; exact pair_eq rfl rfl
end Go.Proofs.YtfolanohokflkabGreatDoor

namespace Go.Proofs.YtfolanohokflkabGreatDoor
open Go.RowKit

theorem hide {p : Prop} (h : p) : Hid p := h
theorem unhide {p : Prop} (h : Hid p) : p := h
set_option maxHeartbeats 400000 in
theorem refCapped_any (n : Int) (w : World) :
    Calls Tryz.prog 257 #[.int .i64 n] w fun e w' => e = .returned (.int .i64 (cap61 n)) ∧ w = w' := by
  by_cases h : 60 < n
  · go_enter Tryz.func257, Tryz.ntmps257
    go_wp2
    go_ret
    exact ⟨by simp [cap61, h], rfl⟩
  · go_enter Tryz.func257, Tryz.ntmps257
    go_wp2
    go_ret
    exact ⟨by rw [cap61, if_neg (by omega)]; rfl, rfl⟩

set_option maxHeartbeats 400000 in
theorem refIsSymbol_any (n : Int) (w : World) :
    Calls Tryz.prog 254 #[.int .i64 n] w fun e w' => e = .returned (.bool (isSym n)) ∧ w = w' := by
  by_cases h0 : 0 ≤ n
  · by_cases h1 : n ≤ 1114111
    · by_cases h2 : n < 55296
      · go_enter Tryz.func254, Tryz.ntmps254
        go_wp2
        go_ret
        exact ⟨by simp [isSym]; omega, rfl⟩
      · by_cases h3 : 57343 < n
        · go_enter Tryz.func254, Tryz.ntmps254
          go_wp2
          go_ret
          exact ⟨by simp [isSym]; omega, rfl⟩
        · go_enter Tryz.func254, Tryz.ntmps254
          go_wp2
          go_ret
          exact ⟨by simp [isSym]; omega, rfl⟩
    · go_enter Tryz.func254, Tryz.ntmps254
      go_wp2
      go_ret
      exact ⟨by simp [isSym]; omega, rfl⟩
  · go_enter Tryz.func254, Tryz.ntmps254
    go_wp2
    go_ret
    exact ⟨by simp [isSym]; omega, rfl⟩

theorem ret_int {k : IntKind} {a b : Int} (h : a = b) : Ending.returned (.int k a) = .returned (.int k b) := by rw [h]
theorem ret_bool {a b : Bool} (h : a = b) : Ending.returned (.bool a) = .returned (.bool b) := by rw [h]

set_option maxHeartbeats 400000 in
theorem refAmong_any (c : Int) (s : ByteArray) (w : World) (hs : s.size ≤ maxLen) :
    Calls Tryz.prog 221 #[.int .i64 c, .string s] w fun e w' => e = .returned (.bool (amongL c s.data.toList)) ∧ w = w' := by
  unfold maxLen at hs
  go_enter Tryz.func221, Tryz.ntmps221
  go_wp2
  go_loop [5] (fun i => ∃ k : Nat, k ≤ s.size ∧ i = .int .i64 k ∧ amongL c (s.data.toList.take k) = false) (fun i => s.size - (intOf i).toNat)
  case atStart => exact ⟨0, Nat.zero_le _, rfl, rfl⟩
  case round =>
    obtain ⟨k, hk, rfl, hno⟩ := hrel
    have HN := hide hno
    clear hno
    by_cases hlt : k < s.size
    · have hsn := amongL_snoc c (s.data.toList.take k) s[k]
      rw [← take_snoc s k hlt] at hsn
      have HS := hide hsn
      clear hsn
      have hap : amongL c s.data.toList = (amongL c (s.data.toList.take (k + 1)) || amongL c (s.data.toList.drop (k + 1))) := by
        rw [← amongL_append, List.take_append_drop]
      have HA := hide hap
      clear hap
      have hb : (s[k].toNat : Int) < 256 := by have := s[k].toNat_lt; omega
      by_cases he : (s[k].toNat : Int) = c
      · have he' : ((s[k].toNat : Int) == c) = true := by simp [he]
        have HE := hide he
        clear he
        go_wp2
        go_ret
        refine ⟨ret_bool ?_, rfl⟩
        rw [unhide HA, unhide HS, he']; simp
      · have he' : ((s[k].toNat : Int) == c) = false := by simp [he]
        have HE := hide he
        clear he
        go_wp2
        go_round
        case rel => exact ⟨k + 1, by omega, by go_num, by rw [unhide HS, unhide HN, he']; rfl⟩
        case measure => simp [intOf]; omega
    · go_wp2
      go_ret
      refine ⟨ret_bool ?_, rfl⟩
      rw [← unhide HN, List.take_of_length_le (by simp; omega)]
end Go.Proofs.YtfolanohokflkabGreatDoor

/-
  Small laws on slices of the call's own: no program.
-/
namespace Go.Proofs.YtfolanohokflkabGreatDoor
open Go.RowKit

theorem own_view {w : World} {base e size : Nat} {v : Value} {n : Nat} {xs : List Value} (h : w.ownsRow base e size v n xs) :
    ∃ ao cap, v = .slice ao n cap ∧ (0 < n → ∃ g, ao = some ⟨g, 0, none⟩ ∧ base ≤ g ∧ g < w.heap.size ∧ (∀ j, j < n * size → w.cell? ⟨g, j, none⟩ = xs[j]?) ∧ ∀ j, w.frozen? ⟨g, j, none⟩ = false) := by
  obtain ⟨hl, ⟨rfl, rfl⟩ | ⟨g, cap, cur, rfl, hb, hg, hn, hm, hs, ht⟩⟩ := h
  · exact ⟨_, _, rfl, fun h => absurd h (Nat.lt_irrefl 0)⟩
  · refine ⟨_, _, rfl, fun _ => ⟨g, rfl, hb, ?_, fun j hj => ?_, fun j => ?_⟩⟩
    · exact (Array.getElem?_eq_some_iff.1 hg).1
    · rw [← ht, List.getElem?_take_of_lt hj]
      simp [World.cell?, hg]
    · simp [World.frozen?, hg]

theorem own_base {w : World} {base base' e size : Nat} {v : Value} {n : Nat} {xs : List Value} (h : w.ownsRow base e size v n xs) (hb : base' ≤ base) : w.ownsRow base' e size v n xs := by
  obtain ⟨hl, hx | ⟨g, cap, cur, hv, hb', rest⟩⟩ := h
  · exact ⟨hl, .inl hx⟩
  · exact ⟨hl, .inr ⟨g, cap, cur, hv, Nat.le_trans hb hb', rest⟩⟩

/-- what was owned below stays owned. -/
theorem own_below {w w' : World} {B base e size : Nat} {v : Value} {n : Nat} {xs : List Value} (h : w.ownsRow base e size v n xs) (hb : Below B w w') (hB : w.heap.size ≤ B) : w'.ownsRow base e size v n xs := by
  obtain ⟨hl, hx | ⟨g, cap, cur, hv, hb', hg, rest⟩⟩ := h
  · exact ⟨hl, .inl hx⟩
  · have hlt : g < w.heap.size := (Array.getElem?_eq_some_iff.1 hg).1
    exact ⟨hl, .inr ⟨g, cap, cur, hv, hb', by rw [hb.block g (by omega)]; exact hg, rest⟩⟩

/-- what is owned in a block other than the one that was turned. -/
theorem own_grown {w w' : World} {row : Option Nat} {base e size : Nat} {v : Value} {n : Nat} {xs : List Value} (h : w.ownsRow base e size v n xs) (hg : w.grownBy w' row) (hne : ∀ k, v.ownBlock = some k → row ≠ some k) : w'.ownsRow base e size v n xs := by
  obtain ⟨hl, hx | ⟨g, cap, cur, hv, hb', hgr, rest⟩⟩ := h
  · exact ⟨hl, .inl hx⟩
  · have hlt : g < w.heap.size := (Array.getElem?_eq_some_iff.1 hgr).1
    exact ⟨hl, .inr ⟨g, cap, cur, hv, hb', by rw [hg.block g hlt (fun e => hne g (by rw [hv]; rfl) e.symm)]; exact hgr, rest⟩⟩

theorem own_set {w : World} {base e size : Nat} {v : Value} {n : Nat} {xs : List Value} (h : w.ownsRow base e size v n xs) {g j : Nat} (hg : v.ownBlock = some g) (hj : j < n * size) (u : Value) :
    (w.setCell ⟨g, j, none⟩ u).ownsRow base e size v n (xs.set j u) := by
  obtain ⟨hl, ⟨rfl, rfl⟩ | ⟨g', cap, cur, rfl, hb, hgr, hn, hm, hs, ht⟩⟩ := h
  · cases hg
  · obtain rfl : g' = g := by simpa [Value.ownBlock] using hg
    refine ⟨by simpa using hl, .inr ⟨g', cap, cur.setIfInBounds j u, rfl, hb, ?_, hn, hm, by simpa using hs, ?_⟩⟩
    · obtain ⟨hlt, hge⟩ := Array.getElem?_eq_some_iff.1 hgr
      simp [World.setCell, hlt, Array.getElem_modify, hge]
    · rw [← ht]; simp [List.take_set]


def spanCells : List (Int × Int) → List Value
  | [] => []
  | x :: r => .int .i64 x.1 :: .int .i64 x.2 :: spanCells r
theorem spanCells_length (a : List (Int × Int)) : (spanCells a).length = a.length * 2 := by
  induction a with
  | nil => rfl
  | cons x a ih => simp [spanCells, ih]; omega
theorem spanCells_append (a b : List (Int × Int)) : spanCells (a ++ b) = spanCells a ++ spanCells b := by
  induction a with
  | nil => rfl
  | cons x a ih => simp [spanCells, ih]
theorem spanCells_lo : ∀ (l : List (Int × Int)) (i : Nat), i < l.length → (spanCells l)[i * 2]? = some (.int .i64 (l.getD i (0, 0)).1)
  | [], _, h => by simp at h
  | x :: l, 0, _ => rfl
  | x :: l, i + 1, h => by
    have := spanCells_lo l i (by simpa using h)
    rw [show (i + 1) * 2 = i * 2 + 1 + 1 from by omega]
    simpa [spanCells] using this
theorem spanCells_hi : ∀ (l : List (Int × Int)) (i : Nat), i < l.length → (spanCells l)[i * 2 + 1]? = some (.int .i64 (l.getD i (0, 0)).2)
  | [], _, h => by simp at h
  | x :: l, 0, _ => rfl
  | x :: l, i + 1, h => by
    have := spanCells_hi l i (by simpa using h)
    rw [show (i + 1) * 2 + 1 = i * 2 + 1 + 1 + 1 from by omega]
    simpa [spanCells] using this
end Go.Proofs.YtfolanohokflkabGreatDoor

/-
  The smallest automaton of a literal, by rounds that tell its states apart: plain functions, no program.
-/
namespace Go.Proofs.YtfolanohokflkabGreatDoor
/-- neighbours that go on to one state: the first, the last, the state. -/
abbrev Sp := Int × Int × Nat
def blw (x : Int) : Int := if x = 57344 then 55295 else x - 1
def stepSp (acc : List Sp) (low : Int) (s : Nat) : List Sp :=
  match acc.getLast? with
  | none => [(low, 1114111, s)]
  | some x => if x.2.2 = s then acc else acc.dropLast ++ [(x.1, blw low, x.2.2), (low, 1114111, s)]
def spansP (cl : List Int) (st : Int → Nat) : List Sp := cl.foldl (fun acc low => stepSp acc low (st low)) []
section
variable (hx : Int → List UInt8) (dc : Nat → List UInt8)
def spText (x : Sp) : List UInt8 := hx x.1 ++ 45 :: (hx x.2.1 ++ 62 :: dc x.2.2)
def commaL : List (List UInt8) → List UInt8
  | [] => []
  | [a] => a
  | a :: b :: r => a ++ 44 :: commaL (b :: r)
def lineP (em : Bool) (sp : List Sp) : List UInt8 := (if em = true then 43 else 45) :: (commaL (sp.map (spText hx dc)) ++ [59])
end
theorem cut_same {s : UInt8} : ∀ {a a' r r' : List UInt8}, s ∉ a → s ∉ a' → a ++ s :: r = a' ++ s :: r' → a = a' ∧ r = r'
  | [], [], r, r', _, _, h => by simpa using h
  | [], x :: a', r, r', _, h2, h => by
    simp at h
    exact absurd (by rw [h.1]; exact List.mem_cons_self ..) h2
  | x :: a, [], r, r', h1, _, h => by
    simp at h
    exact absurd (by rw [← h.1]; exact List.mem_cons_self ..) h1
  | x :: a, y :: a', r, r', h1, h2, h => by
    simp at h
    obtain ⟨h3, h4⟩ := cut_same (fun hh => h1 (List.mem_cons_of_mem _ hh)) (fun hh => h2 (List.mem_cons_of_mem _ hh)) h.2
    exact ⟨by rw [h.1, h3], h4⟩
theorem cut_none {s : UInt8} {a a' r' : List UInt8} (h : s ∉ a) (e : a = a' ++ s :: r') : False := h (by rw [e]; simp)
theorem commaL_inj : ∀ {a b : List (List UInt8)}, a ≠ [] → b ≠ [] → (∀ x ∈ a, 44 ∉ x) → (∀ x ∈ b, 44 ∉ x) → commaL a = commaL b → a = b
  | [], _, h, _, _, _, _ => absurd rfl h
  | _, [], _, h, _, _, _ => absurd rfl h
  | [x], [y], _, _, _, _, h => by simpa [commaL] using h
  | [x], y :: z :: r, _, _, h1, _, h => by
    rw [commaL, commaL] at h
    exact (cut_none (h1 x (List.mem_cons_self ..)) h).elim
  | x :: z :: r, [y], _, _, _, h2, h => by
    rw [commaL, commaL] at h
    exact (cut_none (h2 y (List.mem_cons_self ..)) h.symm).elim
  | x :: z :: r, y :: z' :: r', _, _, h1, h2, h => by
    rw [commaL, commaL] at h
    obtain ⟨e1, e2⟩ := cut_same (h1 x (List.mem_cons_self ..)) (h2 y (List.mem_cons_self ..)) h
    have := commaL_inj (a := z :: r) (b := z' :: r') (by simp) (by simp) (fun q hq => h1 q (List.mem_cons_of_mem _ hq)) (fun q hq => h2 q (List.mem_cons_of_mem _ hq)) e2
    rw [e1, this]
/-- the texts of numbers hold none of the signs between them, and the states' are told apart. -/
structure TxtOK (hx : Int → List UInt8) (dc : Nat → List UInt8) : Prop where
  h1 : ∀ x, 44 ∉ hx x ∧ 59 ∉ hx x ∧ 62 ∉ hx x
  d1 : ∀ n, n < 100 → 44 ∉ dc n ∧ 59 ∉ dc n
  d2 : ∀ n m, n < 100 → m < 100 → dc n = dc m → n = m
section
variable {hx : Int → List UInt8} {dc : Nat → List UInt8}
theorem spText_free (K : TxtOK hx dc) {x : Sp} (h : x.2.2 < 100) : 44 ∉ spText hx dc x ∧ 59 ∉ spText hx dc x := by
  obtain ⟨a1, a2, _⟩ := K.h1 x.1
  obtain ⟨b1, b2, _⟩ := K.h1 x.2.1
  obtain ⟨c1, c2⟩ := K.d1 _ h
  unfold spText
  simp [a1, a2, b1, b2, c1, c2]
theorem spText_state (K : TxtOK hx dc) {x y : Sp} (h1 : x.2.2 < 100) (h2 : y.2.2 < 100) (e : spText hx dc x = spText hx dc y) : x.2.2 = y.2.2 := by
  unfold spText at e
  rw [show hx x.1 ++ 45 :: (hx x.2.1 ++ 62 :: dc x.2.2) = (hx x.1 ++ 45 :: hx x.2.1) ++ 62 :: dc x.2.2 from by simp, show hx y.1 ++ 45 :: (hx y.2.1 ++ 62 :: dc y.2.2) = (hx y.1 ++ 45 :: hx y.2.1) ++ 62 :: dc y.2.2 from by simp] at e
  have f1 : 62 ∉ hx x.1 ++ 45 :: hx x.2.1 := by simp [(K.h1 x.1).2.2, (K.h1 x.2.1).2.2]
  have f2 : 62 ∉ hx y.1 ++ 45 :: hx y.2.1 := by simp [(K.h1 y.1).2.2, (K.h1 y.2.1).2.2]
  exact K.d2 _ _ h1 h2 (cut_same f1 f2 e).2
theorem map_states (K : TxtOK hx dc) : ∀ {a b : List Sp}, (∀ x ∈ a, x.2.2 < 100) → (∀ x ∈ b, x.2.2 < 100) → a.map (spText hx dc) = b.map (spText hx dc) → a.map (·.2.2) = b.map (·.2.2)
  | [], [], _, _, _ => rfl
  | [], y :: b, _, _, h => by simp at h
  | x :: a, [], _, _, h => by simp at h
  | x :: a, y :: b, h1, h2, h => by
    simp at h
    have e1 := spText_state K (h1 x (List.mem_cons_self ..)) (h2 y (List.mem_cons_self ..)) h.1
    have e2 := map_states K (a := a) (b := b) (fun q hq => h1 q (List.mem_cons_of_mem _ hq)) (fun q hq => h2 q (List.mem_cons_of_mem _ hq)) (by simpa using h.2)
    simp [e1, e2]
theorem line_states (K : TxtOK hx dc) {e f : Bool} {a b : List Sp} (ha : a ≠ []) (hb : b ≠ []) (h1 : ∀ x ∈ a, x.2.2 < 100) (h2 : ∀ x ∈ b, x.2.2 < 100) (h : lineP hx dc e a = lineP hx dc f b) : e = f ∧ a.map (·.2.2) = b.map (·.2.2) := by
  unfold lineP at h
  simp only [List.cons.injEq, List.append_cancel_right_eq] at h
  refine ⟨?_, map_states K h1 h2 (commaL_inj (by simpa using ha) (by simpa using hb) ?_ ?_ h.2)⟩
  · have := h.1
    cases e <;> cases f <;> simp at this ⊢
  · intro x hx'
    obtain ⟨y, hy, rfl⟩ := List.mem_map.1 hx'
    exact (spText_free K (h1 y hy)).1
  · intro x hx'
    obtain ⟨y, hy, rfl⟩ := List.mem_map.1 hx'
    exact (spText_free K (h2 y hy)).1
theorem commaL_free {s : UInt8} (hs : s ≠ 44) : ∀ {a : List (List UInt8)}, (∀ x ∈ a, s ∉ x) → s ∉ commaL a
  | [], _ => by simp [commaL]
  | [x], h => by rw [commaL]; exact h x (List.mem_cons_self ..)
  | x :: y :: r, h => by
    rw [commaL]
    have := commaL_free hs (a := y :: r) (fun q hq => h q (List.mem_cons_of_mem _ hq))
    simp [h x (List.mem_cons_self ..), hs, this]
/-- a line ends with its one semicolon. -/
theorem line_count (K : TxtOK hx dc) {e : Bool} {a : List Sp} (h : ∀ x ∈ a, x.2.2 < 100) : (lineP hx dc e a).count 59 = 1 := by
  have hc : (59 : UInt8) ∉ commaL (a.map (spText hx dc)) := commaL_free (by decide) (fun x hx' => by
    obtain ⟨y, hy, rfl⟩ := List.mem_map.1 hx'
    exact (spText_free K (h y hy)).2)
  unfold lineP
  have h0 := List.count_eq_zero.2 hc
  cases e <;> simp [List.count_append, h0]
end
/-! the automaton of a literal: state j has j symbols before it; state L + 1 is none -/
structure LA (L : Nat) (E : Nat → Nat) (v : Nat → Nat) (stp : Nat → Int → Nat) (cl : Nat → List Int) (em : Nat → Bool) : Prop where
  inj : ∀ i j, i ≤ L + 1 → j ≤ L + 1 → E i = E j → i = j
  em : ∀ j, j ≤ L + 1 → em (E j) = decide (j = 0)
  cl1 : ∀ j, 1 ≤ j → j ≤ L → cl (E j) = if v j = 0 then [0, 1] else [0, (v j : Int), (v j : Int) + 1]
  cl0 : cl (E 0) = [0]
  cl2 : cl (E (L + 1)) = [0]
  hit : ∀ j, 1 ≤ j → j ≤ L → stp (E j) (v j) = E (j - 1)
  miss : ∀ j x, 1 ≤ j → j ≤ L → x ≠ (v j : Int) → stp (E j) x = E (L + 1)
  m0 : ∀ x, stp (E 0) x = E (L + 1)
  m2 : ∀ x, stp (E (L + 1)) x = E (L + 1)
section
variable {L : Nat} {E v : Nat → Nat} {stp : Nat → Int → Nat} {cl : Nat → List Int} {em : Nat → Bool} {hx : Int → List UInt8} {dc : Nat → List UInt8}
/-- the spans of a state, by the states of the round before. -/
def spOf (stp : Nat → Int → Nat) (cl : Nat → List Int) (g : Nat → Nat) (n : Nat) : List Sp := spansP (cl n) fun x => g (stp n x)
def lnOf (hx : Int → List UInt8) (dc : Nat → List UInt8) (stp : Nat → Int → Nat) (cl : Nat → List Int) (em : Nat → Bool) (g : Nat → Nat) (n : Nat) : List UInt8 := lineP hx dc (em n) (spOf stp cl g n)
theorem LA.far (A : LA L E v stp cl em) (g : Nat → Nat) {j : Nat} (h : j = 0 ∨ j = L + 1) : spOf stp cl g (E j) = [(0, 1114111, g (E (L + 1)))] := by
  unfold spOf
  rcases h with rfl | rfl
  · rw [A.cl0]; simp [spansP, stepSp, A.m0]
  · rw [A.cl2]; simp [spansP, stepSp, A.m2]
theorem LA.near (A : LA L E v stp cl em) (g : Nat → Nat) {j : Nat} (h1 : 1 ≤ j) (h2 : j ≤ L) (he : g (E (j - 1)) = g (E (L + 1))) : spOf stp cl g (E j) = [(0, 1114111, g (E (L + 1)))] := by
  unfold spOf
  rw [A.cl1 j h1 h2]
  have hh := A.hit j h1 h2
  have hm := fun x => A.miss j x h1 h2
  split
  · rename_i h0
    rw [h0] at hh
    have hh' : stp (E j) 0 = E (j - 1) := hh
    have : stp (E j) 1 = E (L + 1) := hm 1 (by rw [h0]; decide)
    simp [spansP, stepSp, hh', this, he]
  · rename_i h0
    have a1 : stp (E j) 0 = E (L + 1) := hm 0 (by omega)
    have a2 : stp (E j) ((v j : Int) + 1) = E (L + 1) := hm _ (by omega)
    simp [spansP, stepSp, hh, a1, a2, he]
theorem LA.apart (A : LA L E v stp cl em) (g : Nat → Nat) {j : Nat} (h1 : 1 ≤ j) (h2 : j ≤ L) (he : g (E (j - 1)) ≠ g (E (L + 1))) : (spOf stp cl g (E j)).map (·.2.2) = if v j = 0 then [g (E (j - 1)), g (E (L + 1))] else [g (E (L + 1)), g (E (j - 1)), g (E (L + 1))] := by
  unfold spOf
  rw [A.cl1 j h1 h2]
  have hh := A.hit j h1 h2
  have hm := fun x => A.miss j x h1 h2
  split
  · rename_i h0
    rw [h0] at hh
    have hh' : stp (E j) 0 = E (j - 1) := hh
    have : stp (E j) 1 = E (L + 1) := hm 1 (by rw [h0]; decide)
    simp [spansP, stepSp, hh', this, he]
  · rename_i h0
    have a1 : stp (E j) 0 = E (L + 1) := hm 0 (by omega)
    have a2 : stp (E j) ((v j : Int) + 1) = E (L + 1) := hm _ (by omega)
    simp [spansP, stepSp, hh, a1, a2, he, Ne.symm he]
theorem LA.some_ (A : LA L E v stp cl em) (g : Nat → Nat) {j : Nat} (h : j ≤ L + 1) : spOf stp cl g (E j) ≠ [] := by
  by_cases h0 : j = 0 ∨ j = L + 1
  · rw [A.far g h0]; simp
  · by_cases he : g (E (j - 1)) = g (E (L + 1))
    · rw [A.near g (by omega) (by omega) he]; simp
    · intro e
      have := A.apart g (j := j) (by omega) (by omega) he
      rw [e] at this
      split at this <;> simp at this
theorem LA.small (A : LA L E v stp cl em) {g : Nat → Nat} (hg : ∀ j, j ≤ L + 1 → g (E j) < 100) {j : Nat} (h : j ≤ L + 1) : ∀ x ∈ spOf stp cl g (E j), x.2.2 < 100 := by
  intro x hx'
  have hm : x.2.2 ∈ (spOf stp cl g (E j)).map (·.2.2) := List.mem_map.2 ⟨x, hx', rfl⟩
  by_cases h0 : j = 0 ∨ j = L + 1
  · rw [A.far g h0] at hm
    simp at hm
    rw [hm]; exact hg _ (Nat.le_refl _)
  · by_cases he : g (E (j - 1)) = g (E (L + 1))
    · rw [A.near g (by omega) (by omega) he] at hm
      simp at hm
      rw [hm]; exact hg _ (Nat.le_refl _)
    · rw [A.apart g (by omega) (by omega) he] at hm
      have q1 := hg (L + 1) (Nat.le_refl _)
      have q2 := hg (j - 1) (by omega)
      split at hm <;> simp at hm <;> omega
/-- a round tells apart what the round before did, and one more. -/
theorem LA.round (A : LA L E v stp cl em) (K : TxtOK hx dc) {g : Nat → Nat} {k : Nat} (hk : k ≤ L + 1) (hg : ∀ j, j ≤ L + 1 → g (E j) < 100) (hI : ∀ i j, i ≤ L + 1 → j ≤ L + 1 → (g (E i) = g (E j) ↔ min i k = min j k)) {i j : Nat} (hi : i ≤ L + 1) (hj : j ≤ L + 1) :
    lnOf hx dc stp cl em g (E i) = lnOf hx dc stp cl em g (E j) ↔ min i (k + 1) = min j (k + 1) := by
  constructor
  · intro h
    obtain ⟨h1, h2⟩ := line_states K (A.some_ g hi) (A.some_ g hj) (A.small hg hi) (A.small hg hj) h
    rw [A.em i hi, A.em j hj] at h1
    have h1' : i = 0 ↔ j = 0 := decide_eq_decide.1 h1
    by_cases i0 : i = 0
    · have := h1'.1 i0; rw [i0, this]
    · have j0 : ¬ j = 0 := fun e => i0 (h1'.2 e)
      -- what both go on to
      have key : ∀ m, m ≤ L + 1 → m ≠ 0 → (k + 1 ≤ m ∧ (spOf stp cl g (E m)).map (·.2.2) = [g (E (L + 1))]) ∨ (m ≤ k ∧ m ≤ L ∧ ((spOf stp cl g (E m)).map (·.2.2) = [g (E (m - 1)), g (E (L + 1))] ∨ (spOf stp cl g (E m)).map (·.2.2) = [g (E (L + 1)), g (E (m - 1)), g (E (L + 1))])) ∨ (m = L + 1 ∧ k = L + 1 ∧ (spOf stp cl g (E m)).map (·.2.2) = [g (E (L + 1))]) := by
        intro m hm m0
        by_cases hmL : m = L + 1
        · have := A.far g (j := m) (.inr hmL)
          by_cases hkk : k = L + 1
          · exact .inr (.inr ⟨hmL, hkk, by rw [this]; rfl⟩)
          · exact .inl ⟨by omega, by rw [this]; rfl⟩
        · by_cases he : g (E (m - 1)) = g (E (L + 1))
          · have hmin := (hI (m - 1) (L + 1) (by omega) (Nat.le_refl _)).1 he
            exact .inl ⟨by omega, by rw [A.near g (by omega) (by omega) he]; rfl⟩
          · have hmin : ¬ min (m - 1) k = min (L + 1) k := fun e => he ((hI (m - 1) (L + 1) (by omega) (Nat.le_refl _)).2 e)
            have := A.apart g (j := m) (by omega) (by omega) he
            refine .inr (.inl ⟨by omega, by omega, ?_⟩)
            split at this
            · exact .inl this
            · exact .inr this
      rcases key i hi i0 with ⟨a1, a2⟩ | ⟨a1, a1', a2 | a2⟩ | ⟨a1, a1', a2⟩ <;> rcases key j hj j0 with ⟨b1, b2⟩ | ⟨b1, b1', b2 | b2⟩ | ⟨b1, b1', b2⟩ <;> rw [a2, b2] at h2
      · omega
      · simp at h2
      · simp at h2
      · omega
      · simp at h2
      · simp at h2
        have := (hI (i - 1) (j - 1) (by omega) (by omega)).1 h2
        omega
      · simp at h2
      · simp at h2
      · simp at h2
      · simp at h2
      · simp at h2
        have := (hI (i - 1) (j - 1) (by omega) (by omega)).1 h2
        omega
      · simp at h2
      · omega
      · simp at h2
      · simp at h2
      · omega
  · intro h
    by_cases hij : i = j
    · rw [hij]
    · have hi1 : k + 1 ≤ i := by omega
      have hj1 : k + 1 ≤ j := by omega
      have key : ∀ m, m ≤ L + 1 → k + 1 ≤ m → spOf stp cl g (E m) = [(0, 1114111, g (E (L + 1)))] := by
        intro m hm h1
        by_cases hmL : m = L + 1
        · exact A.far g (.inr hmL)
        · refine A.near g (by omega) (by omega) ((hI (m - 1) (L + 1) (by omega) (Nat.le_refl _)).2 (by omega))
      unfold lnOf
      rw [key i hi hi1, key j hj hj1, A.em i hi, A.em j hj]
      have : decide (i = 0) = decide (j = 0) := by
        rw [decide_eq_false (by omega), decide_eq_false (by omega)]
      rw [this]
end
end Go.Proofs.YtfolanohokflkabGreatDoor

/-
  Numbers in hexadecimal digits: what is plain, and the count of the noughts at the end of sixteen.
-/
namespace Go.Proofs.YtfolanohokflkabGreatDoor
open Go.RowKit
def dig16 (d : Nat) : UInt8 := if d < 10 then UInt8.ofNat (48 + d) else UInt8.ofNat (87 + d)
def hexR : Nat → Nat → List UInt8
  | 0, _ => []
  | f + 1, n => if n < 16 then [dig16 n] else hexR f (n / 16) ++ [dig16 (n % 16)]
def hexL (n : Nat) : List UInt8 := hexR 9 n
theorem hexR_len : ∀ (f n : Nat), (hexR f n).length ≤ f
  | 0, _ => by simp [hexR]
  | f + 1, n => by
    rw [hexR]
    split
    · simp
    · have := hexR_len f (n / 16)
      simp
      omega
theorem dig_free : ∀ d : Fin 16, dig16 d.val ≠ 44 ∧ dig16 d.val ≠ 59 ∧ dig16 d.val ≠ 62 := by decide
theorem hexR_mem : ∀ {f n : Nat} {x : UInt8}, x ∈ hexR f n → ∃ d : Fin 16, x = dig16 d.val
  | 0, _, _, h => by simp [hexR] at h
  | f + 1, n, x, h => by
    rw [hexR] at h
    split at h
    · rename_i hn
      simp at h
      exact ⟨⟨n, hn⟩, h⟩
    · rcases List.mem_append.1 h with h | h
      · exact hexR_mem h
      · simp at h
        exact ⟨⟨n % 16, Nat.mod_lt _ (by omega)⟩, h⟩
theorem hex_free (n : Nat) : 44 ∉ hexL n ∧ 59 ∉ hexL n ∧ 62 ∉ hexL n := by
  refine ⟨?_, ?_, ?_⟩ <;> intro h <;> obtain ⟨d, e⟩ := hexR_mem h
  · exact (dig_free d).1 e.symm
  · exact (dig_free d).2.1 e.symm
  · exact (dig_free d).2.2 e.symm
theorem and_low (n : Nat) (h : n < 18446744073709551616) : bits .and .u64 (n : Int) 15 = ((n % 16 : Nat) : Int) := by
  have e := u64_and_nat n 15 h (by decide)
  have e2 : n &&& 15 = n % 16 := Nat.and_two_pow_sub_one_eq_mod n 4
  rw [e2] at e
  exact e
set_option maxRecDepth 100000 in
theorem tz64 (w : World) (hc : w.cell? ⟨3, 15, none⟩ = some (.int .u8 4)) :
    Calls Tryz.prog 281 #[.int .u64 16] w fun e w' => e = .returned (.int .i64 4) ∧ w = w' := by
  have hneg : IntKind.u64.wrap (-16) = 18446744073709551600 := by decide
  have hand : bits .and .u64 16 18446744073709551600 = 16 := by
    have := u64_and_nat 16 18446744073709551600 (by decide) (by decide)
    exact this
  go_enter Tryz.func281, Tryz.ntmps281
  go_wp2
  go_ret
  exact ⟨rfl, rfl⟩
end Go.Proofs.YtfolanohokflkabGreatDoor
