import Derived.Test.YtfolanohokflkabGreatDoorHexA
import Derived.Test.YtfolanohokflkabGreatDoorShelf
import Derived.WalkKit
import Derived.WalkSpells
import Derived.WalkLawsBesides
import Derived.WalkMore
import Derived.Deep.QuietTactic
import Derived.BigQuiet
import Derived.BigRegion
/-
  The library's sort of runes where there are few: by insertion.
-/
namespace Go.Proofs.YtfolanohokflkabGreatDoor
open Go.RowKit
theorem isNaN_rune (x : Int) (w : World) : Calls Tryz.prog 199 #[.int .i32 x] w fun e w' => e = .returned (.bool false) ∧ w = w' := by
  go_enter Tryz.func199, Tryz.ntmps199
  go_wp2_with fail
  go_ret
  exact ⟨rfl, rfl⟩
theorem less_rune (x y : Int) (w : World) : Calls Tryz.prog 155 #[.int .i32 x, .int .i32 y] w fun e w' => e = .returned (.bool (decide (x < y))) ∧ w = w' := by
  go_enter Tryz.func155, Tryz.ntmps155
  go_wp2_with (go_at_call 199; refine (isNaN_rune _ _).mono ?_; rintro e w1 ⟨rfl, rfl⟩)
  go_ret
  exact ⟨rfl, rfl⟩
def runeCells (l : List Int) : List Value := l.map (Value.int .i32)
def swp (l : List Int) (j : Nat) : List Int := (l.set (j + 1) (l.getD j 0)).set j (l.getD (j + 1) 0)
theorem swp_len (l : List Int) (j : Nat) : (swp l j).length = l.length := by simp [swp]
def bub : Nat → List Int → List Int
  | 0, l => l
  | j + 1, l => if l.getD (j + 1) 0 < l.getD j 0 then bub j (swp l j) else l
theorem bub_len : ∀ (j : Nat) (l : List Int), (bub j l).length = l.length
  | 0, _ => rfl
  | j + 1, l => by
    unfold bub
    split
    · rw [bub_len j, swp_len]
    · rfl
def insTo : Nat → List Int → List Int
  | 0, l => l
  | k + 1, l => bub (k + 1) (insTo k l)
theorem insTo_len : ∀ (k : Nat) (l : List Int), (insTo k l).length = l.length
  | 0, _ => rfl
  | k + 1, l => by rw [insTo, bub_len, insTo_len k]
/-- a row of runes in block g, and nothing else turned. -/
structure Rn (w0 w : World) (g n cap : Nat) (l : List Int) : Prop where
  own : w.ownsRow 0 21 1 (.slice (some ⟨g, 0, none⟩) n cap) n (runeCells l)
  len : l.length = n
  os : w.os = w0.os
  tape : w.tape = w0.tape
  output : w.output = w0.output
  size : w.heap.size = w0.heap.size
  block : ∀ k, k ≠ g → w.heap[k]? = w0.heap[k]?
theorem Rn.get {w0 w : World} {g n cap : Nat} {l : List Int} (h : Rn w0 w g n cap l) {j : Nat} (hj : j < n) : w.cell? ⟨g, j, none⟩ = some (.int .i32 (l.getD j 0)) ∧ w.frozen? ⟨g, j, none⟩ = false := by
  obtain ⟨ao, cap', e, hh⟩ := own_view h.own
  injection e with e1 e2 e3
  obtain ⟨g', e4, _, _, hc, hf⟩ := hh (by omega)
  rw [e4] at e1
  injection e1 with e1
  injection e1 with e1
  subst e1
  refine ⟨?_, hf j⟩
  rw [hc j (by omega)]
  have hl := h.len
  simp [runeCells, List.getElem?_eq_getElem (show j < l.length by omega), List.getD_eq_getElem?_getD]
theorem Rn.drew {w0 w : World} {g n cap : Nat} {l : List Int} (h : Rn w0 w g n cap l) (q : Nat) : Rn w0 (w.drewN q) g n cap l := ⟨h.own, h.len, h.os, h.tape, h.output, h.size, h.block⟩
theorem Rn.set {w0 w : World} {g n cap : Nat} {l : List Int} (h : Rn w0 w g n cap l) {j : Nat} (hj : j < n) (v : Int) : Rn w0 (w.setCell ⟨g, j, none⟩ (.int .i32 v)) g n cap (l.set j v) := by
  refine ⟨?_, by simpa using h.len, h.os, h.tape, h.output, by simpa [World.setCell] using h.size, fun k hk => (Below.heap_setCell w ⟨g, j, none⟩ _ k hk).trans (h.block k hk)⟩
  have := own_set h.own (g := g) (j := j) rfl (by omega) (.int .i32 v)
  rw [show runeCells (l.set j v) = (runeCells l).set j (.int .i32 v) from by simp [runeCells, List.map_set]]
  exact this
set_option maxRecDepth 100000 in
set_option maxHeartbeats 4000000 in
theorem insSort_rune (w : World) (g n cap : Nat) (l : List Int) (hn : n ≤ 1000000) (h : Hid (Rn w w g n cap l)) :
    Calls Tryz.prog 265 #[.slice (some ⟨g, 0, none⟩) n cap, .int .i64 0, .int .i64 n] w fun e w' => e = .returned (.tuple #[]) ∧ Hid (Rn w w' g n cap (insTo (n - 1) l)) := by
  go_enter Tryz.func265, Tryz.ntmps265
  go_wp2_with fail
  go_loopw [6] (fun i wr => ∃ k : Nat, k ≤ n - 1 ∧ i = .int .i64 ((k + 1 : Nat) : Int) ∧ Hid (Rn w wr g n cap (insTo k l))) (fun i _ => n - (intOf i).toNat)
  case atStart => exact ⟨0, Nat.zero_le _, rfl, h⟩
  case round =>
    obtain ⟨k, hk, rfl, HR⟩ := hrel
    by_cases hlt : k + 1 < n
    · have hI : ((k + 1 : Nat) : Int) < (n : Int) := by omega
      go_wp2_with fail
      go_loopw [7] (fun j wr => ∃ (m : Nat) (l1 : List Int), m ≤ k + 1 ∧ j = .int .i64 (m : Int) ∧ Hid (Rn w wr g n cap l1) ∧ Hid (bub m l1 = insTo (k + 1) l)) (fun j _ => (intOf j).toNat)
      case atStart => exact ⟨k + 1, insTo k l, Nat.le_refl _, rfl, HR, rfl⟩
      case round =>
        obtain ⟨m, l1, hm, rfl, HR1, HB⟩ := hrel
        clear HR
        cases m with
        | zero =>
          have HE : Hid (l1 = insTo (k + 1) l) := unhide HB
          go_wp2_with fail
          go_quiet (fail)
          have HR2 := hide ((unhide HR1).drew nq)
          go_wp2_with fail
          go_roundw
          case rel => exact ⟨k + 1, by omega, by go_num, (by rw [← unhide HE]; exact HR2)⟩
          case measure => simp [intOf]; omega
        | succ m =>
          obtain ⟨c1, f1⟩ := (unhide HR1).get (j := m + 1) (by omega)
          obtain ⟨c2, f2⟩ := (unhide HR1).get (j := m) (by omega)
          have hjn : ((m + 1 : Nat) : Int) < (n : Int) := by omega
          have hmn : (m : Int) < (n : Int) := by omega
          have hj0 : (0 : Int) < ((m + 1 : Nat) : Int) := by omega
          have hm0 : (0 : Int) ≤ (m : Int) := by omega
          have hwr : IntKind.i64.wrap (((m + 1 : Nat) : Int) - 1) = (m : Int) := by simp [IntKind.wrap, IntKind.bits, IntKind.signed]; omega
          have HBE := hide (show bub (m + 1) l1 = if l1.getD (m + 1) 0 < l1.getD m 0 then bub m (swp l1 m) else l1 from rfl)
          obtain ⟨x, hx⟩ : ∃ x, l1.getD (m + 1) 0 = x := ⟨_, rfl⟩
          obtain ⟨y, hy⟩ : ∃ y, l1.getD m 0 = y := ⟨_, rfl⟩
          rw [hx] at c1
          rw [hy] at c2
          have HX := hide hx
          have HY := hide hy
          rw [hx, hy] at HBE
          have HSW := hide (show swp l1 m = (l1.set (m + 1) y).set m x from by unfold swp; rw [hx, hy])
          clear hx hy
          by_cases hxy : x < y
          · rw [if_pos hxy] at HBE
            go_wp2_with fail
            go_quiet ((go_at_call 155; exact Calls.quiet_of_same ((less_rune _ _ _).mono fun e w' hh => ⟨hh.1, hh.2.symm⟩)))
            have HR2 := hide ((unhide HR1).drew nq)
            clear HR1 c1 c2 f1 f2
            generalize wr.drewN nq = wq at *
            obtain ⟨c1, f1⟩ := (unhide HR2).get (j := m + 1) (by omega)
            obtain ⟨c2, f2⟩ := (unhide HR2).get (j := m) (by omega)
            rw [unhide HX] at c1
            rw [unhide HY] at c2
            have HR3 := hide ((unhide HR2).set (j := m + 1) (by omega) y)
            have HR4 := hide ((unhide HR3).set (j := m) (by omega) x)
            rw [← unhide HSW] at HR4
            go_wp2_with fail
            go_region
            go_wp2_with fail
            go_roundw
            case rel => exact ⟨m, swp l1 m, by omega, rfl, hide ((unhide HR4).drew 1), (unhide HBE).symm.trans (unhide HB)⟩
            case measure => simp [intOf]
          · rw [if_neg hxy] at HBE
            have hd : decide (x < y) = false := by simpa using hxy
            have HE : Hid (l1 = insTo (k + 1) l) := (unhide HBE).symm.trans (unhide HB)
            go_wp2_with fail
            go_quiet ((go_at_call 155; exact Calls.quiet_of_same ((less_rune _ _ _).mono fun e w' hh => ⟨hh.1, hh.2.symm⟩)))
            have HR2 := hide ((unhide HR1).drew nq)
            go_wp2_with fail
            go_roundw
            case rel => exact ⟨k + 1, by omega, by go_num, (by rw [← unhide HE]; exact HR2)⟩
            case measure => simp [intOf]; omega
    · have hI : ¬ ((k + 1 : Nat) : Int) < (n : Int) := by omega
      have hkn : k = n - 1 := by omega
      subst hkn
      go_wp2_with fail
      go_end0
      exact ⟨rfl, HR⟩

set_option maxRecDepth 100000 in
set_option maxHeartbeats 4000000 in
theorem pdq_rune (w : World) (g n cap : Nat) (L : Int) (l : List Int) (hn : n ≤ 12) (h : Hid (Rn w w g n cap l)) :
    Calls Tryz.prog 235 #[.slice (some ⟨g, 0, none⟩) n cap, .int .i64 0, .int .i64 n, .int .i64 L] w fun e w' => e = .returned (.tuple #[]) ∧ Hid (Rn w w' g n cap (insTo (n - 1) l)) := by
  have HI := hide (insSort_rune w g n cap l (by omega) h)
  have hI : (n : Int) ≤ 12 := by omega
  have hw : IntKind.i64.wrap ((n : Int) - 0) = (n : Int) := by simp [IntKind.wrap, IntKind.bits, IntKind.signed]; omega
  clear h
  go_enter Tryz.func235, Tryz.ntmps235
  go_wp2_with fail
  go_loopw [1, 2] (fun a b wr => a = .int .i64 0 ∧ b = .int .i64 (n : Int) ∧ Hid (wr = w)) (fun _ _ _ => 0)
  case atStart => exact ⟨rfl, rfl, rfl⟩
  case round =>
    obtain ⟨rfl, rfl, HW⟩ := hrel
    obtain rfl : wr = w := unhide HW
    go_wp2_with (go_at_call 265; refine (unhide HI).mono ?_; rintro e w1 ⟨rfl, HR⟩)
    exact bodyPost_ret (results_none rfl _ _ _) rfl ⟨rfl, HR⟩

set_option maxRecDepth 100000 in
set_option maxHeartbeats 4000000 in
theorem sort_rune (w : World) (g n cap : Nat) (l : List Int) (hn : n ≤ 12) (h : Hid (Rn w w g n cap l)) :
    Calls Tryz.prog 185 #[.slice (some ⟨g, 0, none⟩) n cap] w fun e w' => e = .returned (.tuple #[]) ∧ Hid (Rn w w' g n cap (insTo (n - 1) l)) := by
  have HP := hide (fun L => pdq_rune w g n cap L l hn h)
  have HL := hide (Tryz.bits_Len (n : Int) w (by omega) (by omega))
  have hw : IntKind.u64.wrap (n : Int) = (n : Int) := by simp [IntKind.wrap, IntKind.bits, IntKind.signed]; omega
  clear h
  go_enter Tryz.func185, Tryz.ntmps185
  go_wp2_with (first
    | (go_at_call 191; refine (unhide HL).mono ?_; rintro e w1 ⟨rfl, rfl⟩)
    | (go_at_call 235; refine (unhide HP _).mono ?_; rintro e w1 ⟨rfl, HR⟩))
  go_end0
  exact ⟨rfl, HR⟩
end Go.Proofs.YtfolanohokflkabGreatDoor

/-
  The library's binary search among runes that rise.
-/
namespace Go.Proofs.YtfolanohokflkabGreatDoor
open Go.RowKit
theorem isNaN2_rune (x : Int) (w : World) : Calls Tryz.prog 156 #[.int .i32 x] w fun e w' => e = .returned (.bool false) ∧ w = w' := by
  go_enter Tryz.func156, Tryz.ntmps156
  go_wp2_with fail
  go_ret
  exact ⟨rfl, rfl⟩
theorem rise_at {l : List Int} (hs : l.Pairwise (· < ·)) {a b : Nat} (hab : a < b) (hb : b < l.length) : l.getD a 0 < l.getD b 0 := by
  rw [List.getD_eq_getElem?_getD, List.getD_eq_getElem?_getD, List.getElem?_eq_getElem (by omega), List.getElem?_eq_getElem hb]
  exact List.pairwise_iff_getElem.1 hs a b (by omega) hb hab
/-- where a search for c stands: below i all are lower, from j on none is. -/
structure Bs (l : List Int) (c : Int) (i j : Nat) : Prop where
  le : i ≤ j
  ln : j ≤ l.length
  lo : ∀ k, k < i → l.getD k 0 < c
  hi : ∀ k, j ≤ k → k < l.length → c ≤ l.getD k 0
theorem Bs.up {l : List Int} {c : Int} {i j : Nat} (hs : l.Pairwise (· < ·)) (h : Bs l c i j) {m : Nat} (h2 : m < j) (hm : l.getD m 0 < c) : Bs l c (m + 1) j := by
  have hl := h.ln
  refine ⟨by omega, h.ln, fun k hk => ?_, h.hi⟩
  by_cases e : k = m
  · rw [e]; exact hm
  · exact Int.lt_trans (rise_at hs (show k < m by omega) (by omega)) hm
theorem Bs.down {l : List Int} {c : Int} {i j : Nat} (hs : l.Pairwise (· < ·)) (h : Bs l c i j) {m : Nat} (h1 : i ≤ m) (h2 : m < j) (hm : ¬ l.getD m 0 < c) : Bs l c i m := by
  have hl := h.ln
  refine ⟨h1, by omega, h.lo, fun k hk hkl => ?_⟩
  by_cases e : k = m
  · rw [e]; omega
  · have := rise_at hs (show m < k by omega) hkl
    omega
set_option maxRecDepth 100000 in
set_option maxHeartbeats 4000000 in
theorem bsearch_rune (w : World) (g n cap : Nat) (l : List Int) (c : Int) (hn : n ≤ 1000000) (h : Hid (Rn w w g n cap l)) (hs : Hid (l.Pairwise (· < ·))) :
    Calls Tryz.prog 93 #[.slice (some ⟨g, 0, none⟩) n cap, .int .i32 c] w fun e w' => ∃ i : Nat, e = .returned (.tuple #[.int .i64 i, .bool (decide (i < n ∧ l.getD i 0 = c))]) ∧ Hid (Below w.heap.size w w') ∧ Hid (Bs l c i i) := by
  have hlen := (unhide h).len
  have HB0 : Hid (Bs l c 0 n) := ⟨Nat.zero_le _, by omega, fun k hk => by omega, fun k h1 h2 => by omega⟩
  have HLEN := hide hlen
  clear hlen
  go_enter Tryz.func93, Tryz.ntmps93
  go_wp2_with fail
  go_loopw [7, 8] (fun a b wr => ∃ i j : Nat, a = .int .i64 (i : Int) ∧ b = .int .i64 (j : Int) ∧ i ≤ n ∧ j ≤ n ∧ Hid (Bs l c i j) ∧ Hid (wr = w)) (fun a b _ => (intOf b).toNat - (intOf a).toNat)
  case atStart => exact ⟨0, n, rfl, rfl, Nat.zero_le _, Nat.le_refl _, HB0, rfl⟩
  case round =>
    obtain ⟨i, j, rfl, rfl, hi, hj, HB, HW⟩ := hrel
    obtain rfl : wr = w := unhide HW
    by_cases hij : i < j
    · have hI : (i : Int) < (j : Int) := by omega
      obtain ⟨m, hm⟩ : ∃ m, (i + j) / 2 = m := ⟨_, rfl⟩
      have hmI : ((i : Int) + (j : Int)) / 2 = (m : Int) := by omega
      have him : i ≤ m := by omega
      have hmj : m < j := by omega
      have hw1 : IntKind.i64.wrap ((m : Int) + 1) = ((m + 1 : Nat) : Int) := by simp [IntKind.wrap, IntKind.bits, IntKind.signed]; omega
      have c1 := ((unhide h).get (j := m) (by omega)).1
      obtain ⟨x, hx⟩ : ∃ x, l.getD m 0 = x := ⟨_, rfl⟩
      rw [hx] at c1
      have HX := hide hx
      have HM := hide hm
      clear hm hx
      by_cases hxc : x < c
      · have HN := hide ((unhide HB).up (unhide hs) hmj (by rw [unhide HX]; exact hxc))
        go_wp2_with (go_at_call 155; refine (less_rune _ _ _).mono ?_; rintro e w1 ⟨rfl, rfl⟩)
        go_roundw
        case rel => exact ⟨m + 1, j, by go_num, rfl, by omega, hj, HN, trivial⟩
        case measure => have := unhide HM; simp [intOf]; omega
      · have hd : decide (x < c) = false := by simpa using hxc
        have HN := hide ((unhide HB).down (unhide hs) him hmj (by rw [unhide HX]; exact hxc))
        go_wp2_with (go_at_call 155; refine (less_rune _ _ _).mono ?_; rintro e w1 ⟨rfl, rfl⟩)
        go_roundw
        case rel => exact ⟨i, m, rfl, by go_num, hi, by omega, HN, trivial⟩
        case measure => have := unhide HM; simp [intOf]; omega
    · have hI : ¬ (i : Int) < (j : Int) := by omega
      have hle := (unhide HB).le
      obtain rfl : i = j := by omega
      by_cases hin : i < n
      · have hIN : (i : Int) < (n : Int) := by omega
        have hi0 : (0 : Int) ≤ (i : Int) := by omega
        have c1 := ((unhide h).get (j := i) hin).1
        obtain ⟨x, hx⟩ : ∃ x, l.getD i 0 = x := ⟨_, rfl⟩
        rw [hx] at c1
        have HX := hide hx
        clear hx
        by_cases hxc : x = c
        · subst hxc
          go_wp2_with fail
          go_ret2
          exact ⟨i, by show Ending.returned (.tuple #[.int .i64 (i : Int), .bool true]) = _; have hx := unhide HX; rw [List.getD_eq_getElem?_getD] at hx; simp [hin, hx], Below.refl _ _, HB⟩
        · have hd : (x == c) = false := by simpa using hxc
          go_wp2_with (go_at_call 156; refine (isNaN2_rune _ _).mono ?_; rintro e w1 ⟨rfl, rfl⟩)
          go_ret2
          exact ⟨i, by show Ending.returned (.tuple #[.int .i64 (i : Int), .bool false]) = _; have hx := unhide HX; rw [List.getD_eq_getElem?_getD] at hx; simp [hx, hxc], Below.refl _ _, HB⟩
      · have hIN : ¬ (i : Int) < (n : Int) := by omega
        go_wp2_with fail
        go_ret2
        exact ⟨i, by show Ending.returned (.tuple #[.int .i64 (i : Int), .bool false]) = _; simp [hin], Below.refl _ _, HB⟩
end Go.Proofs.YtfolanohokflkabGreatDoor
