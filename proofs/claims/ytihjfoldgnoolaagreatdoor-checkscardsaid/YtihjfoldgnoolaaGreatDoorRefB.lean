import Derived.Test.YtihjfoldgnoolaaGreatDoorRefA
import Derived.WalkKit
import Derived.WalkSpells
import Derived.WalkLawsBesides
namespace Go.Proofs.YtihjfoldgnoolaaGreatDoor
open Go.RowKit

set_option maxRecDepth 100000 in
set_option maxHeartbeats 400000 in
theorem refTail_nat (s : ByteArray) (i : Nat) (w : World) (_hs : s.size ≤ maxLen) :
    Calls Tryz.prog 231 #[.string s, .int .i64 i] w fun e w' => e = .returned (.int .i64 (tailN s i)) ∧ w = w' := by
  unfold maxLen at _hs
  by_cases hi : i < s.size
  · have hb : (s[i].toNat : Int) < 256 := by have := s[i].toNat_lt; omega
    by_cases h2 : s[i].toNat / 64 = 2
    · have h2' : (((s[i].toNat : Int) / 64) != 2) = false := by simp; omega
      have ht : tailN s i = (s[i].toNat : Int) % 64 := by rw [tailN, get_bang s i hi, if_pos ⟨hi, h2⟩]; omega
      have HT := hide ht
      clear ht h2
      go_enter Tryz.func231, Tryz.ntmps231
      go_wp2
      go_ret
      exact ⟨ret_int (unhide HT).symm, rfl⟩
    · have h2' : (((s[i].toNat : Int) / 64) != 2) = true := by simp; omega
      have ht : tailN s i = -1 := by rw [tailN, get_bang s i hi, if_neg (by omega)]
      have HT := hide ht
      clear ht h2
      go_enter Tryz.func231, Tryz.ntmps231
      go_wp2
      go_ret
      exact ⟨ret_int (unhide HT).symm, rfl⟩
  · have ht : tailN s i = -1 := by rw [tailN, if_neg (by omega)]
    have HT := hide ht
    clear ht
    go_enter Tryz.func231, Tryz.ntmps231
    go_wp2
    go_ret
    exact ⟨ret_int (unhide HT).symm, rfl⟩

theorem refTail_any (s : ByteArray) (j : Int) (w : World) (hs : s.size ≤ maxLen) (h0 : 0 ≤ j) :
    Calls Tryz.prog 231 #[.string s, .int .i64 j] w fun e w' => e = .returned (.int .i64 (tailN s j.toNat)) ∧ w = w' := by
  obtain ⟨i, rfl⟩ := Int.eq_ofNat_of_zero_le h0
  exact refTail_nat s i w hs

theorem ret_two {a b c d : Int} (h : (a, b) = (c, d)) : Ending.returned (.tuple #[.int .i64 a, .int .i64 b]) = .returned (.tuple #[.int .i64 c, .int .i64 d]) := by
  obtain ⟨rfl, rfl⟩ := Prod.mk.inj h; rfl

set_option maxRecDepth 100000 in
set_option maxHeartbeats 1000000 in
theorem refOne_2 (s : ByteArray) (i : Nat) (w : World) (hs : s.size ≤ 1000) (hi : i < s.size) (hlo : (192 : Int) ≤ s[i].toNat) (hhi : (s[i].toNat : Int) < 224) :
    Calls Tryz.prog 157 #[.string s, .int .i64 i] w fun e w' => e = .returned (.tuple #[.int .i64 (oneEnd 2 128 (oneLoop s i 1 1 (s[i].toNat - 192))).1, .int .i64 (oneEnd 2 128 (oneLoop s i 1 1 (s[i].toNat - 192))).2]) ∧ w = w' := by
  have hs' : s.size ≤ maxLen := by unfold maxLen; omega
  have HS := hide hs'
  clear hs'
  obtain ⟨R, hR⟩ : ∃ R, oneLoop s i 1 1 (s[i].toNat - 192) = R := ⟨_, rfl⟩
  rw [hR]
  have HR := hide hR
  clear hR
  go_enter Tryz.func157, Tryz.ntmps157
  go_wp2_with fail
  go_loop [8, 10] (fun n k => ∃ (m : Int) (j : Nat), 1 ≤ j ∧ j ≤ 2 ∧ n = .int .i64 m ∧ k = .int .i64 j ∧ Hid (nB j m) ∧ Hid (oneLoop s i (2 - j) j m = R)) (fun _ k => 2 - (intOf k).toNat)
  case atStart => exact ⟨_, 1, by omega, by omega, rfl, rfl, (by show nB _ _; unfold nB; omega), HR⟩
  case round =>
    obtain ⟨m, j, hj1, hj2, rfl, rfl, HB, HL⟩ := hrel
    obtain ⟨hm0, hm1⟩ := nB_small (unhide HB)
    by_cases hlt : j < 2
    · have ht0 := tailN_ge s (i + j)
      have ht1 := tailN_lt s (i + j)
      have hgo : oneLoop s i (2 - j) j m = if tailN s (i + j) < 0 then none else oneLoop s i (2 - (j + 1)) (j + 1) (64 * m + tailN s (i + j)) := by
        rw [show 2 - j = (2 - (j + 1)) + 1 from by omega]; rfl
      rw [unhide HL] at hgo
      have HG := hide hgo
      clear hgo
      by_cases hneg : tailN s (i + j) < 0
      · have hfin : R = none := by rw [unhide HG, if_pos hneg]
        have HF := hide hfin
        clear hfin
        go_wp2_with (go_at_call 231; refine (refTail_any _ _ _ (unhide HS) (by omega)).mono ?_; rintro e w' ⟨rfl, rfl⟩; rw [show ((i : Int) + j).toNat = i + j from by omega])
        go_ret2
        exact ⟨by rw [unhide HF]; rfl, rfl⟩
      · have hfin : oneLoop s i (2 - (j + 1)) (j + 1) (64 * m + tailN s (i + j)) = R := by rw [unhide HG, if_neg hneg]
        have HF := hide hfin
        clear hfin
        go_wp2_with (go_at_call 231; refine (refTail_any _ _ _ (unhide HS) (by omega)).mono ?_; rintro e w' ⟨rfl, rfl⟩; rw [show ((i : Int) + j).toNat = i + j from by omega])
        go_round
        case rel => exact ⟨_, j + 1, by omega, by omega, rfl, by go_num, nB_step (unhide HB) (by omega) (by omega) (by omega), HF⟩
        case measure => simp [intOf]; omega
    · have hj : j = 2 := by omega
      have hfin : R = some m := by rw [← unhide HL, hj]; rfl
      have HF := hide hfin
      have HJ := hide hj
      clear hfin hj
      by_cases hl : m < 128
      · go_wp2_with fail
        go_ret2
        exact ⟨by rw [unhide HF]; simp [oneEnd, hl], rfl⟩
      · cases hsym : isSym m
        · have HY := hide hsym
          have c := refIsSymbol_any m
          rw [hsym] at c
          have HC := hide c
          clear c hsym
          go_wp2_with (go_at_call 232; refine ((unhide HC) _).mono ?_; rintro e w' ⟨rfl, rfl⟩)
          go_ret2
          exact ⟨by rw [unhide HF, oneEnd, if_neg (by omega), if_neg (by rw [unhide HY]; decide)]; rfl, rfl⟩
        · have HY := hide hsym
          have c := refIsSymbol_any m
          rw [hsym] at c
          have HC := hide c
          clear c hsym
          go_wp2_with (go_at_call 232; refine ((unhide HC) _).mono ?_; rintro e w' ⟨rfl, rfl⟩)
          go_ret2
          exact ⟨by rw [unhide HF, oneEnd, if_neg (by omega), if_pos (unhide HY)]; rfl, rfl⟩

set_option maxRecDepth 100000 in
set_option maxHeartbeats 1000000 in
theorem refOne_3 (s : ByteArray) (i : Nat) (w : World) (hs : s.size ≤ 1000) (hi : i < s.size) (hlo : (224 : Int) ≤ s[i].toNat) (hhi : (s[i].toNat : Int) < 240) :
    Calls Tryz.prog 157 #[.string s, .int .i64 i] w fun e w' => e = .returned (.tuple #[.int .i64 (oneEnd 3 2048 (oneLoop s i 2 1 (s[i].toNat - 224))).1, .int .i64 (oneEnd 3 2048 (oneLoop s i 2 1 (s[i].toNat - 224))).2]) ∧ w = w' := by
  have hs' : s.size ≤ maxLen := by unfold maxLen; omega
  have HS := hide hs'
  clear hs'
  obtain ⟨R, hR⟩ : ∃ R, oneLoop s i 2 1 (s[i].toNat - 224) = R := ⟨_, rfl⟩
  rw [hR]
  have HR := hide hR
  clear hR
  go_enter Tryz.func157, Tryz.ntmps157
  go_wp2_with fail
  go_loop [8, 10] (fun n k => ∃ (m : Int) (j : Nat), 1 ≤ j ∧ j ≤ 3 ∧ n = .int .i64 m ∧ k = .int .i64 j ∧ Hid (nB j m) ∧ Hid (oneLoop s i (3 - j) j m = R)) (fun _ k => 3 - (intOf k).toNat)
  case atStart => exact ⟨_, 1, by omega, by omega, rfl, rfl, (by show nB _ _; unfold nB; omega), HR⟩
  case round =>
    obtain ⟨m, j, hj1, hj2, rfl, rfl, HB, HL⟩ := hrel
    obtain ⟨hm0, hm1⟩ := nB_small (unhide HB)
    by_cases hlt : j < 3
    · have ht0 := tailN_ge s (i + j)
      have ht1 := tailN_lt s (i + j)
      have hgo : oneLoop s i (3 - j) j m = if tailN s (i + j) < 0 then none else oneLoop s i (3 - (j + 1)) (j + 1) (64 * m + tailN s (i + j)) := by
        rw [show 3 - j = (3 - (j + 1)) + 1 from by omega]; rfl
      rw [unhide HL] at hgo
      have HG := hide hgo
      clear hgo
      by_cases hneg : tailN s (i + j) < 0
      · have hfin : R = none := by rw [unhide HG, if_pos hneg]
        have HF := hide hfin
        clear hfin
        go_wp2_with (go_at_call 231; refine (refTail_any _ _ _ (unhide HS) (by omega)).mono ?_; rintro e w' ⟨rfl, rfl⟩; rw [show ((i : Int) + j).toNat = i + j from by omega])
        go_ret2
        exact ⟨by rw [unhide HF]; rfl, rfl⟩
      · have hfin : oneLoop s i (3 - (j + 1)) (j + 1) (64 * m + tailN s (i + j)) = R := by rw [unhide HG, if_neg hneg]
        have HF := hide hfin
        clear hfin
        go_wp2_with (go_at_call 231; refine (refTail_any _ _ _ (unhide HS) (by omega)).mono ?_; rintro e w' ⟨rfl, rfl⟩; rw [show ((i : Int) + j).toNat = i + j from by omega])
        go_round
        case rel => exact ⟨_, j + 1, by omega, by omega, rfl, by go_num, nB_step (unhide HB) (by omega) (by omega) (by omega), HF⟩
        case measure => simp [intOf]; omega
    · have hj : j = 3 := by omega
      have hfin : R = some m := by rw [← unhide HL, hj]; rfl
      have HF := hide hfin
      have HJ := hide hj
      clear hfin hj
      by_cases hl : m < 2048
      · go_wp2_with fail
        go_ret2
        exact ⟨by rw [unhide HF]; simp [oneEnd, hl], rfl⟩
      · cases hsym : isSym m
        · have HY := hide hsym
          have c := refIsSymbol_any m
          rw [hsym] at c
          have HC := hide c
          clear c hsym
          go_wp2_with (go_at_call 232; refine ((unhide HC) _).mono ?_; rintro e w' ⟨rfl, rfl⟩)
          go_ret2
          exact ⟨by rw [unhide HF, oneEnd, if_neg (by omega), if_neg (by rw [unhide HY]; decide)]; rfl, rfl⟩
        · have HY := hide hsym
          have c := refIsSymbol_any m
          rw [hsym] at c
          have HC := hide c
          clear c hsym
          go_wp2_with (go_at_call 232; refine ((unhide HC) _).mono ?_; rintro e w' ⟨rfl, rfl⟩)
          go_ret2
          exact ⟨by rw [unhide HF, oneEnd, if_neg (by omega), if_pos (unhide HY)]; rfl, rfl⟩

set_option maxRecDepth 100000 in
set_option maxHeartbeats 1000000 in
theorem refOne_4 (s : ByteArray) (i : Nat) (w : World) (hs : s.size ≤ 1000) (hi : i < s.size) (hlo : (240 : Int) ≤ s[i].toNat) (hhi : (s[i].toNat : Int) < 248) :
    Calls Tryz.prog 157 #[.string s, .int .i64 i] w fun e w' => e = .returned (.tuple #[.int .i64 (oneEnd 4 65536 (oneLoop s i 3 1 (s[i].toNat - 240))).1, .int .i64 (oneEnd 4 65536 (oneLoop s i 3 1 (s[i].toNat - 240))).2]) ∧ w = w' := by
  have hs' : s.size ≤ maxLen := by unfold maxLen; omega
  have HS := hide hs'
  clear hs'
  obtain ⟨R, hR⟩ : ∃ R, oneLoop s i 3 1 (s[i].toNat - 240) = R := ⟨_, rfl⟩
  rw [hR]
  have HR := hide hR
  clear hR
  go_enter Tryz.func157, Tryz.ntmps157
  go_wp2_with fail
  go_loop [8, 10] (fun n k => ∃ (m : Int) (j : Nat), 1 ≤ j ∧ j ≤ 4 ∧ n = .int .i64 m ∧ k = .int .i64 j ∧ Hid (nB j m) ∧ Hid (oneLoop s i (4 - j) j m = R)) (fun _ k => 4 - (intOf k).toNat)
  case atStart => exact ⟨_, 1, by omega, by omega, rfl, rfl, (by show nB _ _; unfold nB; omega), HR⟩
  case round =>
    obtain ⟨m, j, hj1, hj2, rfl, rfl, HB, HL⟩ := hrel
    obtain ⟨hm0, hm1⟩ := nB_small (unhide HB)
    by_cases hlt : j < 4
    · have ht0 := tailN_ge s (i + j)
      have ht1 := tailN_lt s (i + j)
      have hgo : oneLoop s i (4 - j) j m = if tailN s (i + j) < 0 then none else oneLoop s i (4 - (j + 1)) (j + 1) (64 * m + tailN s (i + j)) := by
        rw [show 4 - j = (4 - (j + 1)) + 1 from by omega]; rfl
      rw [unhide HL] at hgo
      have HG := hide hgo
      clear hgo
      by_cases hneg : tailN s (i + j) < 0
      · have hfin : R = none := by rw [unhide HG, if_pos hneg]
        have HF := hide hfin
        clear hfin
        go_wp2_with (go_at_call 231; refine (refTail_any _ _ _ (unhide HS) (by omega)).mono ?_; rintro e w' ⟨rfl, rfl⟩; rw [show ((i : Int) + j).toNat = i + j from by omega])
        go_ret2
        exact ⟨by rw [unhide HF]; rfl, rfl⟩
      · have hfin : oneLoop s i (4 - (j + 1)) (j + 1) (64 * m + tailN s (i + j)) = R := by rw [unhide HG, if_neg hneg]
        have HF := hide hfin
        clear hfin
        go_wp2_with (go_at_call 231; refine (refTail_any _ _ _ (unhide HS) (by omega)).mono ?_; rintro e w' ⟨rfl, rfl⟩; rw [show ((i : Int) + j).toNat = i + j from by omega])
        go_round
        case rel => exact ⟨_, j + 1, by omega, by omega, rfl, by go_num, nB_step (unhide HB) (by omega) (by omega) (by omega), HF⟩
        case measure => simp [intOf]; omega
    · have hj : j = 4 := by omega
      have hfin : R = some m := by rw [← unhide HL, hj]; rfl
      have HF := hide hfin
      have HJ := hide hj
      clear hfin hj
      by_cases hl : m < 65536
      · go_wp2_with fail
        go_ret2
        exact ⟨by rw [unhide HF]; simp [oneEnd, hl], rfl⟩
      · cases hsym : isSym m
        · have HY := hide hsym
          have c := refIsSymbol_any m
          rw [hsym] at c
          have HC := hide c
          clear c hsym
          go_wp2_with (go_at_call 232; refine ((unhide HC) _).mono ?_; rintro e w' ⟨rfl, rfl⟩)
          go_ret2
          exact ⟨by rw [unhide HF, oneEnd, if_neg (by omega), if_neg (by rw [unhide HY]; decide)]; rfl, rfl⟩
        · have HY := hide hsym
          have c := refIsSymbol_any m
          rw [hsym] at c
          have HC := hide c
          clear c hsym
          go_wp2_with (go_at_call 232; refine ((unhide HC) _).mono ?_; rintro e w' ⟨rfl, rfl⟩)
          go_ret2
          exact ⟨by rw [unhide HF, oneEnd, if_neg (by omega), if_pos (unhide HY)]; rfl, rfl⟩

set_option maxRecDepth 100000 in
set_option maxHeartbeats 1000000 in
theorem refOne_1 (s : ByteArray) (i : Nat) (w : World) (hi : i < s.size) (hhi : (s[i].toNat : Int) < 128) :
    Calls Tryz.prog 157 #[.string s, .int .i64 i] w fun e w' => e = .returned (.tuple #[.int .i64 s[i].toNat, .int .i64 1]) ∧ w = w' := by
  go_enter Tryz.func157, Tryz.ntmps157
  go_wp2_with fail
  go_ret2
  exact ⟨rfl, rfl⟩

set_option maxRecDepth 100000 in
set_option maxHeartbeats 1000000 in
theorem refOne_0 (s : ByteArray) (i : Nat) (w : World) (hi : i < s.size) (hlo : (128 : Int) ≤ s[i].toNat) (hb : (s[i].toNat : Int) < 192 ∨ 248 ≤ (s[i].toNat : Int)) :
    Calls Tryz.prog 157 #[.string s, .int .i64 i] w fun e w' => e = .returned (.tuple #[.int .i64 65533, .int .i64 1]) ∧ w = w' := by
  have h256 : (s[i].toNat : Int) < 256 := by have := s[i].toNat_lt; omega
  rcases hb with hb | hb
  · go_enter Tryz.func157, Tryz.ntmps157
    go_wp2_with fail
    go_ret2
    exact ⟨rfl, rfl⟩
  · go_enter Tryz.func157, Tryz.ntmps157
    go_wp2_with fail
    go_ret2
    exact ⟨rfl, rfl⟩

/-- one: what the document's decoder answers. -/
theorem refOne_fn (s : ByteArray) (i : Nat) (w : World) (hs : s.size ≤ 1000) (hi : i < s.size) :
    Calls Tryz.prog 157 #[.string s, .int .i64 i] w fun e w' => e = .returned (.tuple #[.int .i64 (oneFn s i).1, .int .i64 (oneFn s i).2]) ∧ w = w' := by
  unfold oneFn
  rw [get_bang s i hi]
  dsimp only
  split
  · exact refOne_1 s i w hi (by assumption)
  · split
    · rename_i h; exact refOne_2 s i w hs hi h.1 h.2
    · split
      · rename_i h; exact refOne_3 s i w hs hi h.1 h.2
      · split
        · rename_i h; exact refOne_4 s i w hs hi h.1 h.2
        · exact refOne_0 s i w hi (by omega) (by omega)

end Go.Proofs.YtihjfoldgnoolaaGreatDoor
