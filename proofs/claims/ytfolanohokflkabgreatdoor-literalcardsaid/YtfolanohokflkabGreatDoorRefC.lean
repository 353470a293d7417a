import Derived.Test.YtfolanohokflkabGreatDoorHexA
import Derived.WalkKit
import Derived.WalkSpells
import Derived.WalkLawsBesides
import Derived.Test.YtfolanohokflkabGreatDoorTermA
namespace Go.Proofs.YtfolanohokflkabGreatDoor
open Go.RowKit

set_option maxRecDepth 100000 in
set_option maxHeartbeats 400000 in
theorem refTail_nat (s : ByteArray) (i : Nat) (w : World) (_hs : s.size ≤ maxLen) :
    Calls Tryz.prog 253 #[.string s, .int .i64 i] w fun e w' => e = .returned (.int .i64 (tailN s i)) ∧ w = w' := by
  unfold maxLen at _hs
  by_cases hi : i < s.size
  · have hb : (s[i].toNat : Int) < 256 := by have := s[i].toNat_lt; omega
    by_cases h2 : s[i].toNat / 64 = 2
    · have h2' : (((s[i].toNat : Int) / 64) != 2) = false := by simp; omega
      have ht : tailN s i = (s[i].toNat : Int) % 64 := by rw [tailN, get_bang s i hi, if_pos ⟨hi, h2⟩]; omega
      have HT := hide ht
      clear ht h2
      go_enter Tryz.func253, Tryz.ntmps253
      go_wp2
      go_ret
      exact ⟨ret_int (unhide HT).symm, rfl⟩
    · have h2' : (((s[i].toNat : Int) / 64) != 2) = true := by simp; omega
      have ht : tailN s i = -1 := by rw [tailN, get_bang s i hi, if_neg (by omega)]
      have HT := hide ht
      clear ht h2
      go_enter Tryz.func253, Tryz.ntmps253
      go_wp2
      go_ret
      exact ⟨ret_int (unhide HT).symm, rfl⟩
  · have ht : tailN s i = -1 := by rw [tailN, if_neg (by omega)]
    have HT := hide ht
    clear ht
    go_enter Tryz.func253, Tryz.ntmps253
    go_wp2
    go_ret
    exact ⟨ret_int (unhide HT).symm, rfl⟩

theorem refTail_any (s : ByteArray) (j : Int) (w : World) (hs : s.size ≤ maxLen) (h0 : 0 ≤ j) :
    Calls Tryz.prog 253 #[.string s, .int .i64 j] w fun e w' => e = .returned (.int .i64 (tailN s j.toNat)) ∧ w = w' := by
  obtain ⟨i, rfl⟩ := Int.eq_ofNat_of_zero_le h0
  exact refTail_nat s i w hs

theorem ret_two {a b c d : Int} (h : (a, b) = (c, d)) : Ending.returned (.tuple #[.int .i64 a, .int .i64 b]) = .returned (.tuple #[.int .i64 c, .int .i64 d]) := by
  obtain ⟨rfl, rfl⟩ := Prod.mk.inj h; rfl

set_option maxRecDepth 100000 in
set_option maxHeartbeats 1000000 in
theorem refOne_2 (s : ByteArray) (i : Nat) (w : World) (hs : s.size ≤ 1000) (hi : i < s.size) (hlo : (192 : Int) ≤ s[i].toNat) (hhi : (s[i].toNat : Int) < 224) :
    Calls Tryz.prog 204 #[.string s, .int .i64 i] w fun e w' => e = .returned (.tuple #[.int .i64 (oneEnd 2 128 (oneLoop s i 1 1 (s[i].toNat - 192))).1, .int .i64 (oneEnd 2 128 (oneLoop s i 1 1 (s[i].toNat - 192))).2]) ∧ w = w' := by
  have hs' : s.size ≤ maxLen := by unfold maxLen; omega
  have HS := hide hs'
  clear hs'
  obtain ⟨R, hR⟩ : ∃ R, oneLoop s i 1 1 (s[i].toNat - 192) = R := ⟨_, rfl⟩
  rw [hR]
  have HR := hide hR
  clear hR
  go_enter Tryz.func204, Tryz.ntmps204
  go_wp2_with fail
  go_loop [8, 10] (fun n k => ∃ (m : Int) (j : Nat), 1 ≤ j ∧ j ≤ 2 ∧ n = .int .i64 m ∧ k = .int .i64 j ∧ Hid (nB j m) ∧ Hid (oneLoop s i (2 - j) j m = R)) (fun _ k => 2 - (intOf k).toNat)
  case atStart => exact ⟨_, 1, by omega, by omega, rfl, rfl, (by show nB _ _; unfold nB; omega), HR⟩
  case round =>
    obtain ⟨m, j, hj1, hj2, rfl, rfl, HB, HL⟩ := hrel
    obtain ⟨hm0, hm1⟩ := nB_small (unhide HB)
    by_cases hlt : j < 2
    · have ht0 := tailN_ge s (i + j)
      have ht1 := tailN_lt s (i + j)
      have hgo : oneLoop s i (2 - j) j m = if tailN s (i + j) < 0 then none else oneLoop s i (2 - (j + 1)) (j + 1) (64 * m + tailN s (i + j)) := by
        rw [show 2 - j = (2 - (j + 1)) + 1 from by omega]; rfl
      rw [unhide HL] at hgo
      have HG := hide hgo
      clear hgo
      by_cases hneg : tailN s (i + j) < 0
      · have hfin : R = none := by rw [unhide HG, if_pos hneg]
        have HF := hide hfin
        clear hfin
        go_wp2_with (go_at_call 253; refine (refTail_any _ _ _ (unhide HS) (by omega)).mono ?_; rintro e w' ⟨rfl, rfl⟩; rw [show ((i : Int) + j).toNat = i + j from by omega])
        go_ret2
        exact ⟨by rw [unhide HF]; rfl, rfl⟩
      · have hfin : oneLoop s i (2 - (j + 1)) (j + 1) (64 * m + tailN s (i + j)) = R := by rw [unhide HG, if_neg hneg]
        have HF := hide hfin
        clear hfin
        go_wp2_with (go_at_call 253; refine (refTail_any _ _ _ (unhide HS) (by omega)).mono ?_; rintro e w' ⟨rfl, rfl⟩; rw [show ((i : Int) + j).toNat = i + j from by omega])
        go_round
        case rel => exact ⟨_, j + 1, by omega, by omega, rfl, by go_num, nB_step (unhide HB) (by omega) (by omega) (by omega), HF⟩
        case measure => simp [intOf]; omega
    · have hj : j = 2 := by omega
      have hfin : R = some m := by rw [← unhide HL, hj]; rfl
      have HF := hide hfin
      have HJ := hide hj
      clear hfin hj
      by_cases hl : m < 128
      · go_wp2_with fail
        go_ret2
        exact ⟨by rw [unhide HF]; simp [oneEnd, hl], rfl⟩
      · cases hsym : isSym m
        · have HY := hide hsym
          have c := refIsSymbol_any m
          rw [hsym] at c
          have HC := hide c
          clear c hsym
          go_wp2_with (go_at_call 254; refine ((unhide HC) _).mono ?_; rintro e w' ⟨rfl, rfl⟩)
          go_ret2
          exact ⟨by rw [unhide HF, oneEnd, if_neg (by omega), if_neg (by rw [unhide HY]; decide)]; rfl, rfl⟩
        · have HY := hide hsym
          have c := refIsSymbol_any m
          rw [hsym] at c
          have HC := hide c
          clear c hsym
          go_wp2_with (go_at_call 254; refine ((unhide HC) _).mono ?_; rintro e w' ⟨rfl, rfl⟩)
          go_ret2
          exact ⟨by rw [unhide HF, oneEnd, if_neg (by omega), if_pos (unhide HY)]; rfl, rfl⟩

set_option maxRecDepth 100000 in
set_option maxHeartbeats 1000000 in
theorem refOne_3 (s : ByteArray) (i : Nat) (w : World) (hs : s.size ≤ 1000) (hi : i < s.size) (hlo : (224 : Int) ≤ s[i].toNat) (hhi : (s[i].toNat : Int) < 240) :
    Calls Tryz.prog 204 #[.string s, .int .i64 i] w fun e w' => e = .returned (.tuple #[.int .i64 (oneEnd 3 2048 (oneLoop s i 2 1 (s[i].toNat - 224))).1, .int .i64 (oneEnd 3 2048 (oneLoop s i 2 1 (s[i].toNat - 224))).2]) ∧ w = w' := by
  have hs' : s.size ≤ maxLen := by unfold maxLen; omega
  have HS := hide hs'
  clear hs'
  obtain ⟨R, hR⟩ : ∃ R, oneLoop s i 2 1 (s[i].toNat - 224) = R := ⟨_, rfl⟩
  rw [hR]
  have HR := hide hR
  clear hR
  go_enter Tryz.func204, Tryz.ntmps204
  go_wp2_with fail
  go_loop [8, 10] (fun n k => ∃ (m : Int) (j : Nat), 1 ≤ j ∧ j ≤ 3 ∧ n = .int .i64 m ∧ k = .int .i64 j ∧ Hid (nB j m) ∧ Hid (oneLoop s i (3 - j) j m = R)) (fun _ k => 3 - (intOf k).toNat)
  case atStart => exact ⟨_, 1, by omega, by omega, rfl, rfl, (by show nB _ _; unfold nB; omega), HR⟩
  case round =>
    obtain ⟨m, j, hj1, hj2, rfl, rfl, HB, HL⟩ := hrel
    obtain ⟨hm0, hm1⟩ := nB_small (unhide HB)
    by_cases hlt : j < 3
    · have ht0 := tailN_ge s (i + j)
      have ht1 := tailN_lt s (i + j)
      have hgo : oneLoop s i (3 - j) j m = if tailN s (i + j) < 0 then none else oneLoop s i (3 - (j + 1)) (j + 1) (64 * m + tailN s (i + j)) := by
        rw [show 3 - j = (3 - (j + 1)) + 1 from by omega]; rfl
      rw [unhide HL] at hgo
      have HG := hide hgo
      clear hgo
      by_cases hneg : tailN s (i + j) < 0
      · have hfin : R = none := by rw [unhide HG, if_pos hneg]
        have HF := hide hfin
        clear hfin
        go_wp2_with (go_at_call 253; refine (refTail_any _ _ _ (unhide HS) (by omega)).mono ?_; rintro e w' ⟨rfl, rfl⟩; rw [show ((i : Int) + j).toNat = i + j from by omega])
        go_ret2
        exact ⟨by rw [unhide HF]; rfl, rfl⟩
      · have hfin : oneLoop s i (3 - (j + 1)) (j + 1) (64 * m + tailN s (i + j)) = R := by rw [unhide HG, if_neg hneg]
        have HF := hide hfin
        clear hfin
        go_wp2_with (go_at_call 253; refine (refTail_any _ _ _ (unhide HS) (by omega)).mono ?_; rintro e w' ⟨rfl, rfl⟩; rw [show ((i : Int) + j).toNat = i + j from by omega])
        go_round
        case rel => exact ⟨_, j + 1, by omega, by omega, rfl, by go_num, nB_step (unhide HB) (by omega) (by omega) (by omega), HF⟩
        case measure => simp [intOf]; omega
    · have hj : j = 3 := by omega
      have hfin : R = some m := by rw [← unhide HL, hj]; rfl
      have HF := hide hfin
      have HJ := hide hj
      clear hfin hj
      by_cases hl : m < 2048
      · go_wp2_with fail
        go_ret2
        exact ⟨by rw [unhide HF]; simp [oneEnd, hl], rfl⟩
      · cases hsym : isSym m
        · have HY := hide hsym
          have c := refIsSymbol_any m
          rw [hsym] at c
          have HC := hide c
          clear c hsym
          go_wp2_with (go_at_call 254; refine ((unhide HC) _).mono ?_; rintro e w' ⟨rfl, rfl⟩)
          go_ret2
          exact ⟨by rw [unhide HF, oneEnd, if_neg (by omega), if_neg (by rw [unhide HY]; decide)]; rfl, rfl⟩
        · have HY := hide hsym
          have c := refIsSymbol_any m
          rw [hsym] at c
          have HC := hide c
          clear c hsym
          go_wp2_with (go_at_call 254; refine ((unhide HC) _).mono ?_; rintro e w' ⟨rfl, rfl⟩)
          go_ret2
          exact ⟨by rw [unhide HF, oneEnd, if_neg (by omega), if_pos (unhide HY)]; rfl, rfl⟩

set_option maxRecDepth 100000 in
set_option maxHeartbeats 1000000 in
theorem refOne_4 (s : ByteArray) (i : Nat) (w : World) (hs : s.size ≤ 1000) (hi : i < s.size) (hlo : (240 : Int) ≤ s[i].toNat) (hhi : (s[i].toNat : Int) < 248) :
    Calls Tryz.prog 204 #[.string s, .int .i64 i] w fun e w' => e = .returned (.tuple #[.int .i64 (oneEnd 4 65536 (oneLoop s i 3 1 (s[i].toNat - 240))).1, .int .i64 (oneEnd 4 65536 (oneLoop s i 3 1 (s[i].toNat - 240))).2]) ∧ w = w' := by
  have hs' : s.size ≤ maxLen := by unfold maxLen; omega
  have HS := hide hs'
  clear hs'
  obtain ⟨R, hR⟩ : ∃ R, oneLoop s i 3 1 (s[i].toNat - 240) = R := ⟨_, rfl⟩
  rw [hR]
  have HR := hide hR
  clear hR
  go_enter Tryz.func204, Tryz.ntmps204
  go_wp2_with fail
  go_loop [8, 10] (fun n k => ∃ (m : Int) (j : Nat), 1 ≤ j ∧ j ≤ 4 ∧ n = .int .i64 m ∧ k = .int .i64 j ∧ Hid (nB j m) ∧ Hid (oneLoop s i (4 - j) j m = R)) (fun _ k => 4 - (intOf k).toNat)
  case atStart => exact ⟨_, 1, by omega, by omega, rfl, rfl, (by show nB _ _; unfold nB; omega), HR⟩
  case round =>
    obtain ⟨m, j, hj1, hj2, rfl, rfl, HB, HL⟩ := hrel
    obtain ⟨hm0, hm1⟩ := nB_small (unhide HB)
    by_cases hlt : j < 4
    · have ht0 := tailN_ge s (i + j)
      have ht1 := tailN_lt s (i + j)
      have hgo : oneLoop s i (4 - j) j m = if tailN s (i + j) < 0 then none else oneLoop s i (4 - (j + 1)) (j + 1) (64 * m + tailN s (i + j)) := by
        rw [show 4 - j = (4 - (j + 1)) + 1 from by omega]; rfl
      rw [unhide HL] at hgo
      have HG := hide hgo
      clear hgo
      by_cases hneg : tailN s (i + j) < 0
      · have hfin : R = none := by rw [unhide HG, if_pos hneg]
        have HF := hide hfin
        clear hfin
        go_wp2_with (go_at_call 253; refine (refTail_any _ _ _ (unhide HS) (by omega)).mono ?_; rintro e w' ⟨rfl, rfl⟩; rw [show ((i : Int) + j).toNat = i + j from by omega])
        go_ret2
        exact ⟨by rw [unhide HF]; rfl, rfl⟩
      · have hfin : oneLoop s i (4 - (j + 1)) (j + 1) (64 * m + tailN s (i + j)) = R := by rw [unhide HG, if_neg hneg]
        have HF := hide hfin
        clear hfin
        go_wp2_with (go_at_call 253; refine (refTail_any _ _ _ (unhide HS) (by omega)).mono ?_; rintro e w' ⟨rfl, rfl⟩; rw [show ((i : Int) + j).toNat = i + j from by omega])
        go_round
        case rel => exact ⟨_, j + 1, by omega, by omega, rfl, by go_num, nB_step (unhide HB) (by omega) (by omega) (by omega), HF⟩
        case measure => simp [intOf]; omega
    · have hj : j = 4 := by omega
      have hfin : R = some m := by rw [← unhide HL, hj]; rfl
      have HF := hide hfin
      have HJ := hide hj
      clear hfin hj
      by_cases hl : m < 65536
      · go_wp2_with fail
        go_ret2
        exact ⟨by rw [unhide HF]; simp [oneEnd, hl], rfl⟩
      · cases hsym : isSym m
        · have HY := hide hsym
          have c := refIsSymbol_any m
          rw [hsym] at c
          have HC := hide c
          clear c hsym
          go_wp2_with (go_at_call 254; refine ((unhide HC) _).mono ?_; rintro e w' ⟨rfl, rfl⟩)
          go_ret2
          exact ⟨by rw [unhide HF, oneEnd, if_neg (by omega), if_neg (by rw [unhide HY]; decide)]; rfl, rfl⟩
        · have HY := hide hsym
          have c := refIsSymbol_any m
          rw [hsym] at c
          have HC := hide c
          clear c hsym
          go_wp2_with (go_at_call 254; refine ((unhide HC) _).mono ?_; rintro e w' ⟨rfl, rfl⟩)
          go_ret2
          exact ⟨by rw [unhide HF, oneEnd, if_neg (by omega), if_pos (unhide HY)]; rfl, rfl⟩

set_option maxRecDepth 100000 in
set_option maxHeartbeats 1000000 in
theorem refOne_1 (s : ByteArray) (i : Nat) (w : World) (hi : i < s.size) (hhi : (s[i].toNat : Int) < 128) :
    Calls Tryz.prog 204 #[.string s, .int .i64 i] w fun e w' => e = .returned (.tuple #[.int .i64 s[i].toNat, .int .i64 1]) ∧ w = w' := by
  go_enter Tryz.func204, Tryz.ntmps204
  go_wp2_with fail
  go_ret2
  exact ⟨rfl, rfl⟩

set_option maxRecDepth 100000 in
set_option maxHeartbeats 1000000 in
theorem refOne_0 (s : ByteArray) (i : Nat) (w : World) (hi : i < s.size) (hlo : (128 : Int) ≤ s[i].toNat) (hb : (s[i].toNat : Int) < 192 ∨ 248 ≤ (s[i].toNat : Int)) :
    Calls Tryz.prog 204 #[.string s, .int .i64 i] w fun e w' => e = .returned (.tuple #[.int .i64 65533, .int .i64 1]) ∧ w = w' := by
  have h256 : (s[i].toNat : Int) < 256 := by have := s[i].toNat_lt; omega
  rcases hb with hb | hb
  · go_enter Tryz.func204, Tryz.ntmps204
    go_wp2_with fail
    go_ret2
    exact ⟨rfl, rfl⟩
  · go_enter Tryz.func204, Tryz.ntmps204
    go_wp2_with fail
    go_ret2
    exact ⟨rfl, rfl⟩

/-- one: what the document's decoder answers. -/
theorem refOne_fn (s : ByteArray) (i : Nat) (w : World) (hs : s.size ≤ 1000) (hi : i < s.size) :
    Calls Tryz.prog 204 #[.string s, .int .i64 i] w fun e w' => e = .returned (.tuple #[.int .i64 (oneFn s i).1, .int .i64 (oneFn s i).2]) ∧ w = w' := by
  unfold oneFn
  rw [get_bang s i hi]
  dsimp only
  split
  · exact refOne_1 s i w hi (by assumption)
  · split
    · rename_i h; exact refOne_2 s i w hs hi h.1 h.2
    · split
      · rename_i h; exact refOne_3 s i w hs hi h.1 h.2
      · split
        · rename_i h; exact refOne_4 s i w hs hi h.1 h.2
        · exact refOne_0 s i w hi (by omega) (by omega)

end Go.Proofs.YtfolanohokflkabGreatDoor

namespace Go.Proofs.YtfolanohokflkabGreatDoor
open Go.RowKit

def I (n : Int) : Value := .int .i64 n
def symCells : List Sy → List Value
  | [] => []
  | x :: r => .int .i64 x.c :: .int .i64 x.fr :: .int .i64 x.to :: symCells r
theorem symCells_append (a b : List Sy) : symCells (a ++ b) = symCells a ++ symCells b := by
  induction a with
  | nil => rfl
  | cons x a ih => simp [symCells, ih]
theorem symCells_length (a : List Sy) : (symCells a).length = a.length * 3 := by
  induction a with
  | nil => rfl
  | cons x a ih => simp [symCells, ih]; omega

theorem infoSym : (Tryz.prog.info? 273).map (fun i => (i.zero, i.size, i.bytes)) = some (some (.agg #[.int .i64 0, .int .i64 0, .int .i64 0]), 3, 24) := by kernel_rfl

/-- the cells of a block that was just laid. -/
theorem cells_new (wr : World) (cs : List Value) (t : TypeId) : ∀ (j : Nat) (u : Value), cs[j]? = some u → (wr.alloc (.cells cs.toArray t)).cell? ((⟨wr.heap.size, 0, none⟩ : Addr).add j) = some u := by
  intro j u hj
  rw [Addr.add_lit, World.cell?_alloc_at _ _ _ _ rfl]
  simpa using hj
/-- an append onto a slice of the call's own turns nothing below. -/
theorem below_append {B : Nat} {w wr w1 : World} {o : Obj} {e size n : Nat} {v : Value} {xs : List Value} (hb : Below B w wr) (ho : wr.ownsRow B e size v n xs) (hg : (wr.alloc o).grownBy w1 v.ownBlock) (hB : B ≤ wr.heap.size) : Below B w w1 :=
  (hb.alloc hB o).grown hg (by simp; omega) (fun k hk => (ho.lt k hk).1)

theorem oneCall (s : ByteArray) (p : Nat) (w : World) (hs : s.size ≤ 1000) (hi : p < s.size) :
    Calls Tryz.prog 204 #[.string s, .int .i64 p] w fun e w' => e = .returned (.tuple #[.int .i64 (Utf8.decode s p).1, .int .i64 (Utf8.decode s p).2]) ∧ w = w' := by
  have h := refOne_fn s p w hs hi
  rw [oneFn_decode] at h
  exact h

set_option maxRecDepth 100000 in
set_option maxHeartbeats 1000000 in
theorem refSymbols_any (s : ByteArray) (w : World) (hs : s.size ≤ 1000) :
    Calls Tryz.prog 158 #[.string s] w fun e w' => ∃ v, e = .returned v ∧
      w'.ownsRow w.heap.size 273 3 v (symsFrom s 0).length (symCells (symsFrom s 0)) ∧ Below w.heap.size w w' := by
  obtain ⟨i0, hi, hz0, hz1, hz2⟩ := info_parts infoSym
  go_enter Tryz.func158, Tryz.ntmps158
  go_wp2_with fail
  go_loopw [3, 4] (fun v i wr => ∃ (p : Nat) (L : List Sy), p ≤ s.size ∧ i = .int .i64 p ∧ Hid (L ++ symsFrom s p = symsFrom s 0) ∧ Hid (wr.ownsRow w.heap.size 273 3 v L.length (symCells L)) ∧ Hid (Below w.heap.size w wr))
    (fun _ i _ => s.size - (intOf i).toNat)
  case atStart => exact ⟨0, [], Nat.zero_le _, rfl, rfl, World.ownsRow_nil _ _ _ _, Below.refl _ _⟩
  case round =>
    obtain ⟨p, L, hp, rfl, HL, HO, HB⟩ := hrel
    by_cases hlt : p < s.size
    · obtain ⟨hw1, hw2⟩ := decode_width s p hlt
      have hc := decode_code s p
      have hcons := symsFrom_cons s p hlt
      have hlen : L.length ≤ 1000 := by
        have := congrArg List.length (unhide HL)
        have h2 := symsFrom_len s 0
        simp only [List.length_append] at this
        omega
      have HL2 : Hid ((L ++ [⟨(Utf8.decode s p).1, p, p + (Utf8.decode s p).2⟩]) ++ symsFrom s (p + (Utf8.decode s p).2) = symsFrom s 0) := by
        show _ = _
        rw [List.append_assoc, ← unhide HL, hcons]; rfl
      clear hcons
      have C := hide (oneCall s p)
      revert hw1 hw2 hc HL2 C
      generalize (Utf8.decode s p).1 = c
      generalize (Utf8.decode s p).2 = k
      intro hw1 hw2 hc HL2 C
      go_wp2_with (first
        | (go_at_call 204; refine (unhide C _ hs hlt).mono ?_; rintro e w' ⟨rfl, rfl⟩)
        | (at_builtin; refine wpList_append_own _ rfl _ _ 216 rfl w.heap.size 273 i0 (.agg #[.int .i64 0, .int .i64 0, .int .i64 0]) 3 24 Tryz.underlying216 hi hz0 hz1 hz2 rfl (by decide) _ _ _ rfl ((unhide HO).alloc _) ⟨wr.heap.size, 0, none⟩ 1 1 [.int .i64 c, .int .i64 p, .int .i64 (p + k)] rfl rfl ?c1 ?c2 ?c3 ?c4 ?c5 ?_))
      case c1 => exact cells_new _ _ _
      case c2 => intro u hu; simp at hu; rcases hu with rfl | rfl | rfl <;> rfl
      case c3 => unfold maxLen; omega
      case c4 => omega
      case c5 => have := (unhide HB).size; simp; omega
      intro v' w1 hown' hgrow _
      have HO2 : Hid (w1.ownsRow w.heap.size 273 3 v' (L ++ [(⟨c, p, p + k⟩ : Sy)]).length (symCells (L ++ [(⟨c, p, p + k⟩ : Sy)]))) := by
        show w1.ownsRow _ _ _ _ _ _
        rw [symCells_append, List.length_append]
        simpa [symCells] using hown'
      have HB2 : Hid (Below w.heap.size w w1) := below_append (unhide HB) (unhide HO) hgrow (unhide HB).size
      clear hown' hgrow HO HB C HL
      go_wp2_with fail
      go_roundw
      case rel => exact ⟨p + k, L ++ [⟨c, p, p + k⟩], by omega, by go_num, HL2, HO2, HB2⟩
      case measure => simp [intOf]; omega
    · have hfin : L = symsFrom s 0 := by rw [← unhide HL, symsFrom_nil s p (by omega), List.append_nil]
      have HF := hide hfin
      clear hfin
      go_wp2_with fail
      go_ret
      exact ⟨_, rfl, by rw [← unhide HF]; exact unhide HO, unhide HB⟩
end Go.Proofs.YtfolanohokflkabGreatDoor
