import Derived.Test.YtfolanohokflkabGreatDoorHexA
import Derived.Test.YtfolanohokflkabGreatDoorShelf
/-
  strconv.FormatInt at base 16.
-/
namespace Go.Proofs.YtfolanohokflkabGreatDoor
open Go.RowKit
set_option maxRecDepth 100000 in
theorem tz_any (w : World) (hc : w.cell? ⟨3, 15, none⟩ = some (.int .u8 4)) :
    Calls Tryz.prog 252 #[.int .u64 16] w fun e w' => e = .returned (.int .i64 4) ∧ w = w' := by
  have H := hide (tz64 w hc)
  clear hc
  go_enter Tryz.func252, Tryz.ntmps252
  go_wp2_with (go_at_call 281; refine (unhide H).mono ?_; clear H; rintro e w' ⟨rfl, rfl⟩)
  go_ret
  exact ⟨rfl, rfl⟩
set_option maxRecDepth 100000 in
theorem pow2_any (w : World) :
    Calls Tryz.prog 251 #[.int .i64 16] w fun e w' => e = .returned (.bool true) ∧ w = w' := by
  have hand : bits .and .i64 16 15 = 0 := by decide
  go_enter Tryz.func251, Tryz.ntmps251
  go_wp2
  go_ret
  exact ⟨rfl, rfl⟩
def rowH (tl : List UInt8) (j : Nat) : Value := if 65 - tl.length ≤ j then .int .u8 ((tl.getD (j - (65 - tl.length)) 0).toNat : Int) else .int .u8 0
theorem zero65 : (Tryz.zeroCells307).size = 65 ∧ ∀ i, i < 65 → (Tryz.zeroCells307)[i]? = some (.int .u8 0) := by
  have h : Tryz.zeroCells307 = Array.replicate 65 (.int .u8 0) := by kernel_rfl
  rw [h]
  exact ⟨by simp, fun i hi => by simp [hi]⟩
def digB : ByteArray := ⟨#[48, 49, 50, 51, 52, 53, 54, 55, 56, 57, 97, 98, 99, 100, 101, 102, 103, 104, 105, 106, 107, 108, 109, 110, 111, 112, 113, 114, 115, 116, 117, 118, 119, 120, 121, 122]⟩
theorem dig_at (x : Nat) (h : x < 16) (h' : x < digB.size) : digB[x] = dig16 x := by
  have : ∀ d : Fin 16, digB[d.val]'(Nat.lt_trans d.isLt (by decide)) = dig16 d.val := by decide
  exact this ⟨x, h⟩
theorem rowH_set {W : World} {b k : Nat} {tl : List UInt8} (h : W.rowIs b 307 65 (rowH tl)) (hl : tl.length = k) (hk : k ≤ 8) (d : UInt8) : (W.setCell ⟨b, 65 - k - 1, none⟩ (.int .u8 (d.toNat : Int))).rowIs b 307 65 (rowH (d :: tl)) := by
  refine (h.set _ _).congr (fun j hj => ?_)
  show (if j = 65 - k - 1 then Value.int .u8 (d.toNat : Int) else rowH tl j) = rowH (d :: tl) j
  unfold rowH
  rw [List.length_cons, hl]
  by_cases e : j = 65 - k - 1
  · subst e
    rw [if_pos rfl, if_pos (by omega), show 65 - k - 1 - (65 - (k + 1)) = 0 from by omega]
    rfl
  · rw [if_neg e]
    by_cases e2 : 65 - k ≤ j
    · rw [if_pos e2, if_pos (by omega), show j - (65 - (k + 1)) = (j - (65 - k)) + 1 from by omega]
      rfl
    · rw [if_neg e2, if_neg (by omega)]
theorem rowH_read {W : World} {b k : Nat} {tl : List UInt8} (h : W.rowIs b 307 65 (rowH tl)) (hl : tl.length = k) (hk : k ≤ 9) (c : Nat) : (convert 46 9 (.slice (some ⟨b, 65 - k, none⟩) k c)).run Tryz.prog W = .ok (.string ⟨tl.toArray⟩) W := by
  have hh := run_convert_bytes_arg (P := Tryz.prog) W 46 5 Tryz.underlying46 Tryz.underlying5 b (65 - k) k c (tl.map fun x => (x.toNat : Int)) (by simp [hl]) (fun i hi => by
    rw [h.cell (by omega)]
    unfold rowH
    rw [hl, if_pos (by omega), show 65 - k + i - (65 - k) = i from by omega]
    simp [List.getD, show i < tl.length from by omega]) 9 Tryz.underlying9
  rw [hh]
  have : strOfNums (tl.map fun x => (x.toNat : Int)) = ⟨tl.toArray⟩ := by
    unfold strOfNums
    rw [List.map_map]
    have e : tl.map ((fun n : Int => UInt8.ofNat n.toNat) ∘ fun x : UInt8 => (x.toNat : Int)) = tl := by
      have : tl.map ((fun n : Int => UInt8.ofNat n.toNat) ∘ fun x : UInt8 => (x.toNat : Int)) = tl.map id := List.map_congr_left (fun x _ => by simp)
      rw [this, List.map_id]
    rw [e]
  rw [this]
theorem hexR_one {f x : Nat} (h : x < 16) : hexR (f + 1) x = [dig16 x] := by rw [hexR, if_pos h]
theorem hexR_more {f x : Nat} (h : ¬ x < 16) : hexR (f + 1) x = hexR f (x / 16) ++ [dig16 (x % 16)] := by rw [hexR, if_neg h]
set_option maxRecDepth 100000 in
set_option maxHeartbeats 4000000 in
theorem bits16_any (w : World) (n : Nat) (hn : n < 4294967296) (hc : w.cell? ⟨3, 15, none⟩ = some (.int .u8 4)) (hcl : 3 < w.heap.size) :
    Calls Tryz.prog 203 #[.slice none 0 0, .int .u64 (n : Int), .int .i64 16, .bool false, .bool false] w fun e w' => e = .returned (.tuple #[.slice none 0 0, .string ⟨(hexL n).toArray⟩]) ∧ Below w.heap.size w w' := by
  have HB : Hid (Below w.heap.size w (w.alloc (.cells Tryz.zeroCells307 307))) := (Below.refl _ _).alloc (Nat.le_refl _) _
  have HR : Hid ((w.alloc (.cells Tryz.zeroCells307 307)).rowIs w.heap.size 307 65 (rowH [])) := by
    have h := World.rowIs_alloc w Tryz.zeroCells307 307 (rowH []) (fun i hi => by
      rw [zero65.1] at hi
      rw [zero65.2 i hi]
      unfold rowH
      rw [if_neg (by simp; omega)])
    rw [zero65.1] at h
    exact h
  generalize hw1 : w.alloc (.cells Tryz.zeroCells307 307) = w1 at HB HR
  have HT := hide (tz_any w1 (by rw [World.cell?_of_block (a := ⟨3, 15, none⟩) ((unhide HB).block _ hcl)]; exact hc))
  have HW := hide hw1
  clear hw1 hc hcl
  go_enter Tryz.func203, Tryz.ntmps203
  go_wp2_with (first
    | (go_at_call 251; refine (pow2_any _).mono ?_; rintro e w3 ⟨rfl, rfl⟩)
    | (go_at_call 252; rw [unhide HW]; refine (unhide HT).mono ?_; clear HT; rintro e w2 ⟨rfl, rfl⟩))
  go_loopw [1, 13] (fun u i wr => ∃ (k f x : Nat) (tl : List UInt8), k + f = 8 ∧ u = .int .u64 (x : Int) ∧ i = .int .i64 (65 - (k : Int)) ∧ Hid (x < 16 ^ f) ∧ Hid (tl.length = k) ∧ Hid (hexR (f + 1) x ++ tl = hexL n) ∧ Hid (wr.rowIs w.heap.size 307 65 (rowH tl)) ∧ Hid (Below w.heap.size w wr)) (fun u _ _ => (intOf u).toNat)
  case atStart => exact ⟨0, 8, n, [], rfl, rfl, rfl, hn, rfl, List.append_nil _, HR, HB⟩
  case round =>
    obtain ⟨k, f, x, tl, hkf, rfl, rfl, HX, HL, HE, HRW, HBW⟩ := hrel
    clear HR HB HW
    have hc0 := (unhide HRW).cell (i := 65 - k - 1) (by omega)
    have hf0 := (unhide HRW).frozen (65 - k - 1)
    have hxs : x < 4294967296 := Nat.lt_of_lt_of_le (unhide HX) (show 16 ^ f ≤ 16 ^ 8 from Nat.pow_le_pow_right (by decide) (by omega))
    have hand := and_low x (by omega)
    have hal : Tryz.prog.arrayLen 307 = 65 := by simp [Program.arrayLen, Tryz.underlying307]
    have hcv : ∀ d : UInt8, (convert 46 9 (.slice (some ⟨w.heap.size, 65 - k - 1, none⟩) (k + 1) (k + 1))).run Tryz.prog (wr.setCell ⟨w.heap.size, 65 - k - 1, none⟩ (.int .u8 (d.toNat : Int))) = .ok (.string ⟨(d :: tl).toArray⟩) (wr.setCell ⟨w.heap.size, 65 - k - 1, none⟩ (.int .u8 (d.toNat : Int))) := fun d => by
      have h := rowH_read (rowH_set (unhide HRW) (unhide HL) (by omega) d) (k := k + 1) (by simp [unhide HL]) (by omega) (k + 1)
      rw [show 65 - (k + 1) = 65 - k - 1 from by omega] at h
      exact h
    have hsl : ∀ W, (Instr.sliceAt 307 (.pointer (some ⟨w.heap.size, 0, none⟩)) (some (.int .i64 (65 - (k : Int) - 1))) none none).run Tryz.prog W = .ok (.slice (some ⟨w.heap.size, 65 - k - 1, none⟩) (k + 1) (k + 1)) W := fun W => by
      rw [run_sliceAt_array_l W 307 ⟨w.heap.size, 0, none⟩ (by simp [Program.arrayLen, Program.elem, Tryz.underlying307]) .i64 (65 - (k : Int) - 1) (by omega) (by rw [hal]; omega)]
      go_simp
      omega
    have HBS : Hid (∀ v, Below w.heap.size w (wr.setCell ⟨w.heap.size, 65 - k - 1, none⟩ v)) := fun v => by
      have hb := unhide HBW
      exact ⟨hb.os, hb.tape, hb.output, by rw [World.setCell]; simp; exact hb.size, fun j hj => (Below.heap_setCell _ _ _ _ (by show j ≠ w.heap.size; omega)).trans (hb.block j hj)⟩
    clear hal
    by_cases hx : x < 16
    · have HD := hide (dig_at x hx (Nat.lt_trans hx (by decide)))
      unfold digB at HD
      have HG : Hid (hexL n = dig16 x :: tl) := by rw [← unhide HE, hexR_one hx]; rfl
      clear HE HL HX hand
      go_wp2
      refine bodyPost_ret (v := .tuple #[.slice none 0 0, .string ⟨(hexL n).toArray⟩]) ?_ rfl ⟨rfl, unhide HBS _⟩
      rw [unhide HG, ← unhide HD]
      simp [results, Tryz.results203, go_sem]
    · have hx16 : x % 16 < 16 := Nat.mod_lt _ (by decide)
      have HD := hide (dig_at (x % 16) hx16 (Nat.lt_trans hx16 (by decide)))
      unfold digB at HD
      obtain ⟨f', rfl⟩ : ∃ f', f = f' + 1 := by
        cases f with
        | zero => exact absurd (unhide HX) (by omega)
        | succ f' => exact ⟨f', rfl⟩
      have hg : hexR (f' + 1) (x / 16) ++ (dig16 (x % 16) :: tl) = hexL n := by
        rw [← unhide HE, hexR_more hx]; simp
      have HG := hide hg
      clear hg
      have HX2 : Hid (x / 16 < 16 ^ f') := Nat.div_lt_of_lt_mul (by have := unhide HX; rw [Nat.pow_succ] at this; omega)
      clear HE HX
      go_wp2
      refine ⟨⟨k + 1, f', x / 16, dig16 (x % 16) :: tl, by omega, by go_num, by go_num, HX2, by simp [Hid, unhide HL], HG, ?_, unhide HBS _⟩, ?_⟩
      · rw [unhide HD]
        exact rowH_set (unhide HRW) (unhide HL) (by omega) _
      · simp [intOf]
        omega
theorem fmt_in (w : World) (n : Nat) (hn : n < 4294967296) (hc : w.cell? ⟨3, 15, none⟩ = some (.int .u8 4)) :
    Calls Tryz.prog 157 #[.int .i64 (n : Int), .int .i64 16] w fun e w' => e = .returned (.string ⟨(hexL n).toArray⟩) ∧ Below w.heap.size w w' := by
  have H := hide (bits16_any w n hn hc (World.block_lt_of_cell? w _ hc))
  clear hc
  have hcv : IntKind.u64.wrap (n : Int) = (n : Int) := by rw [IntKind.wrap_u64]; omega
  go_enter Tryz.func157, Tryz.ntmps157
  go_wp2_with (go_at_call 203; refine (unhide H).mono ?_; clear H; rintro e w' ⟨rfl, hb⟩)
  go_ret
  exact ⟨rfl, hb⟩
theorem fmt_any (w : World) (n : Nat) (hn : n < 4294967296) (hc : w.cell? ⟨3, 15, none⟩ = some (.int .u8 4)) :
    Calls Tryz.prog 142 #[.int .i64 (n : Int), .int .i64 16] w fun e w' => e = .returned (.string ⟨(hexL n).toArray⟩) ∧ Below w.heap.size w w' := by
  have H := hide (fmt_in w n hn hc)
  clear hc
  go_enter Tryz.func142, Tryz.ntmps142
  go_wp2_with (go_at_call 157; refine (unhide H).mono ?_; clear H; rintro e w' ⟨rfl, hb⟩)
  go_ret
  exact ⟨rfl, hb⟩
end Go.Proofs.YtfolanohokflkabGreatDoor

/-
  strconv.Itoa of the numbers below a hundred; the texts of numbers hold none of the signs between them.
-/
namespace Go.Proofs.YtfolanohokflkabGreatDoor
open Go.RowKit
theorem itoa_fmt (i : Nat) (hi : i < 100) (w : World) :
    Calls Tryz.prog 157 #[.int .i64 (i : Int), .int .i64 10] w fun e w' => e = .returned (.string ⟨(Lib.decDigits i).toArray⟩) ∧ w = w' := by
  have H := hide (Tryz.internal_strconv_small i hi w)
  go_enter Tryz.func157, Tryz.ntmps157
  go_wp2_with (go_at_call 200; refine (unhide H).mono ?_; clear H; rintro e w' ⟨rfl, rfl⟩)
  go_ret
  exact ⟨rfl, rfl⟩
theorem itoa_in (i : Nat) (hi : i < 100) (w : World) :
    Calls Tryz.prog 94 #[.int .i64 (i : Int)] w fun e w' => e = .returned (.string ⟨(Lib.decDigits i).toArray⟩) ∧ w = w' := by
  have H := hide (itoa_fmt i hi w)
  go_enter Tryz.func94, Tryz.ntmps94
  go_wp2_with (go_at_call 157; refine (unhide H).mono ?_; clear H; rintro e w' ⟨rfl, rfl⟩)
  go_ret
  exact ⟨rfl, rfl⟩
theorem itoa_any (i : Nat) (hi : i < 100) (w : World) :
    Calls Tryz.prog 59 #[.int .i64 (i : Int)] w fun e w' => e = .returned (.string ⟨(Lib.decDigits i).toArray⟩) ∧ w = w' := by
  have H := hide (itoa_in i hi w)
  go_enter Tryz.func59, Tryz.ntmps59
  go_wp2_with (go_at_call 94; refine (unhide H).mono ?_; clear H; rintro e w' ⟨rfl, rfl⟩)
  go_ret
  exact ⟨rfl, rfl⟩
abbrev hxT (x : Int) : List UInt8 := hexL x.toNat
abbrev dcT (n : Nat) : List UInt8 := Lib.decDigits n
theorem dec_ok : ∀ n : Fin 100, 44 ∉ Lib.decDigits n.val ∧ 59 ∉ Lib.decDigits n.val ∧ (Lib.decDigits n.val).length ≤ 2 := by decide +kernel
theorem dec_inj : ∀ n m : Fin 100, Lib.decDigits n.val = Lib.decDigits m.val → n = m := by decide +kernel
theorem txtOK : TxtOK hxT dcT := ⟨fun x => hex_free x.toNat, fun n hn => ⟨(dec_ok ⟨n, hn⟩).1, (dec_ok ⟨n, hn⟩).2.1⟩, fun n m hn hm e => congrArg Fin.val (dec_inj ⟨n, hn⟩ ⟨m, hm⟩ e)⟩
end Go.Proofs.YtfolanohokflkabGreatDoor
