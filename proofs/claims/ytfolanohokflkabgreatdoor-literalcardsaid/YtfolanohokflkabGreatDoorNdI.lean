import Derived.Test.YtfolanohokflkabGreatDoorNdD
import Derived.WalkKit
import Derived.WalkSpells
import Derived.WalkLawsBesides
import Derived.WalkMore
import Derived.Laws.OwnMore
import Derived.Deep.Onto
namespace Go.Proofs.YtfolanohokflkabGreatDoor
open Go.RowKit

theorem pow16' : ∀ m : Nat, m ≤ 6 → (16 : Int) ^ m ≤ 16777216 ∧ 0 < (16 : Int) ^ m := by decide
theorem pValid (v : Int) (w : World) : Calls Tryz.prog 322 #[.int .i32 v] w fun e w' => e = .returned (.bool (isSym v)) ∧ w = w' := by
  refine (Tryz.utf8_ValidRune v w).mono ?_
  rintro e w' ⟨rfl, rfl⟩
  refine ⟨?_, rfl⟩
  have : Lib.validRune v = isSym v := by
    unfold Lib.validRune isSym
    apply decide_eq_decide.2
    omega
  rw [this]

section
variable {w0 w : World} {b : Nat} {s : ByteArray} {d : Int} {l : List Sy}

theorem qHex_no (h : Hid (PL w0 w b s d l)) (hc : Hid (hexv (hd l) < 0)) :
    Calls Tryz.prog 331 #[.pointer (some ⟨b, 0, none⟩), .string ⟨#[48, 49, 50, 51, 52, 53, 54, 55, 56, 57, 97, 98, 99, 100, 101, 102]⟩] w fun x w' => x = .returned (.tuple #[.int .i64 0, .bool false]) ∧ Hid (PL w0 w' b s d l) := by
  obtain ⟨p, h1, rfl⟩ := unhide h
  refine (pDigit h1 hexLit (asc_of _ (by decide)) (by decide) (by decide) (hexv (hd (symsFrom s p))) (by show _ = _; rw [idx_hex])).mono ?_
  intro x w' hh
  obtain ⟨e, h2⟩ := hh.1 hc
  exact ⟨e, PL.of h2⟩
theorem qHex_yes (h : Hid (PL w0 w b s d l)) {v : Int} (hv : Hid (hexv (hd l) = v)) (h0 : 0 ≤ v) :
    Calls Tryz.prog 331 #[.pointer (some ⟨b, 0, none⟩), .string ⟨#[48, 49, 50, 51, 52, 53, 54, 55, 56, 57, 97, 98, 99, 100, 101, 102]⟩] w fun x w' => x = .returned (.tuple #[.int .i64 v, .bool true]) ∧ Hid (PL w0 w' b s d l.tail) := by
  obtain ⟨p, h1, rfl⟩ := unhide h
  refine (pDigit h1 hexLit (asc_of _ (by decide)) (by decide) (by decide) v (by show _ = _; rw [idx_hex]; exact unhide hv)).mono ?_
  intro x w' hh
  obtain ⟨e, p', h2, h3⟩ := hh.2 h0
  exact ⟨e, PL.of' h2 h3⟩
theorem hexv_le (c : Int) : hexv c ≤ 15 := by unfold hexv; split; · omega
                                              · split <;> omega
theorem hexS_step {v : Int} {k : Nat} (hk : k < 6) (h : 0 ≤ hexv (hd l)) : hexS (6 - k) v k l = hexS (6 - (k + 1)) (16 * v + hexv (hd l)) (k + 1) l.tail := by
  rw [show 6 - k = (6 - (k + 1)) + 1 from by omega, hexS, if_pos h]
theorem hexS_stop {v : Int} {k : Nat} (hk : k = 6 ∨ hexv (hd l) < 0) (hk6 : k ≤ 6) : hexS (6 - k) v k l = (v, k, l) := by
  by_cases h6 : k = 6
  · subst h6; rfl
  · rw [show 6 - k = (6 - (k + 1)) + 1 from by omega, hexS, if_neg (by omega)]
def HexP (R : Res Int) (w0 wr : World) (b : Nat) (s : ByteArray) (d : Int) (v : Int) (m : Nat) (l : List Sy) : Prop :=
  codeEnd s.size (hexS (6 - m) v m l) = R ∧ Hid (PL w0 wr b s d l) ∧ 0 ≤ v ∧ v < (16 : Int) ^ m

set_option maxRecDepth 100000 in
set_option maxHeartbeats 8000000 in
theorem qNumbered (h : Hid (PL w0 w b s d l)) :
    Calls Tryz.prog 334 #[.pointer (some ⟨b, 0, none⟩)] w (OutV (codeS s.size l) vRune w0 b s d) := by
  obtain ⟨R, hR⟩ : ∃ R, codeS s.size l = R := ⟨_, rfl⟩
  rw [hR]
  by_cases hc : hd l = 123
  · rw [codeS, if_pos hc] at hR
    have HC := hide hc
    have HR := hide hR
    clear hR hc
    go_enter Tryz.func334, Tryz.ntmps334
    go_wp2_with (go_at_call 114; refine (qTake_yes h 123 HC).mono ?_; clear h; rintro x w1 ⟨rfl, HS⟩)
    have HP : Hid (HexP R w0 w1 b s d 0 0 l.tail) := ⟨unhide HR, HS, by decide, by decide⟩
    clear HS HR HC
    go_loopw [3, 4] (fun n k wr => ∃ (v : Int) (m : Nat) (l' : List Sy), m ≤ 6 ∧ n = .int .i32 v ∧ k = .int .i64 m ∧ Hid (HexP R w0 wr b s d v m l')) (fun _ k _ => 6 - (intOf k).toNat)
    case atStart => exact ⟨0, 0, _, by omega, rfl, rfl, HP⟩
    case round =>
      clear HP
      obtain ⟨v, m, l', hm, rfl, rfl, HP⟩ := hrel
      obtain ⟨hr, HS, hv0, hv1⟩ := unhide HP
      obtain ⟨hp1, hp2⟩ := pow16' m hm
      have hvb : v < 16777216 := by omega
      by_cases hm6 : m < 6
      · by_cases hn : hexv (hd l') < 0
        · have hend : codeEnd s.size (v, m, l') = R := by rw [← hr, hexS_stop (.inr hn) hm]
          have HN := hide hn
          clear hr HP hv1 hp1 hp2 hn
          obtain ⟨c, hcc⟩ : ∃ c, hd l' = c := ⟨_, rfl⟩
          have HCC := hide hcc
          rw [codeEnd] at hend
          dsimp only at hend
          rw [hcc] at hend
          have HEND := hide hend
          clear hcc hend
          by_cases hz : m = 0
          · have hz' : ((m : Int) == 0) = true := by simp [hz]
            have HX : Hid (R = .error (2, plc s.size l')) := by show _ = _; rw [← unhide HEND, if_pos (.inl hz)]; rfl
            clear hz HEND
            go_wp2_with (first
              | (go_at_call 331; refine (qHex_no HS HN).mono ?_; clear HS HN; rintro x w3 ⟨rfl, HS⟩)
              | (go_at_call 233; refine (qLook HS HCC).mono ?_; clear HS; rintro x w2 ⟨rfl, HS⟩)
              | (go_at_call 184; refine (qRefuse HS 2).mono ?_; rintro x w4 ⟨rfl, HU⟩))
            rw [unhide HX]
            exact ⟨rfl, rfl, HU⟩
          · have hz' : ((m : Int) == 0) = false := by simp; omega
            by_cases hc : c = 125
            · subst hc
              have HY := hide (fun w1 => pValid v w1)
              cases hsy : isSym v
              · have HX : Hid (R = .error (3, plc s.size l')) := by show _ = _; rw [← unhide HEND, if_neg (by omega), if_neg (by rw [hsy]; decide)]; rfl
                rw [hsy] at HY
                clear hz HEND hsy
                go_wp2_with (first
                  | (go_at_call 331; refine (qHex_no HS HN).mono ?_; clear HS HN; rintro x w3 ⟨rfl, HS⟩)
                  | (go_at_call 233; refine (qLook HS HCC).mono ?_; clear HS; rintro x w2 ⟨rfl, HS⟩)
                  | (go_at_call 322; refine (unhide HY _).mono ?_; rintro x w5 ⟨rfl, rfl⟩)
                  | (go_at_call 184; refine (qRefuse HS 3).mono ?_; rintro x w4 ⟨rfl, HU⟩))
                rw [unhide HX]
                exact ⟨rfl, rfl, HU⟩
              · have HX : Hid (R = .ok (v, l'.tail)) := by show _ = _; rw [← unhide HEND, if_neg (by omega), if_pos hsy]
                rw [hsy] at HY
                clear hz HEND hsy
                go_wp2_with (first
                  | (go_at_call 331; refine (qHex_no HS HN).mono ?_; clear HS HN; rintro x w3 ⟨rfl, HS⟩)
                  | (go_at_call 233; refine (qLook HS HCC).mono ?_; clear HS; rintro x w2 ⟨rfl, HS⟩)
                  | (go_at_call 322; refine (unhide HY _).mono ?_; rintro x w5 ⟨rfl, rfl⟩)
                  | (go_at_call 234; refine (qStep HS).mono ?_; clear HS; rintro x w6 ⟨rfl, HS⟩))
                go_ret
                rw [unhide HX]
                exact ⟨rfl, HS⟩
            · have hb' : (c != 125) = true := by simpa using hc
              have HX : Hid (R = .error (2, plc s.size l')) := by show _ = _; rw [← unhide HEND, if_pos (.inr hc)]; rfl
              clear hz HEND hc
              go_wp2_with (first
                | (go_at_call 331; refine (qHex_no HS HN).mono ?_; clear HS HN; rintro x w3 ⟨rfl, HS⟩)
                | (go_at_call 233; refine (qLook HS HCC).mono ?_; clear HS; rintro x w2 ⟨rfl, HS⟩)
                | (go_at_call 184; refine (qRefuse HS 2).mono ?_; rintro x w4 ⟨rfl, HU⟩))
              rw [unhide HX]
              exact ⟨rfl, rfl, HU⟩
        · obtain ⟨z, hz⟩ : ∃ z, hexv (hd l') = z := ⟨_, rfl⟩
          have hz15 := hexv_le (hd l')
          rw [hz] at hz15
          have hz0 : 0 ≤ z := by omega
          have HP2 : Hid (∀ w', Hid (PL w0 w' b s d l'.tail) → HexP R w0 w' b s d (16 * v + z) (m + 1) l'.tail) := by
            intro w' hs
            refine ⟨?_, hs, by omega, ?_⟩
            · rw [← hr, hexS_step hm6 (by omega), hz]
            · rw [Int.pow_succ]; omega
          have HV := hide hz
          clear hr HP hv1 hp1 hp2 hn hz
          go_wp2_with (first
            | (go_at_call 331; refine (qHex_yes HS HV hz0).mono ?_; clear HS; rintro x w3 ⟨rfl, HS⟩))
          go_roundw
          case rel => exact ⟨_, m + 1, _, by omega, rfl, by go_num, unhide HP2 _ HS⟩
          case measure => simp [intOf]; omega
      · have hm' : decide ((m : Int) < 6) = false := by simp; omega
        have hend : codeEnd s.size (v, m, l') = R := by rw [← hr, hexS_stop (.inl (by omega)) hm]
        clear hr HP hv1 hp1 hp2 hm6
        obtain ⟨c, hcc⟩ : ∃ c, hd l' = c := ⟨_, rfl⟩
        have HCC := hide hcc
        rw [codeEnd] at hend
        dsimp only at hend
        rw [hcc] at hend
        have HEND := hide hend
        clear hcc hend
        by_cases hz : m = 0
        · have hz' : ((m : Int) == 0) = true := by simp [hz]
          have HX : Hid (R = .error (2, plc s.size l')) := by show _ = _; rw [← unhide HEND, if_pos (.inl hz)]; rfl
          clear hz HEND
          go_wp2_with (first
            | (go_at_call 233; refine (qLook HS HCC).mono ?_; clear HS; rintro x w2 ⟨rfl, HS⟩)
            | (go_at_call 184; refine (qRefuse HS 2).mono ?_; rintro x w4 ⟨rfl, HU⟩))
          rw [unhide HX]
          exact ⟨rfl, rfl, HU⟩
        · have hz' : ((m : Int) == 0) = false := by simp; omega
          by_cases hc : c = 125
          · subst hc
            have HY := hide (fun w1 => pValid v w1)
            cases hsy : isSym v
            · have HX : Hid (R = .error (3, plc s.size l')) := by show _ = _; rw [← unhide HEND, if_neg (by omega), if_neg (by rw [hsy]; decide)]; rfl
              rw [hsy] at HY
              clear hz HEND hsy
              go_wp2_with (first
                | (go_at_call 233; refine (qLook HS HCC).mono ?_; clear HS; rintro x w2 ⟨rfl, HS⟩)
                | (go_at_call 322; refine (unhide HY _).mono ?_; rintro x w5 ⟨rfl, rfl⟩)
                | (go_at_call 184; refine (qRefuse HS 3).mono ?_; rintro x w4 ⟨rfl, HU⟩))
              rw [unhide HX]
              exact ⟨rfl, rfl, HU⟩
            · have HX : Hid (R = .ok (v, l'.tail)) := by show _ = _; rw [← unhide HEND, if_neg (by omega), if_pos hsy]
              rw [hsy] at HY
              clear hz HEND hsy
              go_wp2_with (first
                | (go_at_call 233; refine (qLook HS HCC).mono ?_; clear HS; rintro x w2 ⟨rfl, HS⟩)
                | (go_at_call 322; refine (unhide HY _).mono ?_; rintro x w5 ⟨rfl, rfl⟩)
                | (go_at_call 234; refine (qStep HS).mono ?_; clear HS; rintro x w6 ⟨rfl, HS⟩))
              go_ret
              rw [unhide HX]
              exact ⟨rfl, HS⟩
          · have hb' : (c != 125) = true := by simpa using hc
            have HX : Hid (R = .error (2, plc s.size l')) := by show _ = _; rw [← unhide HEND, if_pos (.inr hc)]; rfl
            clear hz HEND hc
            go_wp2_with (first
              | (go_at_call 233; refine (qLook HS HCC).mono ?_; clear HS; rintro x w2 ⟨rfl, HS⟩)
              | (go_at_call 184; refine (qRefuse HS 2).mono ?_; rintro x w4 ⟨rfl, HU⟩))
            rw [unhide HX]
            exact ⟨rfl, rfl, HU⟩
  · have HC := hide hc
    rw [codeS, if_neg hc] at hR
    have HX : Hid (R = .error (2, plc s.size l)) := hR.symm
    clear hR hc
    go_enter Tryz.func334, Tryz.ntmps334
    go_wp2_with (go_at_call 114; refine (qTake_no h 123 HC).mono ?_; clear h; rintro x w1 ⟨rfl, HU⟩)
    rw [unhide HX]
    exact ⟨rfl, rfl, HU⟩
end
end Go.Proofs.YtfolanohokflkabGreatDoor

namespace Go.Proofs.YtfolanohokflkabGreatDoor
open Go.RowKit

theorem decode_lo (s : ByteArray) (p : Nat) (h : (s.get! p).toNat < 128) : Utf8.decode s p = ((s.get! p).toNat, 1) := by
  unfold Utf8.decode
  simp only []
  rw [if_pos (by simpa using h)]
  rfl
theorem decode_hi (s : ByteArray) (p : Nat) (h : ¬ (s.get! p).toNat < 128) : 128 ≤ (Utf8.decode s p).1 := by
  have g0 := (s.get! p).toNat_lt
  have g1 := (s.get! (p + 1)).toNat_lt
  unfold Utf8.decode
  simp only [Utf8.valid, Utf8.runeError, Nat.add_zero, Bool.and_eq_true, Bool.or_eq_true, beq_iff_eq, decide_eq_true_eq, ge_iff_le]
  repeat' split
  all_goals simp only []
  all_goals omega
theorem hd_byte (s : ByteArray) (p : Nat) (h : p < s.size) (x : Nat) (hx : x < 128) : hd (symsFrom s p) = (x : Int) ↔ (s.get! p).toNat = x := by
  rw [hd_syms h]
  by_cases hb : (s.get! p).toNat < 128
  · rw [decode_lo s p hb]; simp only []; omega
  · have := decode_hi s p hb
    constructor <;> intro _ <;> omega
theorem tl_byte (s : ByteArray) (p : Nat) (h : p < s.size) (hx : (s.get! p).toNat < 128) : (symsFrom s p).tail = symsFrom s (p + 1) := by
  rw [tl_syms h, decode_lo s p hx]
theorem data_len (s : ByteArray) : s.data.toList.length = s.size := by rw [Array.length_toList]; rfl
theorem extract_list (s : ByteArray) (p : Nat) : (s.extract p s.size).data.toList = s.data.toList.drop p := by
  rw [ByteArray.data_extract, Array.toList_extract]
  rw [List.extract, List.take_of_length_le (by rw [List.length_drop, data_len]; exact Nat.le_refl _)]
theorem drop_at (s : ByteArray) (p : Nat) (h : p < s.size) : s.data.toList.drop p = s.get! p :: s.data.toList.drop (p + 1) := by
  have h' : p < s.data.toList.length := by rw [data_len]; exact h
  rw [List.drop_eq_getElem_cons h', get_bang s p h]; rfl
theorem prefix_two (s : ByteArray) (p : Nat) (hle : p ≤ s.size) (x : UInt8) (hx : x.toNat < 128) :
    Lib.hasPrefix (s.extract p s.size).data.toList [92, x] = decide (hd (symsFrom s p) = 92 ∧ hd (symsFrom s p).tail = (x.toNat : Int)) := by
  rw [extract_list]
  unfold Lib.hasPrefix
  by_cases hp : p < s.size
  · rw [drop_at s p hp]
    by_cases h92 : hd (symsFrom s p) = 92
    · have e := (hd_byte s p hp 92 (by decide)).1 h92
      have e1 : s.get! p = 92 := UInt8.toNat_inj.1 e
      rw [tl_byte s p hp (by omega), e1]
      by_cases hp1 : p + 1 < s.size
      · rw [drop_at s (p + 1) hp1]
        have e2 := hd_byte s (p + 1) hp1 x.toNat hx
        simp only [List.isPrefixOf, h92, true_and, Bool.and_true, e2, beq_self_eq_true, Bool.true_and]
        rw [Bool.eq_iff_iff]
        simp only [beq_iff_eq, decide_eq_true_eq]
        rw [← UInt8.toNat_inj]
        exact eq_comm
      · obtain e3 : p + 1 = s.size := by omega
        rw [e3, hd_end, List.drop_eq_nil_of_le (by rw [data_len]; exact Nat.le_refl _)]
        simp [List.isPrefixOf]
    · have e1 : ¬ s.get! p = 92 := fun e => h92 ((hd_byte s p hp 92 (by decide)).2 (by rw [e]; rfl))
      have e2 : (92 == s.get! p) = false := by simpa using fun e => e1 e.symm
      simp [List.isPrefixOf, h92, e2]
  · obtain rfl : p = s.size := by omega
    rw [hd_end, List.drop_eq_nil_of_le (by rw [data_len]; exact Nat.le_refl _)]
    simp [List.isPrefixOf]

section
variable {w0 w : World} {b : Nat} {s : ByteArray} {d : Int} {l : List Sy}

theorem pPrefix (t u : ByteArray) (w : World) {v : Bool} (hv : Hid (Lib.hasPrefix t.data.toList u.data.toList = v)) : Calls Tryz.prog 328 #[.string t, .string u] w fun e w' => e = .returned (.bool v) ∧ w = w' := by
  refine (Tryz.strings_HasPrefix t u w).mono ?_
  rintro e w' ⟨rfl, rfl⟩
  exact ⟨by rw [unhide hv], rfl⟩

set_option maxRecDepth 100000 in
set_option maxHeartbeats 4000000 in
theorem qSeveral_no (h : Hid (PL w0 w b s d l)) (hc : Hid (isSet l = false)) :
    Calls Tryz.prog 319 #[.pointer (some ⟨b, 0, none⟩)] w fun x w' => x = .returned (.tuple #[.string ⟨#[]⟩, .bool false]) ∧ Hid (PL w0 w' b s d l) := by
  obtain ⟨p, h1, rfl⟩ := unhide h
  have q0 := h1.c0
  have q1 := h1.c1
  have hsm := h1.small
  have hle := h1.le
  have hpI : (p : Int) ≤ (s.size : Int) := by omega
  have hcc : ¬ (hd (symsFrom s p) = 92 ∧ (hd (symsFrom s p).tail = 100 ∨ hd (symsFrom s p).tail = 119)) := by have := unhide hc; simpa [isSet] using this
  have A1 := hide (fun w1 => pPrefix (v := false) (s.extract p s.size) ⟨#[92, 100]⟩ w1 (by show Lib.hasPrefix _ [92, 100] = _; rw [prefix_two s p hle 100 (by decide)]; simp; intro e1 e2; exact hcc ⟨e1, .inl e2⟩))
  have A2 := hide (fun w1 => pPrefix (v := false) (s.extract p s.size) ⟨#[92, 119]⟩ w1 (by show Lib.hasPrefix _ [92, 119] = _; rw [prefix_two s p hle 119 (by decide)]; simp; intro e1 e2; exact hcc ⟨e1, .inr e2⟩))
  clear hcc hc h1
  go_enter Tryz.func319, Tryz.ntmps319
  go_wp2_with fail
  go_quiet (fail)
  go_wp2_with (first
    | (go_at_call 328; refine (unhide A1 _).mono ?_; clear A1; rintro e w1 ⟨rfl, rfl⟩)
    | (go_at_call 328; have A3 := A2; clear A2; refine (unhide A3 _).mono ?_; rintro e w1 ⟨rfl, rfl⟩))
  go_ret2
  exact ⟨rfl, PL.below h ⟨rfl, rfl, rfl, Nat.le_refl _, fun _ _ => rfl⟩⟩
end
end Go.Proofs.YtfolanohokflkabGreatDoor

namespace Go.Proofs.YtfolanohokflkabGreatDoor
open Go.RowKit

theorem enc_digits : encS digitsL = ⟨#[48, 57]⟩ := by decide +kernel
theorem enc_letters : encS lettersL = ⟨#[48, 57, 65, 90, 95, 95, 97, 122]⟩ := by decide +kernel
theorem two_bytes (s : ByteArray) (p : Nat) (hle : p ≤ s.size) (x : Nat) (hx : x < 128) (h1 : hd (symsFrom s p) = 92) (h2 : hd (symsFrom s p).tail = (x : Int)) : p + 2 ≤ s.size ∧ symsFrom s (p + 2) = (symsFrom s p).tail.tail := by
  have hp : p < s.size := by
    by_cases hp : p < s.size
    · exact hp
    · obtain rfl : p = s.size := by omega
      rw [hd_end] at h1; omega
  have e := (hd_byte s p hp 92 (by decide)).1 h1
  rw [tl_byte s p hp (by omega)] at h2 ⊢
  have hp1 : p + 1 < s.size := by
    by_cases hp1 : p + 1 < s.size
    · exact hp1
    · have e3 : p + 1 = s.size := by omega
      rw [e3, hd_end] at h2; omega
  have e2 := (hd_byte s (p + 1) hp1 x hx).1 h2
  rw [tl_byte s (p + 1) hp1 (by omega)]
  exact ⟨by omega, rfl⟩

section
variable {w0 w : World} {b : Nat} {s : ByteArray} {d : Int} {l : List Sy}

set_option maxRecDepth 100000 in
set_option maxHeartbeats 4000000 in
theorem qSeveral_yes (h : Hid (PL w0 w b s d l)) (hc : Hid (isSet l = true)) :
    Calls Tryz.prog 319 #[.pointer (some ⟨b, 0, none⟩)] w fun x w' => x = .returned (.tuple #[.string (encS (setEsc l)), .bool true]) ∧ Hid (PL w0 w' b s d l.tail.tail) := by
  obtain ⟨p, h1, rfl⟩ := unhide h
  have q0 := h1.c0
  have q1 := h1.c1
  have f1 := h1.fz 1
  have hsm := h1.small
  have hle := h1.le
  have hpI : (p : Int) ≤ (s.size : Int) := by omega
  have hcc : hd (symsFrom s p) = 92 ∧ (hd (symsFrom s p).tail = 100 ∨ hd (symsFrom s p).tail = 119) := by have := unhide hc; simpa [isSet] using this
  have HH := hide h1
  obtain ⟨hc1, hc2⟩ := hcc
  have hp2 : p + 2 ≤ s.size ∧ symsFrom s (p + 2) = (symsFrom s p).tail.tail := by
    rcases hc2 with hc2 | hc2
    · exact two_bytes s p hle 100 (by decide) hc1 hc2
    · exact two_bytes s p hle 119 (by decide) hc1 hc2
  obtain ⟨hp2, he2⟩ := hp2
  have HE := hide he2
  rcases hc2 with hc2 | hc2
  · have hse : encS (setEsc (symsFrom s p)) = ⟨#[48, 57]⟩ := by rw [setEsc, if_pos hc2]; exact enc_digits
    rw [hse]
    have A1 := hide (fun w1 => pPrefix (v := true) (s.extract p s.size) ⟨#[92, 100]⟩ w1 (by show Lib.hasPrefix _ [92, 100] = _; rw [prefix_two s p hle 100 (by decide)]; simp; exact ⟨hc1, hc2⟩))
    clear hc2 hc1 hc h1 h he2 hse
    go_enter Tryz.func319, Tryz.ntmps319
    go_wp2_with fail
    go_quiet (fail)
    go_wp2_with (first
      | (go_at_call 328; refine (unhide A1 _).mono ?_; clear A1; rintro e w1 ⟨rfl, rfl⟩))
    go_ret2
    exact ⟨rfl, PL.of' (PS.setPlace (PS.below (w' := w.drewN nq) HH ⟨rfl, rfl, rfl, Nat.le_refl _, fun _ _ => rfl⟩) (p + 2) _ (by omega) hp2) HE⟩
  · have hse : encS (setEsc (symsFrom s p)) = ⟨#[48, 57, 65, 90, 95, 95, 97, 122]⟩ := by rw [setEsc, if_neg (by omega)]; exact enc_letters
    rw [hse]
    have A1 := hide (fun w1 => pPrefix (v := false) (s.extract p s.size) ⟨#[92, 100]⟩ w1 (by show Lib.hasPrefix _ [92, 100] = _; rw [prefix_two s p hle 100 (by decide)]; simp [hc1, hc2]))
    have A2 := hide (fun w1 => pPrefix (v := true) (s.extract p s.size) ⟨#[92, 119]⟩ w1 (by show Lib.hasPrefix _ [92, 119] = _; rw [prefix_two s p hle 119 (by decide)]; simp; exact ⟨hc1, hc2⟩))
    clear hc2 hc1 hc h1 h he2 hse
    go_enter Tryz.func319, Tryz.ntmps319
    go_wp2_with fail
    go_quiet (fail)
    go_wp2_with (first
      | (go_at_call 328; refine (unhide A1 _).mono ?_; clear A1; rintro e w1 ⟨rfl, rfl⟩)
      | (go_at_call 328; have A3 := A2; clear A2; refine (unhide A3 _).mono ?_; rintro e w1 ⟨rfl, rfl⟩))
    go_ret2
    exact ⟨rfl, PL.of' (PS.setPlace (PS.below (w' := w.drewN nq) HH ⟨rfl, rfl, rfl, Nat.le_refl _, fun _ _ => rfl⟩) (p + 2) _ (by omega) hp2) HE⟩

theorem qCon_esc (h : Hid (PL w0 w b s d l)) {c : Int} (hc : Hid (hd l = c)) {v : Bool} (hv : Hid ((isEsc c || decide (c = 110)) = v)) :
    Calls Tryz.prog 290 #[.string ⟨#[124, 38, 126, 42, 43, 63, 123, 125, 91, 93, 40, 41, 46, 92, 94, 45, 110]⟩, .int .i32 c] w fun x w' => x = .returned (.bool v) ∧ Hid (PL w0 w' b s d l) := by
  have hs := PL.symOr h
  rw [unhide hc] at hs
  have := containsRune_any escLit c w (asc_of _ (by decide)) (by decide) (by decide) hs
  rw [idx_esc, unhide hv] at this
  refine Calls.mono this ?_
  rintro x w' ⟨rfl, hb⟩
  exact ⟨rfl, PL.below h hb⟩
theorem qCon_mark (h : Hid (PL w0 w b s d l)) {c : Int} (hc : Hid (hd l = c)) {v : Bool} (hv : Hid (isMark c = v)) :
    Calls Tryz.prog 290 #[.string ⟨#[124, 38, 126, 42, 43, 63, 123, 125, 91, 93, 40, 41, 46, 92]⟩, .int .i32 c] w fun x w' => x = .returned (.bool v) ∧ Hid (PL w0 w' b s d l) := by
  have hs := PL.symOr h
  rw [unhide hc] at hs
  have := containsRune_any markLit c w (asc_of _ (by decide)) (by decide) (by decide) hs
  rw [idx_mark, unhide hv] at this
  refine Calls.mono this ?_
  rintro x w' ⟨rfl, hb⟩
  exact ⟨rfl, PL.below h hb⟩
theorem qCon_rep (h : Hid (PL w0 w b s d l)) {c : Int} (hc : Hid (hd l = c)) {v : Bool} (hv : Hid (isRep c = v)) :
    Calls Tryz.prog 290 #[.string ⟨#[42, 43, 63, 123]⟩, .int .i32 c] w fun x w' => x = .returned (.bool v) ∧ Hid (PL w0 w' b s d l) := by
  have hs := PL.symOr h
  rw [unhide hc] at hs
  have := containsRune_any repLit c w (asc_of _ (by decide)) (by decide) (by decide) hs
  rw [idx_rep, unhide hv] at this
  refine Calls.mono this ?_
  rintro x w' ⟨rfl, hb⟩
  exact ⟨rfl, PL.below h hb⟩

set_option maxRecDepth 100000 in
set_option maxHeartbeats 4000000 in
theorem qEscape (h : Hid (PL w0 w b s d l)) (hc : Hid (hd l = 92)) :
    Calls Tryz.prog 329 #[.pointer (some ⟨b, 0, none⟩)] w (OutV (escapeS s.size l.tail) vRune w0 b s d) := by
  obtain ⟨R, hR⟩ : ∃ R, escapeS s.size l.tail = R := ⟨_, rfl⟩
  rw [hR]
  by_cases hu : hd l.tail = 117
  · rw [escapeS, if_pos hu] at hR
    have HU1 := hide hu
    have HR := hide hR
    clear hu hR
    cases R with
    | error y =>
      go_enter Tryz.func329, Tryz.ntmps329
      go_wp2_with (first
        | (go_at_call 114; refine (qTake_yes h 92 hc).mono ?_; clear h; rintro x w1 ⟨rfl, HS⟩)
        | (go_at_call 183; refine (qMet_yes HS 117 HU1).mono ?_; clear HS; rintro x w2 ⟨rfl, HS⟩)
        | (go_at_call 334; refine (outV_err (qNumbered HS) HR).mono ?_; rintro x w3 ⟨rfl, HU⟩))
      exact ⟨rfl, rfl, HU⟩
    | ok y =>
      obtain ⟨z, l1⟩ := y
      go_enter Tryz.func329, Tryz.ntmps329
      go_wp2_with (first
        | (go_at_call 114; refine (qTake_yes h 92 hc).mono ?_; clear h; rintro x w1 ⟨rfl, HS⟩)
        | (go_at_call 183; refine (qMet_yes HS 117 HU1).mono ?_; clear HS; rintro x w2 ⟨rfl, HS⟩)
        | (go_at_call 334; refine (outV_ok (qNumbered HS) HR).mono ?_; clear HS; rintro x w3 ⟨rfl, HS⟩))
      go_ret
      exact ⟨rfl, HS⟩
  · have HU1 := hide hu
    rw [escapeS, if_neg hu] at hR
    obtain ⟨c, hcc⟩ : ∃ c, hd l.tail = c := ⟨_, rfl⟩
    have HCC := hide hcc
    rw [hcc] at hR
    clear hu hcc
    by_cases hn : c = 110
    · rw [if_pos hn] at hR
      have HX := hide hR.symm
      have HV : Hid ((isEsc c || decide (c = 110)) = true) := by show _ = _; simp [hn]
      subst hn
      clear hR
      go_enter Tryz.func329, Tryz.ntmps329
      go_wp2_with (first
        | (go_at_call 114; refine (qTake_yes h 92 hc).mono ?_; clear h; rintro x w1 ⟨rfl, HS⟩)
        | (go_at_call 183; refine (qMet_no HS 117 HU1).mono ?_; clear HS; rintro x w2 ⟨rfl, HS⟩)
        | (go_at_call 233; refine (qLook HS HCC).mono ?_; clear HS; rintro x w3 ⟨rfl, HS⟩)
        | (go_at_call 290; refine (qCon_esc HS HCC HV).mono ?_; clear HS; rintro x w4 ⟨rfl, HS⟩)
        | (go_at_call 234; refine (qStep HS).mono ?_; clear HS; rintro x w5 ⟨rfl, HS⟩))
      go_ret
      rw [unhide HX]
      exact ⟨rfl, HS⟩
    · rw [if_neg hn] at hR
      have hn1 : (c == 110) = false := by simpa using hn
      cases he : isEsc c
      · rw [if_neg (by rw [he]; decide)] at hR
        have HX : Hid (R = .error (2, plc s.size l.tail)) := hR.symm
        have HV : Hid ((isEsc c || decide (c = 110)) = false) := by show _ = _; simp [hn, he]
        clear hR hn he hn1
        go_enter Tryz.func329, Tryz.ntmps329
        go_wp2_with (first
          | (go_at_call 114; refine (qTake_yes h 92 hc).mono ?_; clear h; rintro x w1 ⟨rfl, HS⟩)
          | (go_at_call 183; refine (qMet_no HS 117 HU1).mono ?_; clear HS; rintro x w2 ⟨rfl, HS⟩)
          | (go_at_call 233; refine (qLook HS HCC).mono ?_; clear HS; rintro x w3 ⟨rfl, HS⟩)
          | (go_at_call 290; refine (qCon_esc HS HCC HV).mono ?_; clear HS; rintro x w4 ⟨rfl, HS⟩)
          | (go_at_call 184; refine (qRefuse HS 2).mono ?_; rintro x w5 ⟨rfl, HU⟩))
        rw [unhide HX]
        exact ⟨rfl, rfl, HU⟩
      · rw [if_pos he] at hR
        have HX := hide hR.symm
        have HV : Hid ((isEsc c || decide (c = 110)) = true) := by show _ = _; simp [he]
        clear hR hn he
        go_enter Tryz.func329, Tryz.ntmps329
        go_wp2_with (first
          | (go_at_call 114; refine (qTake_yes h 92 hc).mono ?_; clear h; rintro x w1 ⟨rfl, HS⟩)
          | (go_at_call 183; refine (qMet_no HS 117 HU1).mono ?_; clear HS; rintro x w2 ⟨rfl, HS⟩)
          | (go_at_call 233; refine (qLook HS HCC).mono ?_; clear HS; rintro x w3 ⟨rfl, HS⟩)
          | (go_at_call 290; refine (qCon_esc HS HCC HV).mono ?_; clear HS; rintro x w4 ⟨rfl, HS⟩)
          | (go_at_call 234; refine (qStep HS).mono ?_; clear HS; rintro x w5 ⟨rfl, HS⟩))
        go_ret
        rw [unhide HX]
        exact ⟨rfl, HS⟩


/-- a symbol that stands for itself or is escaped. -/
def symbolS (n : Nat) (l : List Sy) : Res Int := if hd l = 92 then escapeS n l.tail else if hd l < 0 ∨ isMark (hd l) = true then bad 2 n l else .ok (hd l, l.tail)
set_option maxRecDepth 100000 in
set_option maxHeartbeats 4000000 in
theorem qSymbol (h : Hid (PL w0 w b s d l)) :
    Calls Tryz.prog 320 #[.pointer (some ⟨b, 0, none⟩)] w (OutV (symbolS s.size l) vRune w0 b s d) := by
  obtain ⟨R, hR⟩ : ∃ R, symbolS s.size l = R := ⟨_, rfl⟩
  rw [hR]
  have hge := hd_ge' l
  by_cases h92 : hd l = 92
  · rw [symbolS, if_pos h92] at hR
    have HCC := hide h92
    have HR := hide hR
    clear hR h92 hge
    cases R with
    | error y =>
      go_enter Tryz.func320, Tryz.ntmps320
      go_wp2_with (first
        | (go_at_call 233; refine (qLook h HCC).mono ?_; clear h; rintro x w1 ⟨rfl, HS⟩)
        | (go_at_call 329; refine (outV_err (qEscape HS HCC) HR).mono ?_; rintro x w2 ⟨rfl, HU⟩))
      exact ⟨rfl, rfl, HU⟩
    | ok y =>
      obtain ⟨z, l1⟩ := y
      go_enter Tryz.func320, Tryz.ntmps320
      go_wp2_with (first
        | (go_at_call 233; refine (qLook h HCC).mono ?_; clear h; rintro x w1 ⟨rfl, HS⟩)
        | (go_at_call 329; refine (outV_ok (qEscape HS HCC) HR).mono ?_; clear HS; rintro x w2 ⟨rfl, HS⟩))
      go_ret
      exact ⟨rfl, HS⟩
  · rw [symbolS, if_neg h92] at hR
    obtain ⟨c, hcc⟩ : ∃ c, hd l = c := ⟨_, rfl⟩
    have HCC := hide hcc
    rw [hcc] at hR h92 hge
    have k1 : (c == 92) = false := by simpa using h92
    clear hcc h92
    by_cases hn : c < 0
    · obtain rfl : c = -1 := by omega
      rw [if_pos (.inl (by omega))] at hR
      subst hR
      clear hn hge k1
      go_enter Tryz.func320, Tryz.ntmps320
      go_wp2_with (first
        | (go_at_call 233; refine (qLook h HCC).mono ?_; clear h; rintro x w3 ⟨rfl, HS⟩)
        | (go_at_call 184; refine (qRefuse HS 2).mono ?_; rintro x w5 ⟨rfl, HU⟩))
      exact ⟨rfl, rfl, HU⟩
    · have hn1 : (c == -1) = false := by simp; omega
      cases hm : isMark c
      · rw [if_neg (by simp [hm]; omega)] at hR
        have HX := hide hR.symm
        have HV := hide hm
        clear hm hn hge hR
        go_enter Tryz.func320, Tryz.ntmps320
        go_wp2_with (first
          | (go_at_call 233; refine (qLook h HCC).mono ?_; clear h; rintro x w3 ⟨rfl, HS⟩)
          | (go_at_call 290; refine (qCon_mark HS HCC HV).mono ?_; clear HS; rintro x w4 ⟨rfl, HS⟩)
          | (go_at_call 234; refine (qStep HS).mono ?_; clear HS; rintro x w5 ⟨rfl, HS⟩))
        go_ret
        rw [unhide HX]
        exact ⟨rfl, HS⟩
      · rw [if_pos (.inr hm)] at hR
        have HX : Hid (R = .error (2, plc s.size l)) := hR.symm
        have HV := hide hm
        clear hm hn hge hR
        go_enter Tryz.func320, Tryz.ntmps320
        go_wp2_with (first
          | (go_at_call 233; refine (qLook h HCC).mono ?_; clear h; rintro x w3 ⟨rfl, HS⟩)
          | (go_at_call 290; refine (qCon_mark HS HCC HV).mono ?_; clear HS; rintro x w4 ⟨rfl, HS⟩)
          | (go_at_call 184; refine (qRefuse HS 2).mono ?_; rintro x w5 ⟨rfl, HU⟩))
        rw [unhide HX]
        exact ⟨rfl, rfl, HU⟩

set_option maxRecDepth 100000 in
set_option maxHeartbeats 4000000 in
theorem qLimit (h : Hid (PL w0 w b s d l)) :
    Calls Tryz.prog 332 #[.pointer (some ⟨b, 0, none⟩)] w (OutV (limitS s.size l) vRune w0 b s d) := by
  obtain ⟨R, hR⟩ : ∃ R, limitS s.size l = R := ⟨_, rfl⟩
  rw [hR]
  have hge := hd_ge' l
  by_cases h92 : hd l = 92
  · rw [limitS, if_pos h92] at hR
    have HCC := hide h92
    have HR := hide hR
    clear hR h92 hge
    cases R with
    | error y =>
      go_enter Tryz.func332, Tryz.ntmps332
      go_wp2_with (first
        | (go_at_call 233; refine (qLook h HCC).mono ?_; clear h; rintro x w1 ⟨rfl, HS⟩)
        | (go_at_call 329; refine (outV_err (qEscape HS HCC) HR).mono ?_; rintro x w2 ⟨rfl, HU⟩))
      exact ⟨rfl, rfl, HU⟩
    | ok y =>
      obtain ⟨z, l1⟩ := y
      go_enter Tryz.func332, Tryz.ntmps332
      go_wp2_with (first
        | (go_at_call 233; refine (qLook h HCC).mono ?_; clear h; rintro x w1 ⟨rfl, HS⟩)
        | (go_at_call 329; refine (outV_ok (qEscape HS HCC) HR).mono ?_; clear HS; rintro x w2 ⟨rfl, HS⟩))
      go_ret
      exact ⟨rfl, HS⟩
  · rw [limitS, if_neg h92] at hR
    by_cases hb : hd l < 0 ∨ hd l = 93 ∨ hd l = 45
    · rw [if_pos hb] at hR
      subst hR
      have hb2 : hd l = -1 ∨ hd l = 93 ∨ hd l = 45 := by omega
      clear hb h92 hge
      rcases hb2 with hb | hb | hb
      all_goals
        have HCC := hide hb
        clear hb
        go_enter Tryz.func332, Tryz.ntmps332
        go_wp2_with (first
          | (go_at_call 233; refine (qLook h HCC).mono ?_; clear h; rintro x w1 ⟨rfl, HS⟩)
          | (go_at_call 184; refine (qRefuse HS 2).mono ?_; rintro x w2 ⟨rfl, HU⟩))
        exact ⟨rfl, rfl, HU⟩
    · rw [if_neg hb] at hR
      obtain ⟨c, hcc⟩ : ∃ c, hd l = c := ⟨_, rfl⟩
      have HCC := hide hcc
      rw [hcc] at hR h92 hb
      have k1 : (c == 92) = false := by simpa using h92
      have k2 : (c == 93) = false := by simp; omega
      have k3 : (c == 45) = false := by simp; omega
      have k4 : (c == -1) = false := by simp; omega
      subst hR
      clear hcc h92 hb hge
      go_enter Tryz.func332, Tryz.ntmps332
      go_wp2_with (first
        | (go_at_call 233; refine (qLook h HCC).mono ?_; clear h; rintro x w1 ⟨rfl, HS⟩)
        | (go_at_call 234; refine (qStep HS).mono ?_; clear HS; rintro x w2 ⟨rfl, HS⟩))
      go_ret
      exact ⟨rfl, HS⟩

end
end Go.Proofs.YtfolanohokflkabGreatDoor

namespace Go.Proofs.YtfolanohokflkabGreatDoor
open Go.RowKit
section
variable {w0 w : World} {b : Nat} {s : ByteArray} {d : Int} {l : List Sy}
/-- .. pieces, in a slice that no one else has, or the panic. -/
def OutP (R : Res Spans) (w0 : World) (b : Nat) (s : ByteArray) (d : Int) (x : Ending) (w' : World) : Prop :=
  match R with
  | .ok y => ∃ v, x = .returned v ∧ Hid (w'.ownsRow (b + 1) 199 2 v y.1.length (pcCells y.1)) ∧ Hid (PL w0 w' b s d y.2)
  | .error y => x = Pan y.1 y.2 ∧ Hid (Up b w0 w')
theorem outP_err {R : Res Spans} {f : Nat} {args : Array Value} (H : Calls Tryz.prog f args w (OutP R w0 b s d)) {y : Int × Int} (hR : Hid (R = .error y)) :
    Calls Tryz.prog f args w fun x w' => x = Pan y.1 y.2 ∧ Hid (Up b w0 w') := by
  rw [unhide hR] at H; exact H
theorem outP_ok {R : Res Spans} {f : Nat} {args : Array Value} (H : Calls Tryz.prog f args w (OutP R w0 b s d)) {z : Spans} {l1 : List Sy} (hR : Hid (R = .ok (z, l1))) :
    Calls Tryz.prog f args w fun x w' => ∃ v, x = .returned v ∧ Hid (w'.ownsRow (b + 1) 199 2 v z.length (pcCells z)) ∧ Hid (PL w0 w' b s d l1) := by
  rw [unhide hR] at H; exact H
theorem row_one {w' : World} {b : Nat} (h : b < w'.heap.size) (lo hi : Int) : Hid ((w'.alloc (.cells #[.int .i32 lo, .int .i32 hi] 199)).ownsRow (b + 1) 199 2 (.slice (some ⟨w'.heap.size, 0, none⟩) 1 1) 1 (pcCells [(lo, hi)])) :=
  World.ownsRow_lit w' #[.int .i32 lo, .int .i32 hi] 1 h (by decide) rfl
theorem PL.alloc (h : Hid (PL w0 w b s d l)) (o : Obj) : Hid (PL w0 (w.alloc o) b s d l) := PL.below h ((Below.refl _ w).alloc (Nat.le_refl _) o)

set_option maxRecDepth 100000 in
set_option maxHeartbeats 4000000 in
theorem qPart (h : Hid (PL w0 w b s d l)) :
    Calls Tryz.prog 327 #[.pointer (some ⟨b, 0, none⟩)] w (OutP (partP s.size l) w0 b s d) := by
  obtain ⟨R, hR⟩ : ∃ R, partP s.size l = R := ⟨_, rfl⟩
  rw [hR]
  rw [partP] at hR
  cases hs : isSet l
  · rw [if_neg (by rw [hs]; decide)] at hR
    have HN := hide hs
    clear hs
    cases h1 : limitS s.size l with
    | error y =>
      rw [h1] at hR
      have HX : Hid (R = .error y) := hR.symm
      have H1 := hide h1
      clear h1 hR
      go_enter Tryz.func327, Tryz.ntmps327
      go_wp2_with (first
        | (go_at_call 319; refine (qSeveral_no h HN).mono ?_; clear h; rintro x w1 ⟨rfl, HS⟩)
        | (go_at_call 332; refine (outV_err (qLimit HS) H1).mono ?_; rintro x w2 ⟨rfl, HU⟩))
      rw [unhide HX]
      exact ⟨rfl, rfl, HU⟩
    | ok y =>
      obtain ⟨a, l1⟩ := y
      rw [h1] at hR
      dsimp only at hR
      have H1 := hide h1
      clear h1
      by_cases hdash : hd l1 = 45
      · rw [if_pos hdash] at hR
        have HD := hide hdash
        clear hdash
        cases h2 : limitS s.size l1.tail with
        | error y =>
          rw [h2] at hR
          have HX : Hid (R = .error y) := hR.symm
          have H2 := hide h2
          clear h2 hR
          go_enter Tryz.func327, Tryz.ntmps327
          go_wp2_with (first
            | (go_at_call 319; refine (qSeveral_no h HN).mono ?_; clear h; rintro x w1 ⟨rfl, HS⟩)
            | (go_at_call 332; have H3 := H1; clear H1; refine (outV_ok (qLimit HS) H3).mono ?_; clear HS; rintro x w2 ⟨rfl, HS⟩)
            | (go_at_call 183; refine (qMet_yes HS 45 HD).mono ?_; clear HS; rintro x w2 ⟨rfl, HS⟩)
            | (go_at_call 332; refine (outV_err (qLimit HS) H2).mono ?_; rintro x w2 ⟨rfl, HU⟩))
          rw [unhide HX]
          exact ⟨rfl, rfl, HU⟩
        | ok y =>
          obtain ⟨z, l2⟩ := y
          rw [h2] at hR
          dsimp only at hR
          have H2 := hide h2
          clear h2
          by_cases hza : z < a
          · rw [if_pos hza] at hR
            have HX : Hid (R = .error (3, plc s.size l2)) := hR.symm
            clear hR
            go_enter Tryz.func327, Tryz.ntmps327
            go_wp2_with (first
              | (go_at_call 319; refine (qSeveral_no h HN).mono ?_; clear h; rintro x w1 ⟨rfl, HS⟩)
              | (go_at_call 332; have H3 := H1; clear H1; refine (outV_ok (qLimit HS) H3).mono ?_; clear HS; rintro x w2 ⟨rfl, HS⟩)
              | (go_at_call 183; refine (qMet_yes HS 45 HD).mono ?_; clear HS; rintro x w2 ⟨rfl, HS⟩)
              | (go_at_call 332; refine (outV_ok (qLimit HS) H2).mono ?_; clear HS; rintro x w2 ⟨rfl, HS⟩)
              | (go_at_call 184; refine (qRefuse HS 3).mono ?_; rintro x w2 ⟨rfl, HU⟩))
            rw [unhide HX]
            exact ⟨rfl, rfl, HU⟩
          · rw [if_neg hza] at hR
            have HX := hide hR.symm
            clear hR
            go_enter Tryz.func327, Tryz.ntmps327
            go_wp2_with (first
              | (go_at_call 319; refine (qSeveral_no h HN).mono ?_; clear h; rintro x w1 ⟨rfl, HS⟩)
              | (go_at_call 332; have H3 := H1; clear H1; refine (outV_ok (qLimit HS) H3).mono ?_; clear HS; rintro x w2 ⟨rfl, HS⟩)
              | (go_at_call 183; refine (qMet_yes HS 45 HD).mono ?_; clear HS; rintro x w2 ⟨rfl, HS⟩)
              | (go_at_call 332; refine (outV_ok (qLimit HS) H2).mono ?_; clear HS; rintro x w2 ⟨rfl, HS⟩))
            go_ret
            rw [unhide HX]
            exact ⟨_, rfl, row_one (PL.lt HS) _ _, PL.alloc HS _⟩
      · rw [if_neg hdash] at hR
        have HX := hide hR.symm
        have HD := hide hdash
        clear hdash hR
        go_enter Tryz.func327, Tryz.ntmps327
        go_wp2_with (first
          | (go_at_call 319; refine (qSeveral_no h HN).mono ?_; clear h; rintro x w1 ⟨rfl, HS⟩)
          | (go_at_call 332; have H3 := H1; clear H1; refine (outV_ok (qLimit HS) H3).mono ?_; clear HS; rintro x w2 ⟨rfl, HS⟩)
          | (go_at_call 183; refine (qMet_no HS 45 HD).mono ?_; clear HS; rintro x w2 ⟨rfl, HS⟩))
        go_ret
        rw [unhide HX]
        exact ⟨_, rfl, row_one (PL.lt HS) _ _, PL.alloc HS _⟩
  · rw [if_pos hs] at hR
    have HX := hide hR.symm
    have HN := hide hs
    clear hs hR
    have HPA := hide (fun w1 => pieces_any w1 (setEsc l) (by unfold setEsc; split <;> decide) (tidy_good (tidy_esc l)))
    go_enter Tryz.func327, Tryz.ntmps327
    go_wp2_with (first
      | (go_at_call 319; refine (qSeveral_yes h HN).mono ?_; clear h; rintro x w1 ⟨rfl, HS⟩)
      | (go_at_call 149; refine (unhide HPA _).mono ?_; clear HPA; rintro x w2 ⟨v, rfl, hrow, hbw⟩; have hlt := PL.lt HS; have HRW := hide (hrow.mono hlt); have HS2 := PL.below HS hbw; clear hrow hbw HS))
    go_ret
    rw [unhide HX]
    exact ⟨_, rfl, HRW, HS2⟩
end
end Go.Proofs.YtfolanohokflkabGreatDoor
