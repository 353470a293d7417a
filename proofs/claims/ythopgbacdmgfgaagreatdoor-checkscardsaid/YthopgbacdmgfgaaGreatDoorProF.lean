import Derived.Test.YthopgbacdmgfgaaGreatDoorProE
import Derived.Test.YthopgbacdmgfgaaGreatDoorRefO
import Derived.WalkKit
import Derived.WalkSpells
import Derived.WalkLawsBesides
import Derived.WalkMore
namespace Go.Proofs.YthopgbacdmgfgaaGreatDoor
open Go.RowKit

theorem pValid (v : Int) (w : World) : Calls Tryz.prog 126 #[.int .i32 v] w fun e w' => e = .returned (.bool (isSym v)) ∧ w = w' := by
  refine (Tryz.utf8_ValidRune v w).mono ?_
  rintro e w' ⟨rfl, rfl⟩
  refine ⟨?_, rfl⟩
  have : Lib.validRune v = isSym v := by
    unfold Lib.validRune isSym
    apply decide_eq_decide.2
    omega
  rw [this]

section
variable {w0 w : World} {b : Nat} {s : ByteArray} {d : Int} {l : List Sy}

theorem qHex_no (h : Hid (PL w0 w b s d l)) (hc : Hid (hexv (hd l) < 0)) :
    Calls Tryz.prog 132 #[.pointer (some ⟨b, 0, none⟩), .string ⟨#[48, 49, 50, 51, 52, 53, 54, 55, 56, 57, 97, 98, 99, 100, 101, 102]⟩] w fun x w' => x = .returned (.tuple #[.int .i64 0, .bool false]) ∧ Hid (PL w0 w' b s d l) := by
  obtain ⟨p, h1, rfl⟩ := unhide h
  refine (pDigit h1 hexLit (asc_of _ (by decide)) (by decide) (by decide) (hexv (hd (symsFrom s p))) (by show _ = _; rw [idx_hex])).mono ?_
  intro x w' hh
  obtain ⟨e, h2⟩ := hh.1 hc
  exact ⟨e, PL.of h2⟩
theorem qHex_yes (h : Hid (PL w0 w b s d l)) {v : Int} (hv : Hid (hexv (hd l) = v)) (h0 : 0 ≤ v) :
    Calls Tryz.prog 132 #[.pointer (some ⟨b, 0, none⟩), .string ⟨#[48, 49, 50, 51, 52, 53, 54, 55, 56, 57, 97, 98, 99, 100, 101, 102]⟩] w fun x w' => x = .returned (.tuple #[.int .i64 v, .bool true]) ∧ Hid (PL w0 w' b s d l.tail) := by
  obtain ⟨p, h1, rfl⟩ := unhide h
  refine (pDigit h1 hexLit (asc_of _ (by decide)) (by decide) (by decide) v (by show _ = _; rw [idx_hex]; exact unhide hv)).mono ?_
  intro x w' hh
  obtain ⟨e, p', h2, h3⟩ := hh.2 h0
  exact ⟨e, PL.of' h2 h3⟩
theorem hexv_le (c : Int) : hexv c ≤ 15 := by unfold hexv; split; · omega
                                              · split <;> omega
theorem hexS_step {v : Int} {k : Nat} (hk : k < 6) (h : 0 ≤ hexv (hd l)) : hexS (6 - k) v k l = hexS (6 - (k + 1)) (16 * v + hexv (hd l)) (k + 1) l.tail := by
  rw [show 6 - k = (6 - (k + 1)) + 1 from by omega, hexS, if_pos h]
theorem hexS_stop {v : Int} {k : Nat} (hk : k = 6 ∨ hexv (hd l) < 0) (hk6 : k ≤ 6) : hexS (6 - k) v k l = (v, k, l) := by
  by_cases h6 : k = 6
  · subst h6; rfl
  · rw [show 6 - k = (6 - (k + 1)) + 1 from by omega, hexS, if_neg (by omega)]
def HexP (R : Res Int) (w0 wr : World) (b : Nat) (s : ByteArray) (d : Int) (v : Int) (m : Nat) (l : List Sy) : Prop :=
  codeEnd s.size (hexS (6 - m) v m l) = R ∧ Hid (PL w0 wr b s d l) ∧ 0 ≤ v ∧ v < (16 : Int) ^ m

set_option maxRecDepth 100000 in
set_option maxHeartbeats 8000000 in
theorem qNumbered (h : Hid (PL w0 w b s d l)) :
    Calls Tryz.prog 124 #[.pointer (some ⟨b, 0, none⟩)] w (QOut (codeS s.size l) vRune w0 b s d) := by
  obtain ⟨R, hR⟩ : ∃ R, codeS s.size l = R := ⟨_, rfl⟩
  rw [hR]
  by_cases hc : hd l = 123
  · rw [codeS, if_pos hc] at hR
    have HC := hide hc
    have HR := hide hR
    clear hR hc
    go_enter Tryz.func124, Tryz.ntmps124
    go_wp2_with (go_at_call 55; refine (qTake_yes h 123 HC).mono ?_; clear h; rintro x w1 ⟨rfl, HS⟩)
    have HP : Hid (HexP R w0 w1 b s d 0 0 l.tail) := ⟨unhide HR, HS, by decide, by decide⟩
    clear HS HR HC
    go_loopw [3, 4] (fun n k wr => ∃ (v : Int) (m : Nat) (l' : List Sy), m ≤ 6 ∧ n = .int .i32 v ∧ k = .int .i64 m ∧ Hid (HexP R w0 wr b s d v m l')) (fun _ k _ => 6 - (intOf k).toNat)
    case atStart => exact ⟨0, 0, _, by omega, rfl, rfl, HP⟩
    case round =>
      clear HP
      obtain ⟨v, m, l', hm, rfl, rfl, HP⟩ := hrel
      obtain ⟨hr, HS, hv0, hv1⟩ := unhide HP
      obtain ⟨hp1, hp2⟩ := pow16 m hm
      have hvb : v < 16777216 := by omega
      by_cases hm6 : m < 6
      · by_cases hn : hexv (hd l') < 0
        · have hend : codeEnd s.size (v, m, l') = R := by rw [← hr, hexS_stop (.inr hn) hm]
          have HN := hide hn
          clear hr HP hv1 hp1 hp2 hn
          obtain ⟨c, hcc⟩ : ∃ c, hd l' = c := ⟨_, rfl⟩
          have HCC := hide hcc
          rw [codeEnd] at hend
          dsimp only at hend
          rw [hcc] at hend
          have HEND := hide hend
          clear hcc hend
          by_cases hz : m = 0
          · have hz' : ((m : Int) == 0) = true := by simp [hz]
            have HX : Hid (R = .error (2, plc s.size l')) := by show _ = _; rw [← unhide HEND, if_pos (.inl hz)]; rfl
            clear hz HEND
            go_wp2_with (first
              | (go_at_call 132; refine (qHex_no HS HN).mono ?_; clear HS HN; rintro x w3 ⟨rfl, HS⟩)
              | (go_at_call 94; refine (qLook HS HCC).mono ?_; clear HS; rintro x w2 ⟨rfl, HS⟩)
              | (go_at_call 84; refine (qRefuse HS 2).mono ?_; rintro x w4 ⟨rfl, HU⟩))
            rw [unhide HX]
            exact ⟨rfl, rfl, HU⟩
          · have hz' : ((m : Int) == 0) = false := by simp; omega
            by_cases hc : c = 125
            · subst hc
              have HY := hide (fun w1 => pValid v w1)
              cases hsy : isSym v
              · have HX : Hid (R = .error (3, plc s.size l')) := by show _ = _; rw [← unhide HEND, if_neg (by omega), if_neg (by rw [hsy]; decide)]; rfl
                rw [hsy] at HY
                clear hz HEND hsy
                go_wp2_with (first
                  | (go_at_call 132; refine (qHex_no HS HN).mono ?_; clear HS HN; rintro x w3 ⟨rfl, HS⟩)
                  | (go_at_call 94; refine (qLook HS HCC).mono ?_; clear HS; rintro x w2 ⟨rfl, HS⟩)
                  | (go_at_call 126; refine (unhide HY _).mono ?_; rintro x w5 ⟨rfl, rfl⟩)
                  | (go_at_call 84; refine (qRefuse HS 3).mono ?_; rintro x w4 ⟨rfl, HU⟩))
                rw [unhide HX]
                exact ⟨rfl, rfl, HU⟩
              · have HX : Hid (R = .ok (v, l'.tail)) := by show _ = _; rw [← unhide HEND, if_neg (by omega), if_pos hsy]
                rw [hsy] at HY
                clear hz HEND hsy
                go_wp2_with (first
                  | (go_at_call 132; refine (qHex_no HS HN).mono ?_; clear HS HN; rintro x w3 ⟨rfl, HS⟩)
                  | (go_at_call 94; refine (qLook HS HCC).mono ?_; clear HS; rintro x w2 ⟨rfl, HS⟩)
                  | (go_at_call 126; refine (unhide HY _).mono ?_; rintro x w5 ⟨rfl, rfl⟩)
                  | (go_at_call 95; refine (qStep HS).mono ?_; clear HS; rintro x w6 ⟨rfl, HS⟩))
                go_ret
                rw [unhide HX]
                exact ⟨rfl, HS⟩
            · have hb' : (c != 125) = true := by simpa using hc
              have HX : Hid (R = .error (2, plc s.size l')) := by show _ = _; rw [← unhide HEND, if_pos (.inr hc)]; rfl
              clear hz HEND hc
              go_wp2_with (first
                | (go_at_call 132; refine (qHex_no HS HN).mono ?_; clear HS HN; rintro x w3 ⟨rfl, HS⟩)
                | (go_at_call 94; refine (qLook HS HCC).mono ?_; clear HS; rintro x w2 ⟨rfl, HS⟩)
                | (go_at_call 84; refine (qRefuse HS 2).mono ?_; rintro x w4 ⟨rfl, HU⟩))
              rw [unhide HX]
              exact ⟨rfl, rfl, HU⟩
        · obtain ⟨z, hz⟩ : ∃ z, hexv (hd l') = z := ⟨_, rfl⟩
          have hz15 := hexv_le (hd l')
          rw [hz] at hz15
          have hz0 : 0 ≤ z := by omega
          have HP2 : Hid (∀ w', Hid (PL w0 w' b s d l'.tail) → HexP R w0 w' b s d (16 * v + z) (m + 1) l'.tail) := by
            intro w' hs
            refine ⟨?_, hs, by omega, ?_⟩
            · rw [← hr, hexS_step hm6 (by omega), hz]
            · rw [Int.pow_succ]; omega
          have HV := hide hz
          clear hr HP hv1 hp1 hp2 hn hz
          go_wp2_with (first
            | (go_at_call 132; refine (qHex_yes HS HV hz0).mono ?_; clear HS; rintro x w3 ⟨rfl, HS⟩))
          go_roundw
          case rel => exact ⟨_, m + 1, _, by omega, rfl, by go_num, unhide HP2 _ HS⟩
          case measure => simp [intOf]; omega
      · have hm' : decide ((m : Int) < 6) = false := by simp; omega
        have hend : codeEnd s.size (v, m, l') = R := by rw [← hr, hexS_stop (.inl (by omega)) hm]
        clear hr HP hv1 hp1 hp2 hm6
        obtain ⟨c, hcc⟩ : ∃ c, hd l' = c := ⟨_, rfl⟩
        have HCC := hide hcc
        rw [codeEnd] at hend
        dsimp only at hend
        rw [hcc] at hend
        have HEND := hide hend
        clear hcc hend
        by_cases hz : m = 0
        · have hz' : ((m : Int) == 0) = true := by simp [hz]
          have HX : Hid (R = .error (2, plc s.size l')) := by show _ = _; rw [← unhide HEND, if_pos (.inl hz)]; rfl
          clear hz HEND
          go_wp2_with (first
            | (go_at_call 94; refine (qLook HS HCC).mono ?_; clear HS; rintro x w2 ⟨rfl, HS⟩)
            | (go_at_call 84; refine (qRefuse HS 2).mono ?_; rintro x w4 ⟨rfl, HU⟩))
          rw [unhide HX]
          exact ⟨rfl, rfl, HU⟩
        · have hz' : ((m : Int) == 0) = false := by simp; omega
          by_cases hc : c = 125
          · subst hc
            have HY := hide (fun w1 => pValid v w1)
            cases hsy : isSym v
            · have HX : Hid (R = .error (3, plc s.size l')) := by show _ = _; rw [← unhide HEND, if_neg (by omega), if_neg (by rw [hsy]; decide)]; rfl
              rw [hsy] at HY
              clear hz HEND hsy
              go_wp2_with (first
                | (go_at_call 94; refine (qLook HS HCC).mono ?_; clear HS; rintro x w2 ⟨rfl, HS⟩)
                | (go_at_call 126; refine (unhide HY _).mono ?_; rintro x w5 ⟨rfl, rfl⟩)
                | (go_at_call 84; refine (qRefuse HS 3).mono ?_; rintro x w4 ⟨rfl, HU⟩))
              rw [unhide HX]
              exact ⟨rfl, rfl, HU⟩
            · have HX : Hid (R = .ok (v, l'.tail)) := by show _ = _; rw [← unhide HEND, if_neg (by omega), if_pos hsy]
              rw [hsy] at HY
              clear hz HEND hsy
              go_wp2_with (first
                | (go_at_call 94; refine (qLook HS HCC).mono ?_; clear HS; rintro x w2 ⟨rfl, HS⟩)
                | (go_at_call 126; refine (unhide HY _).mono ?_; rintro x w5 ⟨rfl, rfl⟩)
                | (go_at_call 95; refine (qStep HS).mono ?_; clear HS; rintro x w6 ⟨rfl, HS⟩))
              go_ret
              rw [unhide HX]
              exact ⟨rfl, HS⟩
          · have hb' : (c != 125) = true := by simpa using hc
            have HX : Hid (R = .error (2, plc s.size l')) := by show _ = _; rw [← unhide HEND, if_pos (.inr hc)]; rfl
            clear hz HEND hc
            go_wp2_with (first
              | (go_at_call 94; refine (qLook HS HCC).mono ?_; clear HS; rintro x w2 ⟨rfl, HS⟩)
              | (go_at_call 84; refine (qRefuse HS 2).mono ?_; rintro x w4 ⟨rfl, HU⟩))
            rw [unhide HX]
            exact ⟨rfl, rfl, HU⟩
  · have HC := hide hc
    rw [codeS, if_neg hc] at hR
    have HX : Hid (R = .error (2, plc s.size l)) := hR.symm
    clear hR hc
    go_enter Tryz.func124, Tryz.ntmps124
    go_wp2_with (go_at_call 55; refine (qTake_no h 123 HC).mono ?_; clear h; rintro x w1 ⟨rfl, HU⟩)
    rw [unhide HX]
    exact ⟨rfl, rfl, HU⟩
end
end Go.Proofs.YthopgbacdmgfgaaGreatDoor
