import Derived.Test.YthopgbacdmgfgaaGreatDoorProG
import Derived.WalkKit
import Derived.WalkSpells
import Derived.WalkLawsBesides
import Derived.WalkMore
namespace Go.Proofs.YthopgbacdmgfgaaGreatDoor
open Go.RowKit

theorem two_bytes (s : ByteArray) (p : Nat) (hle : p ≤ s.size) (x : Nat) (hx : x < 128) (h1 : hd (symsFrom s p) = 92) (h2 : hd (symsFrom s p).tail = (x : Int)) : p + 2 ≤ s.size ∧ symsFrom s (p + 2) = (symsFrom s p).tail.tail := by
  have hp : p < s.size := by
    by_cases hp : p < s.size
    · exact hp
    · obtain rfl : p = s.size := by omega
      rw [hd_end] at h1; omega
  have e := (hd_byte s p hp 92 (by decide)).1 h1
  rw [tl_byte s p hp (by omega)] at h2 ⊢
  have hp1 : p + 1 < s.size := by
    by_cases hp1 : p + 1 < s.size
    · exact hp1
    · have e3 : p + 1 = s.size := by omega
      rw [e3, hd_end] at h2; omega
  have e2 := (hd_byte s (p + 1) hp1 x hx).1 h2
  rw [tl_byte s (p + 1) hp1 (by omega)]
  exact ⟨by omega, rfl⟩

section
variable {w0 w : World} {b : Nat} {s : ByteArray} {d : Int} {l : List Sy}

set_option maxRecDepth 100000 in
set_option maxHeartbeats 4000000 in
theorem qMetSet_yes (h : Hid (PL w0 w b s d l)) (hc : Hid (isSet l = true)) :
    Calls Tryz.prog 117 #[.pointer (some ⟨b, 0, none⟩)] w fun x w' => x = .returned (.bool true) ∧ Hid (PL w0 w' b s d l.tail.tail) := by
  obtain ⟨p, h1, rfl⟩ := unhide h
  have q0 := h1.c0
  have q1 := h1.c1
  have f1 := h1.fz 1
  have hsm := h1.small
  have hle := h1.le
  have hpI : (p : Int) ≤ (s.size : Int) := by omega
  have hcc : hd (symsFrom s p) = 92 ∧ (hd (symsFrom s p).tail = 100 ∨ hd (symsFrom s p).tail = 119) := by have := unhide hc; simpa [isSet] using this
  have HH := hide h1
  obtain ⟨hc1, hc2⟩ := hcc
  have hp2 : p + 2 ≤ s.size ∧ symsFrom s (p + 2) = (symsFrom s p).tail.tail := by
    rcases hc2 with hc2 | hc2
    · exact two_bytes s p hle 100 (by decide) hc1 hc2
    · exact two_bytes s p hle 119 (by decide) hc1 hc2
  obtain ⟨hp2, he2⟩ := hp2
  have HE := hide he2
  rcases hc2 with hc2 | hc2
  · have A1 := hide (fun w1 => pPrefix (v := true) (s.extract p s.size) ⟨#[92, 100]⟩ w1 (by show Lib.hasPrefix _ [92, 100] = _; rw [prefix_two s p hle 100 (by decide)]; simp; exact ⟨hc1, hc2⟩))
    clear hc2 hc1 hc h1 h he2
    go_enter Tryz.func117, Tryz.ntmps117
    go_wp2_with fail
    go_quiet (fail)
    go_wp2_with (first
      | (go_at_call 123; refine (unhide A1 _).mono ?_; clear A1; rintro e w1 ⟨rfl, rfl⟩))
    go_ret
    exact ⟨rfl, PL.of' (PS.setPlace (PS.below (w' := w.drewN nq) HH ⟨rfl, rfl, rfl, Nat.le_refl _, fun _ _ => rfl⟩) (p + 2) _ (by omega) hp2) HE⟩
  · have A1 := hide (fun w1 => pPrefix (v := false) (s.extract p s.size) ⟨#[92, 100]⟩ w1 (by show Lib.hasPrefix _ [92, 100] = _; rw [prefix_two s p hle 100 (by decide)]; simp [hc1, hc2]))
    have A2 := hide (fun w1 => pPrefix (v := true) (s.extract p s.size) ⟨#[92, 119]⟩ w1 (by show Lib.hasPrefix _ [92, 119] = _; rw [prefix_two s p hle 119 (by decide)]; simp; exact ⟨hc1, hc2⟩))
    clear hc2 hc1 hc h1 h he2
    go_enter Tryz.func117, Tryz.ntmps117
    go_wp2_with fail
    go_quiet (fail)
    go_wp2_with (first
      | (go_at_call 123; refine (unhide A1 _).mono ?_; clear A1; rintro e w1 ⟨rfl, rfl⟩)
      | (go_at_call 123; have A3 := A2; clear A2; refine (unhide A3 _).mono ?_; rintro e w1 ⟨rfl, rfl⟩))
    go_ret
    exact ⟨rfl, PL.of' (PS.setPlace (PS.below (w' := w.drewN nq) HH ⟨rfl, rfl, rfl, Nat.le_refl _, fun _ _ => rfl⟩) (p + 2) _ (by omega) hp2) HE⟩

theorem qCon_esc (h : Hid (PL w0 w b s d l)) {c : Int} (hc : Hid (hd l = c)) {v : Bool} (hv : Hid ((isEsc c || decide (c = 110)) = v)) :
    Calls Tryz.prog 112 #[.string ⟨#[124, 38, 126, 42, 43, 63, 123, 125, 91, 93, 40, 41, 46, 92, 94, 45, 110]⟩, .int .i32 c] w fun x w' => x = .returned (.bool v) ∧ Hid (PL w0 w' b s d l) := by
  have hs := PL.symOr h
  rw [unhide hc] at hs
  have := containsRune_any escLit c w (asc_of _ (by decide)) (by decide) (by decide) hs
  rw [idx_esc, unhide hv] at this
  refine Calls.mono this ?_
  rintro x w' ⟨rfl, hb⟩
  exact ⟨rfl, PL.below h hb⟩
theorem qCon_mark (h : Hid (PL w0 w b s d l)) {c : Int} (hc : Hid (hd l = c)) {v : Bool} (hv : Hid (isMark c = v)) :
    Calls Tryz.prog 112 #[.string ⟨#[124, 38, 126, 42, 43, 63, 123, 125, 91, 93, 40, 41, 46, 92]⟩, .int .i32 c] w fun x w' => x = .returned (.bool v) ∧ Hid (PL w0 w' b s d l) := by
  have hs := PL.symOr h
  rw [unhide hc] at hs
  have := containsRune_any markLit c w (asc_of _ (by decide)) (by decide) (by decide) hs
  rw [idx_mark, unhide hv] at this
  refine Calls.mono this ?_
  rintro x w' ⟨rfl, hb⟩
  exact ⟨rfl, PL.below h hb⟩
theorem qCon_rep (h : Hid (PL w0 w b s d l)) {c : Int} (hc : Hid (hd l = c)) {v : Bool} (hv : Hid (isRep c = v)) :
    Calls Tryz.prog 112 #[.string ⟨#[42, 43, 63, 123]⟩, .int .i32 c] w fun x w' => x = .returned (.bool v) ∧ Hid (PL w0 w' b s d l) := by
  have hs := PL.symOr h
  rw [unhide hc] at hs
  have := containsRune_any repLit c w (asc_of _ (by decide)) (by decide) (by decide) hs
  rw [idx_rep, unhide hv] at this
  refine Calls.mono this ?_
  rintro x w' ⟨rfl, hb⟩
  exact ⟨rfl, PL.below h hb⟩

set_option maxRecDepth 100000 in
set_option maxHeartbeats 4000000 in
theorem qEscape (h : Hid (PL w0 w b s d l)) (hc : Hid (hd l = 92)) :
    Calls Tryz.prog 118 #[.pointer (some ⟨b, 0, none⟩)] w (QOut (escapeS s.size l.tail) vRune w0 b s d) := by
  obtain ⟨R, hR⟩ : ∃ R, escapeS s.size l.tail = R := ⟨_, rfl⟩
  rw [hR]
  by_cases hu : hd l.tail = 117
  · rw [escapeS, if_pos hu] at hR
    have HU1 := hide hu
    have HR := hide hR
    clear hu hR
    cases R with
    | error y =>
      go_enter Tryz.func118, Tryz.ntmps118
      go_wp2_with (first
        | (go_at_call 55; refine (qTake_yes h 92 hc).mono ?_; clear h; rintro x w1 ⟨rfl, HS⟩)
        | (go_at_call 82; refine (qMet_yes HS 117 HU1).mono ?_; clear HS; rintro x w2 ⟨rfl, HS⟩)
        | (go_at_call 124; refine (out_err (qNumbered HS) HR).mono ?_; rintro x w3 ⟨rfl, HU⟩))
      exact ⟨rfl, rfl, HU⟩
    | ok y =>
      obtain ⟨z, l1⟩ := y
      go_enter Tryz.func118, Tryz.ntmps118
      go_wp2_with (first
        | (go_at_call 55; refine (qTake_yes h 92 hc).mono ?_; clear h; rintro x w1 ⟨rfl, HS⟩)
        | (go_at_call 82; refine (qMet_yes HS 117 HU1).mono ?_; clear HS; rintro x w2 ⟨rfl, HS⟩)
        | (go_at_call 124; refine (out_rune (qNumbered HS) HR).mono ?_; clear HS; rintro x w3 ⟨rfl, HS⟩))
      go_ret
      exact ⟨rfl, HS⟩
  · have HU1 := hide hu
    rw [escapeS, if_neg hu] at hR
    obtain ⟨c, hcc⟩ : ∃ c, hd l.tail = c := ⟨_, rfl⟩
    have HCC := hide hcc
    rw [hcc] at hR
    clear hu hcc
    by_cases hn : c = 110
    · rw [if_pos hn] at hR
      have HX := hide hR.symm
      have HV : Hid ((isEsc c || decide (c = 110)) = true) := by show _ = _; simp [hn]
      subst hn
      clear hR
      go_enter Tryz.func118, Tryz.ntmps118
      go_wp2_with (first
        | (go_at_call 55; refine (qTake_yes h 92 hc).mono ?_; clear h; rintro x w1 ⟨rfl, HS⟩)
        | (go_at_call 82; refine (qMet_no HS 117 HU1).mono ?_; clear HS; rintro x w2 ⟨rfl, HS⟩)
        | (go_at_call 94; refine (qLook HS HCC).mono ?_; clear HS; rintro x w3 ⟨rfl, HS⟩)
        | (go_at_call 112; refine (qCon_esc HS HCC HV).mono ?_; clear HS; rintro x w4 ⟨rfl, HS⟩)
        | (go_at_call 95; refine (qStep HS).mono ?_; clear HS; rintro x w5 ⟨rfl, HS⟩))
      go_ret
      rw [unhide HX]
      exact ⟨rfl, HS⟩
    · rw [if_neg hn] at hR
      have hn1 : (c == 110) = false := by simpa using hn
      cases he : isEsc c
      · rw [if_neg (by rw [he]; decide)] at hR
        have HX : Hid (R = .error (2, plc s.size l.tail)) := hR.symm
        have HV : Hid ((isEsc c || decide (c = 110)) = false) := by show _ = _; simp [hn, he]
        clear hR hn he hn1
        go_enter Tryz.func118, Tryz.ntmps118
        go_wp2_with (first
          | (go_at_call 55; refine (qTake_yes h 92 hc).mono ?_; clear h; rintro x w1 ⟨rfl, HS⟩)
          | (go_at_call 82; refine (qMet_no HS 117 HU1).mono ?_; clear HS; rintro x w2 ⟨rfl, HS⟩)
          | (go_at_call 94; refine (qLook HS HCC).mono ?_; clear HS; rintro x w3 ⟨rfl, HS⟩)
          | (go_at_call 112; refine (qCon_esc HS HCC HV).mono ?_; clear HS; rintro x w4 ⟨rfl, HS⟩)
          | (go_at_call 84; refine (qRefuse HS 2).mono ?_; rintro x w5 ⟨rfl, HU⟩))
        rw [unhide HX]
        exact ⟨rfl, rfl, HU⟩
      · rw [if_pos he] at hR
        have HX := hide hR.symm
        have HV : Hid ((isEsc c || decide (c = 110)) = true) := by show _ = _; simp [he]
        clear hR hn he
        go_enter Tryz.func118, Tryz.ntmps118
        go_wp2_with (first
          | (go_at_call 55; refine (qTake_yes h 92 hc).mono ?_; clear h; rintro x w1 ⟨rfl, HS⟩)
          | (go_at_call 82; refine (qMet_no HS 117 HU1).mono ?_; clear HS; rintro x w2 ⟨rfl, HS⟩)
          | (go_at_call 94; refine (qLook HS HCC).mono ?_; clear HS; rintro x w3 ⟨rfl, HS⟩)
          | (go_at_call 112; refine (qCon_esc HS HCC HV).mono ?_; clear HS; rintro x w4 ⟨rfl, HS⟩)
          | (go_at_call 95; refine (qStep HS).mono ?_; clear HS; rintro x w5 ⟨rfl, HS⟩))
        go_ret
        rw [unhide HX]
        exact ⟨rfl, HS⟩

set_option maxRecDepth 100000 in
set_option maxHeartbeats 4000000 in
theorem qPlain (h : Hid (PL w0 w b s d l)) :
    Calls Tryz.prog 119 #[.pointer (some ⟨b, 0, none⟩)] w (QOut (if hd l < 0 ∨ isMark (hd l) = true then bad 2 s.size l else .ok ((), l.tail)) vUnit w0 b s d) := by
  have hge := hd_ge' l
  obtain ⟨c, hcc⟩ : ∃ c, hd l = c := ⟨_, rfl⟩
  have HCC := hide hcc
  rw [hcc] at hge ⊢
  clear hcc
  by_cases hn : c < 0
  · obtain rfl : c = -1 := by omega
    rw [if_pos (.inl (by omega))]
    clear hn hge
    go_enter Tryz.func119, Tryz.ntmps119
    go_wp2_with (first
      | (go_at_call 94; refine (qLook h HCC).mono ?_; clear h; rintro x w3 ⟨rfl, HS⟩)
      | (go_at_call 84; refine (qRefuse HS 2).mono ?_; rintro x w5 ⟨rfl, HU⟩))
    exact ⟨rfl, rfl, HU⟩
  · have hn1 : (c == -1) = false := by simp; omega
    cases hm : isMark c
    · rw [if_neg (by simp; omega)]
      have HV := hide hm
      clear hm hn hge
      go_enter Tryz.func119, Tryz.ntmps119
      go_wp2_with (first
        | (go_at_call 94; refine (qLook h HCC).mono ?_; clear h; rintro x w3 ⟨rfl, HS⟩)
        | (go_at_call 112; refine (qCon_mark HS HCC HV).mono ?_; clear HS; rintro x w4 ⟨rfl, HS⟩)
        | (go_at_call 95; refine (qStep HS).mono ?_; clear HS; rintro x w5 ⟨rfl, HS⟩))
      go_end0
      exact ⟨rfl, HS⟩
    · rw [if_pos (.inr rfl)]
      have HV := hide hm
      clear hm hn hge
      go_enter Tryz.func119, Tryz.ntmps119
      go_wp2_with (first
        | (go_at_call 94; refine (qLook h HCC).mono ?_; clear h; rintro x w3 ⟨rfl, HS⟩)
        | (go_at_call 112; refine (qCon_mark HS HCC HV).mono ?_; clear HS; rintro x w4 ⟨rfl, HS⟩)
        | (go_at_call 84; refine (qRefuse HS 2).mono ?_; rintro x w5 ⟨rfl, HU⟩))
      exact ⟨rfl, rfl, HU⟩
end
end Go.Proofs.YthopgbacdmgfgaaGreatDoor
