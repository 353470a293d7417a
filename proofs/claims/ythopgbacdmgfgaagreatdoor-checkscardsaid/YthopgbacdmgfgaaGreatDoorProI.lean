import Derived.Test.YthopgbacdmgfgaaGreatDoorProH
import Derived.Test.YthopgbacdmgfgaaGreatDoorBnd
import Derived.WalkKit
import Derived.WalkSpells
import Derived.WalkLawsBesides
import Derived.WalkMore
namespace Go.Proofs.YthopgbacdmgfgaaGreatDoor
open Go.RowKit

section
variable {w0 w : World} {b : Nat} {s : ByteArray} {d : Int} {l : List Sy}

set_option maxRecDepth 100000 in
set_option maxHeartbeats 4000000 in
theorem qLimit (h : Hid (PL w0 w b s d l)) :
    Calls Tryz.prog 130 #[.pointer (some ⟨b, 0, none⟩)] w (QOut (limitS s.size l) vRune w0 b s d) := by
  obtain ⟨R, hR⟩ : ∃ R, limitS s.size l = R := ⟨_, rfl⟩
  rw [hR]
  have hge := hd_ge' l
  by_cases h92 : hd l = 92
  · rw [limitS, if_pos h92] at hR
    have HCC := hide h92
    have HR := hide hR
    clear hR h92 hge
    cases R with
    | error y =>
      go_enter Tryz.func130, Tryz.ntmps130
      go_wp2_with (first
        | (go_at_call 94; refine (qLook h HCC).mono ?_; clear h; rintro x w1 ⟨rfl, HS⟩)
        | (go_at_call 118; refine (out_err (qEscape HS HCC) HR).mono ?_; rintro x w2 ⟨rfl, HU⟩))
      exact ⟨rfl, rfl, HU⟩
    | ok y =>
      obtain ⟨z, l1⟩ := y
      go_enter Tryz.func130, Tryz.ntmps130
      go_wp2_with (first
        | (go_at_call 94; refine (qLook h HCC).mono ?_; clear h; rintro x w1 ⟨rfl, HS⟩)
        | (go_at_call 118; refine (out_rune (qEscape HS HCC) HR).mono ?_; clear HS; rintro x w2 ⟨rfl, HS⟩))
      go_ret
      exact ⟨rfl, HS⟩
  · rw [limitS, if_neg h92] at hR
    by_cases hb : hd l < 0 ∨ hd l = 93 ∨ hd l = 45
    · rw [if_pos hb] at hR
      subst hR
      have hb2 : hd l = -1 ∨ hd l = 93 ∨ hd l = 45 := by omega
      clear hb h92 hge
      rcases hb2 with hb | hb | hb
      all_goals
        have HCC := hide hb
        clear hb
        go_enter Tryz.func130, Tryz.ntmps130
        go_wp2_with (first
          | (go_at_call 94; refine (qLook h HCC).mono ?_; clear h; rintro x w1 ⟨rfl, HS⟩)
          | (go_at_call 84; refine (qRefuse HS 2).mono ?_; rintro x w2 ⟨rfl, HU⟩))
        exact ⟨rfl, rfl, HU⟩
    · rw [if_neg hb] at hR
      obtain ⟨c, hcc⟩ : ∃ c, hd l = c := ⟨_, rfl⟩
      have HCC := hide hcc
      rw [hcc] at hR h92 hb
      have k1 : (c == 92) = false := by simpa using h92
      have k2 : (c == 93) = false := by simp; omega
      have k3 : (c == 45) = false := by simp; omega
      have k4 : (c == -1) = false := by simp; omega
      subst hR
      clear hcc h92 hb hge
      go_enter Tryz.func130, Tryz.ntmps130
      go_wp2_with (first
        | (go_at_call 94; refine (qLook h HCC).mono ?_; clear h; rintro x w1 ⟨rfl, HS⟩)
        | (go_at_call 95; refine (qStep HS).mono ?_; clear HS; rintro x w2 ⟨rfl, HS⟩))
      go_ret
      exact ⟨rfl, HS⟩

set_option maxRecDepth 100000 in
set_option maxHeartbeats 4000000 in
theorem qPart (h : Hid (PL w0 w b s d l)) :
    Calls Tryz.prog 122 #[.pointer (some ⟨b, 0, none⟩)] w (QOut (partS s.size l) vUnit w0 b s d) := by
  obtain ⟨R, hR⟩ : ∃ R, partS s.size l = R := ⟨_, rfl⟩
  rw [hR]
  rw [partS] at hR
  cases hs : isSet l
  · rw [if_neg (by rw [hs]; decide)] at hR
    have HN := hide hs
    clear hs
    cases h1 : limitS s.size l with
    | error y =>
      rw [h1] at hR
      have HX : Hid (R = .error y) := hR.symm
      have H1 := hide h1
      clear h1 hR
      go_enter Tryz.func122, Tryz.ntmps122
      go_wp2_with (first
        | (go_at_call 117; refine (qMetSet_no h HN).mono ?_; clear h; rintro x w1 ⟨rfl, HS⟩)
        | (go_at_call 130; refine (out_err (qLimit HS) H1).mono ?_; rintro x w2 ⟨rfl, HU⟩))
      rw [unhide HX]
      exact ⟨rfl, rfl, HU⟩
    | ok y =>
      obtain ⟨a, l1⟩ := y
      rw [h1] at hR
      dsimp only at hR
      have H1 := hide h1
      clear h1
      by_cases hdash : hd l1 = 45
      · rw [if_pos hdash] at hR
        have HD := hide hdash
        clear hdash
        cases h2 : limitS s.size l1.tail with
        | error y =>
          rw [h2] at hR
          have HX : Hid (R = .error y) := hR.symm
          have H2 := hide h2
          clear h2 hR
          go_enter Tryz.func122, Tryz.ntmps122
          go_wp2_with (first
            | (go_at_call 117; refine (qMetSet_no h HN).mono ?_; clear h; rintro x w1 ⟨rfl, HS⟩)
            | (go_at_call 130; have H3 := H1; clear H1; refine (out_rune (qLimit HS) H3).mono ?_; clear HS; rintro x w2 ⟨rfl, HS⟩)
            | (go_at_call 82; refine (qMet_yes HS 45 HD).mono ?_; clear HS; rintro x w2 ⟨rfl, HS⟩)
            | (go_at_call 130; refine (out_err (qLimit HS) H2).mono ?_; rintro x w2 ⟨rfl, HU⟩))
          rw [unhide HX]
          exact ⟨rfl, rfl, HU⟩
        | ok y =>
          obtain ⟨z, l2⟩ := y
          rw [h2] at hR
          dsimp only at hR
          have H2 := hide h2
          clear h2
          by_cases hza : z < a
          · rw [if_pos hza] at hR
            have HX : Hid (R = .error (3, plc s.size l2)) := hR.symm
            clear hR
            go_enter Tryz.func122, Tryz.ntmps122
            go_wp2_with (first
              | (go_at_call 117; refine (qMetSet_no h HN).mono ?_; clear h; rintro x w1 ⟨rfl, HS⟩)
              | (go_at_call 130; have H3 := H1; clear H1; refine (out_rune (qLimit HS) H3).mono ?_; clear HS; rintro x w2 ⟨rfl, HS⟩)
              | (go_at_call 82; refine (qMet_yes HS 45 HD).mono ?_; clear HS; rintro x w2 ⟨rfl, HS⟩)
              | (go_at_call 130; refine (out_rune (qLimit HS) H2).mono ?_; clear HS; rintro x w2 ⟨rfl, HS⟩)
              | (go_at_call 84; refine (qRefuse HS 3).mono ?_; rintro x w2 ⟨rfl, HU⟩))
            rw [unhide HX]
            exact ⟨rfl, rfl, HU⟩
          · rw [if_neg hza] at hR
            have HX := hide hR.symm
            clear hR
            go_enter Tryz.func122, Tryz.ntmps122
            go_wp2_with (first
              | (go_at_call 117; refine (qMetSet_no h HN).mono ?_; clear h; rintro x w1 ⟨rfl, HS⟩)
              | (go_at_call 130; have H3 := H1; clear H1; refine (out_rune (qLimit HS) H3).mono ?_; clear HS; rintro x w2 ⟨rfl, HS⟩)
              | (go_at_call 82; refine (qMet_yes HS 45 HD).mono ?_; clear HS; rintro x w2 ⟨rfl, HS⟩)
              | (go_at_call 130; refine (out_rune (qLimit HS) H2).mono ?_; clear HS; rintro x w2 ⟨rfl, HS⟩))
            go_end0
            rw [unhide HX]
            exact ⟨rfl, HS⟩
      · rw [if_neg hdash] at hR
        have HX := hide hR.symm
        have HD := hide hdash
        clear hR hdash
        go_enter Tryz.func122, Tryz.ntmps122
        go_wp2_with (first
          | (go_at_call 117; refine (qMetSet_no h HN).mono ?_; clear h; rintro x w1 ⟨rfl, HS⟩)
          | (go_at_call 130; have H3 := H1; clear H1; refine (out_rune (qLimit HS) H3).mono ?_; clear HS; rintro x w2 ⟨rfl, HS⟩)
          | (go_at_call 82; refine (qMet_no HS 45 HD).mono ?_; clear HS; rintro x w2 ⟨rfl, HS⟩))
        go_end0
        rw [unhide HX]
        exact ⟨rfl, HS⟩
  · rw [if_pos hs] at hR
    have HX := hide hR.symm
    have HN := hide hs
    clear hR hs
    go_enter Tryz.func122, Tryz.ntmps122
    go_wp2_with (first
      | (go_at_call 117; refine (qMetSet_yes h HN).mono ?_; clear h; rintro x w1 ⟨rfl, HS⟩))
    go_end0
    rw [unhide HX]
    exact ⟨rfl, HS⟩

set_option maxRecDepth 100000 in
set_option maxHeartbeats 4000000 in
theorem qRowEnd (h : Hid (PL w0 w b s d l)) {v : Bool} (hv : Hid (rowEnd (hd l) = v)) :
    Calls Tryz.prog 103 #[.pointer (some ⟨b, 0, none⟩)] w fun x w' => x = .returned (.bool v) ∧ Hid (PL w0 w' b s d l) := by
  have hge := hd_ge' l
  by_cases hb : hd l < 0 ∨ hd l = 124 ∨ hd l = 38 ∨ hd l = 41
  · obtain rfl : v = true := by rw [← unhide hv]; simpa [rowEnd] using hb
    have hb2 : hd l = -1 ∨ hd l = 124 ∨ hd l = 38 ∨ hd l = 41 := by omega
    clear hb hge hv
    rcases hb2 with hb | hb | hb | hb
    all_goals
      have HCC := hide hb
      clear hb
      go_enter Tryz.func103, Tryz.ntmps103
      go_wp2_with (first
        | (go_at_call 94; refine (qLook h HCC).mono ?_; clear h; rintro x w1 ⟨rfl, HS⟩))
      go_ret
      exact ⟨rfl, HS⟩
  · obtain rfl : v = false := by rw [← unhide hv]; simpa [rowEnd] using hb
    obtain ⟨c, hcc⟩ : ∃ c, hd l = c := ⟨_, rfl⟩
    have HCC := hide hcc
    rw [hcc] at hb
    have k1 : (c == 124) = false := by simp; omega
    have k2 : (c == 38) = false := by simp; omega
    have k3 : (c == 41) = false := by simp; omega
    have k4 : (c == -1) = false := by simp; omega
    clear hb hge hv hcc
    go_enter Tryz.func103, Tryz.ntmps103
    go_wp2_with (first
      | (go_at_call 94; refine (qLook h HCC).mono ?_; clear h; rintro x w1 ⟨rfl, HS⟩))
    go_ret
    exact ⟨rfl, HS⟩

/-- how many symbols are left, read off the memory. -/
def left (s : ByteArray) (b : Nat) (w : World) : Nat := match w.cell? ⟨b, 1, none⟩ with
  | some (.int _ n) => (symsFrom s n.toNat).length
  | _ => 0
theorem PL.left (h : Hid (PL w0 w b s d l)) : left s b w = l.length := by
  obtain ⟨p, h1, rfl⟩ := unhide h
  rw [Proofs.YthopgbacdmgfgaaGreatDoor.left, h1.c1]
  rfl
def ClsP (R : Res Unit) (w0 wr : World) (b : Nat) (s : ByteArray) (d : Int) : Prop :=
  ∃ f l, classLoopS s.size f l = R ∧ l.length < f ∧ Hid (PL w0 wr b s d l)

set_option maxRecDepth 100000 in
set_option maxHeartbeats 4000000 in
theorem qClass (h : Hid (PL w0 w b s d l)) (hc : Hid (hd l = 91)) :
    Calls Tryz.prog 116 #[.pointer (some ⟨b, 0, none⟩)] w (QOut (classS s.size l.tail) vUnit w0 b s d) := by
  obtain ⟨R, hR⟩ : ∃ R, classS s.size l.tail = R := ⟨_, rfl⟩
  rw [hR]
  have HM : Hid (∀ w1, Hid (PL w0 w1 b s d l.tail) → Calls Tryz.prog 82 #[.pointer (some ⟨b, 0, none⟩), .int .i32 94] w1 fun x w' => (∃ v : Bool, x = .returned (.bool v)) ∧ Hid (ClsP R w0 w' b s d)) := by
    intro w1 h1
    by_cases h94 : hd l.tail = 94
    · refine (qMet_yes h1 94 h94).mono ?_
      rintro x w' ⟨rfl, h2⟩
      exact ⟨⟨_, rfl⟩, _, _, by rw [← hR, classS, if_pos h94], by have := tail_le l.tail; omega, h2⟩
    · refine (qMet_no h1 94 h94).mono ?_
      rintro x w' ⟨rfl, h2⟩
      exact ⟨⟨_, rfl⟩, _, _, by rw [← hR, classS, if_neg h94], by omega, h2⟩
  clear hR
  go_enter Tryz.func116, Tryz.ntmps116
  go_wp2_with (first
    | (go_at_call 55; refine (qTake_yes h 91 hc).mono ?_; clear h; rintro x w1 ⟨rfl, HS⟩)
    | (go_at_call 82; refine (unhide HM _ HS).mono ?_; clear HM HS; rintro x w2 ⟨⟨v, rfl⟩, HP⟩))
  go_loopw [] (fun wr => Hid (ClsP R w0 wr b s d)) (fun wr => left s b wr)
  case atStart => exact HP
  case round =>
    clear HP hc
    obtain ⟨f, l', hf, hlt, HS⟩ := unhide hrel
    obtain ⟨f, rfl⟩ : ∃ f', f = f' + 1 := ⟨f - 1, by omega⟩
    have HL := hide (PL.left HS)
    rw [classLoopS] at hf
    by_cases h93 : hd l' = 93
    · rw [if_pos h93] at hf
      have HX := hide hf.symm
      have H93 := hide h93
      clear hf h93 hrel HL
      go_wp2_with (first
        | (go_at_call 82; refine (qMet_yes HS 93 H93).mono ?_; clear HS; rintro x w2 ⟨rfl, HS⟩))
      go_end0
      rw [unhide HX]
      exact ⟨rfl, HS⟩
    · rw [if_neg h93] at hf
      have H93 := hide h93
      clear h93 hrel
      cases hp : partS s.size l' with
      | error y =>
        rw [hp] at hf
        have HX : Hid (R = .error y) := hf.symm
        have HPT := hide hp
        clear hf hp HL
        go_wp2_with (first
          | (go_at_call 82; refine (qMet_no HS 93 H93).mono ?_; clear HS; rintro x w2 ⟨rfl, HS⟩)
          | (go_at_call 122; refine (out_err (qPart HS) HPT).mono ?_; rintro x w2 ⟨rfl, HU⟩))
        rw [unhide HX]
        exact ⟨rfl, rfl, HU⟩
      | ok y =>
        obtain ⟨u, l1⟩ := y
        rw [hp] at hf
        dsimp only at hf
        have hlen := partS_len hp
        have HX := hide hf
        have HPT := hide hp
        clear hf hp
        dsimp only at hlen
        go_wp2_with (first
          | (go_at_call 82; refine (qMet_no HS 93 H93).mono ?_; clear HS; rintro x w2 ⟨rfl, HS⟩)
          | (go_at_call 122; refine (out_unit (qPart HS) HPT).mono ?_; clear HS; rintro x w2 ⟨rfl, HS⟩))
        go_roundw
        case rel => exact ⟨f, l1, unhide HX, by omega, HS⟩
        case measure =>
          have e1 := PL.left HS
          have e2 := unhide HL
          show left s b _ < left s b _
          omega
end
end Go.Proofs.YthopgbacdmgfgaaGreatDoor
