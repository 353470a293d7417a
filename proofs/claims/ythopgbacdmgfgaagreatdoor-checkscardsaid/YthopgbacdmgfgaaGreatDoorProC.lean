import Derived.Test.YthopgbacdmgfgaaGreatDoorProB
import Derived.WalkKit
import Derived.WalkSpells
import Derived.WalkLawsBesides
namespace Go.Proofs.YthopgbacdmgfgaaGreatDoor
open Go.RowKit

def POut {a : Type} (R : Res a) (val : a → Value) (w0 : World) (b : Nat) (s : ByteArray) (d : Int) (x : Ending) (w' : World) : Prop :=
  match R with
  | .ok y => x = .returned (val y.1) ∧ ∃ p', Hid (PS w0 w' b s p' d) ∧ Hid (symsFrom s p' = y.2)
  | .error y => x = Pan y.1 y.2 ∧ Hid (Up b w0 w')
abbrev vInt (z : Int) : Value := .int .i64 z
abbrev vRune (z : Int) : Value := .int .i32 z
abbrev vUnit (_ : Unit) : Value := .tuple #[]

def decLit : ByteArray := ⟨#[48, 49, 50, 51, 52, 53, 54, 55, 56, 57]⟩
def hexLit : ByteArray := ⟨#[48, 49, 50, 51, 52, 53, 54, 55, 56, 57, 97, 98, 99, 100, 101, 102]⟩
def repLit : ByteArray := ⟨#[42, 43, 63, 123]⟩
def markLit : ByteArray := ⟨#[124, 38, 126, 42, 43, 63, 123, 125, 91, 93, 40, 41, 46, 92]⟩
def escLit : ByteArray := ⟨#[124, 38, 126, 42, 43, 63, 123, 125, 91, 93, 40, 41, 46, 92, 94, 45, 110]⟩
theorem asc_of (s : ByteArray) (h : s.data.toList.all (fun b => decide (b.toNat < 128)) = true) : Asc s := by
  intro i hi
  have := List.all_eq_true.1 h (s[i]) (by exact Array.getElem_mem_toList (xs := s.data) hi)
  simpa using this
theorem nat_of (P : Int → Bool) (h : ∀ n : Fin 128, P ((n.val : Nat) : Int) = true) (c : Int) (h0 : 0 ≤ c) (h1 : c < 128) : P c = true := by
  have := h ⟨c.toNat, by omega⟩
  simpa [Int.toNat_of_nonneg h0] using this
theorem idx_dec (c : Int) : idxR decLit c = if isDig c = true then c - 48 else -1 := by
  unfold idxR
  by_cases h : 0 ≤ c ∧ c < 128
  · rw [if_pos h]
    have := nat_of (fun c => decide (Lib.indexByte decLit.data.toList c.toNat.toUInt8 = if isDig c = true then c - 48 else -1)) (by decide +kernel) c h.1 h.2
    simpa using this
  · rw [if_neg h, if_neg (by simp [isDig]; omega)]
theorem idx_hex (c : Int) : idxR hexLit c = hexv c := by
  unfold idxR
  by_cases h : 0 ≤ c ∧ c < 128
  · rw [if_pos h]
    have := nat_of (fun c => decide (Lib.indexByte hexLit.data.toList c.toNat.toUInt8 = hexv c)) (by decide +kernel) c h.1 h.2
    simpa using this
  · rw [if_neg h, hexv, if_neg (by omega), if_neg (by omega)]
theorem idx_rep (c : Int) : decide (0 ≤ idxR repLit c) = isRep c := by
  unfold idxR
  by_cases h : 0 ≤ c ∧ c < 128
  · rw [if_pos h]
    have := nat_of (fun c => decide (decide (0 ≤ Lib.indexByte repLit.data.toList c.toNat.toUInt8) = isRep c)) (by decide +kernel) c h.1 h.2
    simpa using this
  · rw [if_neg h, isRep]; simp; omega
theorem idx_mark (c : Int) : decide (0 ≤ idxR markLit c) = isMark c := by
  unfold idxR
  by_cases h : 0 ≤ c ∧ c < 128
  · rw [if_pos h]
    have := nat_of (fun c => decide (decide (0 ≤ Lib.indexByte markLit.data.toList c.toNat.toUInt8) = isMark c)) (by decide +kernel) c h.1 h.2
    simpa using this
  · rw [if_neg h]; simp [isMark]; omega
theorem idx_esc (c : Int) : decide (0 ≤ idxR escLit c) = (isEsc c || decide (c = 110)) := by
  unfold idxR
  by_cases h : 0 ≤ c ∧ c < 128
  · rw [if_pos h]
    have := nat_of (fun c => decide (decide (0 ≤ Lib.indexByte escLit.data.toList c.toNat.toUInt8) = (isEsc c || decide (c = 110)))) (by decide +kernel) c h.1 h.2
    simpa using this
  · rw [if_neg h]; simp [isEsc, isMark]; omega

section
variable {w0 w : World} {b : Nat} {s : ByteArray} {p : Nat} {d : Int}

theorem pDigit (h : Hid (PS w0 w b s p d)) (t : ByteArray) (ha : Asc t) (h4 : 4 ≤ t.size) (h60 : t.size ≤ 60) (z : Int) (hz : Hid (idxR t (hd (symsFrom s p)) = z)) :
    Calls Tryz.prog 132 #[.pointer (some ⟨b, 0, none⟩), .string t] w fun x w' => (z < 0 → x = .returned (.tuple #[.int .i64 0, .bool false]) ∧ Hid (PS w0 w' b s p d)) ∧ (0 ≤ z → x = .returned (.tuple #[.int .i64 z, .bool true]) ∧ ∃ p', Hid (PS w0 w' b s p' d) ∧ Hid (symsFrom s p' = (symsFrom s p).tail)) := by
  have HL := hide (pLook h)
  have HX := hide (fun w1 => indexRune_any t (hd (symsFrom s p)) w1 ha h4 h60 (symOr_hd s p (unhide h).le))
  rw [unhide hz] at HX
  generalize hd (symsFrom s p) = c at HL HX
  clear h ha hz
  by_cases hneg : z < 0
  · go_enter Tryz.func132, Tryz.ntmps132
    go_wp2_with (first
      | (go_at_call 94; refine (unhide HL).mono ?_; clear HL; rintro x w1 ⟨rfl, HS⟩)
      | (go_at_call 120; refine (unhide HX _).mono ?_; clear HX; rintro x w2 ⟨rfl, hb⟩; have HS2 := PS.below HS hb; clear hb))
    go_ret2
    exact ⟨fun _ => ⟨rfl, HS2⟩, fun h => absurd h (by omega)⟩
  · go_enter Tryz.func132, Tryz.ntmps132
    go_wp2_with (first
      | (go_at_call 94; refine (unhide HL).mono ?_; clear HL; rintro x w1 ⟨rfl, HS⟩)
      | (go_at_call 120; refine (unhide HX _).mono ?_; clear HX; rintro x w2 ⟨rfl, hb⟩; have HS2 := PS.below HS hb; clear hb)
      | (go_at_call 95; refine (pStep HS2).mono ?_; clear HS2; rintro x w3 ⟨rfl, p', HS3, HY⟩))
    go_ret2
    exact ⟨fun h => absurd h (by omega), fun _ => ⟨rfl, p', HS3, HY⟩⟩

theorem pDig_no (h : Hid (PS w0 w b s p d)) (hc : Hid (isDig (hd (symsFrom s p)) = false)) :
    Calls Tryz.prog 132 #[.pointer (some ⟨b, 0, none⟩), .string decLit] w fun x w' => x = .returned (.tuple #[.int .i64 0, .bool false]) ∧ Hid (PS w0 w' b s p d) := by
  refine (pDigit h decLit (asc_of _ (by decide)) (by decide) (by decide) (-1) (by show _ = _; rw [idx_dec, if_neg (by rw [unhide hc]; decide)])).mono ?_
  intro x w' hh; exact hh.1 (by decide)
theorem pDig_yes (h : Hid (PS w0 w b s p d)) {c : Int} (hcc : Hid (hd (symsFrom s p) = c)) (hc : Hid (isDig c = true)) :
    Calls Tryz.prog 132 #[.pointer (some ⟨b, 0, none⟩), .string decLit] w fun x w' => x = .returned (.tuple #[.int .i64 (c - 48), .bool true]) ∧ ∃ p', Hid (PS w0 w' b s p' d) ∧ Hid (symsFrom s p' = (symsFrom s p).tail) := by
  refine (pDigit h decLit (asc_of _ (by decide)) (by decide) (by decide) (c - 48) (by show _ = _; rw [unhide hcc, idx_dec, if_pos (unhide hc)])).mono ?_
  intro x w' hh
  exact hh.2 (by have := unhide hc; simp [isDig] at this; omega)

set_option maxRecDepth 100000 in
set_option maxHeartbeats 4000000 in
theorem pNumber (h : Hid (PS w0 w b s p d)) (least : Int) :
    Calls Tryz.prog 129 #[.pointer (some ⟨b, 0, none⟩), .int .i64 least] w (POut (numberS s.size least (symsFrom s p)) vInt w0 b s d) := by
  have hle := (unhide h).le
  obtain ⟨R, hR⟩ : ∃ R, numberS s.size least (symsFrom s p) = R := ⟨_, rfl⟩
  rw [hR]
  have HR := hide hR
  clear hR
  cases hc : isDig (hd (symsFrom s p))
  · have HX : Hid (R = .error (2, (p : Int))) := by show _ = _; rw [← unhide HR, numberS, hc, if_neg (by decide), bad, plc_syms hle]
    have HC := hide hc
    clear hc HR
    go_enter Tryz.func129, Tryz.ntmps129
    go_wp2_with (first
      | (go_at_call 132; refine (pDig_no h HC).mono ?_; rintro x w1 ⟨rfl, HS⟩)
      | (go_at_call 84; refine (pRefuse HS 2).mono ?_; rintro x w2 ⟨rfl, HU⟩))
    rw [unhide HX]
    exact ⟨rfl, rfl, HU⟩
  · obtain ⟨c, hcc⟩ : ∃ c, hd (symsFrom s p) = c := ⟨_, rfl⟩
    have HCC := hide hcc
    rw [hcc] at hc
    have hcr : 48 ≤ c ∧ c ≤ 57 := by simpa [isDig] using hc
    have HC := hide hc
    have HN : Hid (R = if (numV (symsFrom s p)).1 < least ∨ 12 < (numV (symsFrom s p)).1 then bad 3 s.size (numV (symsFrom s p)).2 else .ok (numV (symsFrom s p))) := by show _ = _; rw [← unhide HR, numberS, hcc, if_pos hc]
    obtain ⟨hcr1, hcr2⟩ := hcr
    clear hc HR
    by_cases hz : c = 48
    · subst hz
      have hv : numV (symsFrom s p) = (0, (symsFrom s p).tail) := by rw [numV, hcc, if_neg (by omega)]; rfl
      rw [hv] at HN
      have HV := HN
      clear HN hv hcc
      by_cases hbad : (0 : Int) < least ∨ 12 < (0 : Int)
      · have HX := hide ((unhide HV).trans (if_pos hbad))
        have hle1 : Hid (∀ q d', PS w0 w b s q d' → q ≤ s.size) := fun _ _ g => g.le
        rcases hbad with hb | hb
        all_goals
          go_enter Tryz.func129, Tryz.ntmps129
          go_wp2_with (first
          | (go_at_call 132; refine (pDig_yes h HCC HC).mono ?_; clear h; rintro x w1 ⟨rfl, p1, HS, HY1⟩)
          | (go_at_call 84; refine (pRefuse HS 3).mono ?_; rintro x w3 ⟨rfl, HU⟩))
          all_goals (rw [unhide HX, bad, ← unhide HY1, plc_syms (unhide HS).le]; exact ⟨rfl, rfl, HU⟩)
      · have HX := hide ((unhide HV).trans (if_neg hbad))
        have hb1 : ¬ (0 : Int) < least := by omega
        have hb2 : ¬ 12 < (0 : Int) := by omega
        clear hbad
        go_enter Tryz.func129, Tryz.ntmps129
        go_wp2_with (first
          | (go_at_call 132; refine (pDig_yes h HCC HC).mono ?_; clear h; rintro x w1 ⟨rfl, p1, HS, HY1⟩))
        go_ret
        rw [unhide HX]
        exact ⟨rfl, p1, HS, HY1⟩
    · obtain ⟨c2, hcc2⟩ : ∃ c2, hd (symsFrom s p).tail = c2 := ⟨_, rfl⟩
      have HCC2 := hide hcc2
      cases hc2 : isDig c2
      · have hv : numV (symsFrom s p) = (c - 48, (symsFrom s p).tail) := by rw [numV, hcc, hcc2, if_neg (by rw [hc2]; simp)]
        rw [hv] at HN
        have HV := HN
        have HC2 := hide hc2
        clear HN hv hcc hcc2 hc2
        by_cases hbad : c - 48 < least ∨ 12 < c - 48
        · have HX := hide ((unhide HV).trans (if_pos hbad))
          have hle1 : Hid (∀ q d', PS w0 w b s q d' → q ≤ s.size) := fun _ _ g => g.le
          rcases hbad with hb | hb
          all_goals
            go_enter Tryz.func129, Tryz.ntmps129
            go_wp2_with (first
            | (go_at_call 132; refine (pDig_yes h HCC HC).mono ?_; clear h; rintro x w1 ⟨rfl, p1, HS, HY1⟩)
            | (go_at_call 132; refine (pDig_no HS (by show isDig (hd (symsFrom s p1)) = false; rw [unhide HY1, unhide HCC2]; exact unhide HC2)).mono ?_; clear HS; rintro x w2 ⟨rfl, HS⟩)
            | (go_at_call 84; refine (pRefuse HS 3).mono ?_; rintro x w3 ⟨rfl, HU⟩))
            all_goals (rw [unhide HX, bad, ← unhide HY1, plc_syms (unhide HS).le]; exact ⟨rfl, rfl, HU⟩)
        · have HX := hide ((unhide HV).trans (if_neg hbad))
          have hb1 : ¬ c - 48 < least := by omega
          have hb2 : ¬ 12 < c - 48 := by omega
          clear hbad
          go_enter Tryz.func129, Tryz.ntmps129
          go_wp2_with (first
            | (go_at_call 132; refine (pDig_yes h HCC HC).mono ?_; clear h; rintro x w1 ⟨rfl, p1, HS, HY1⟩)
            | (go_at_call 132; refine (pDig_no HS (by show isDig (hd (symsFrom s p1)) = false; rw [unhide HY1, unhide HCC2]; exact unhide HC2)).mono ?_; clear HS; rintro x w2 ⟨rfl, HS⟩))
          go_ret
          rw [unhide HX]
          exact ⟨rfl, p1, HS, HY1⟩
      · have hv : numV (symsFrom s p) = (10 * (c - 48) + (c2 - 48), (symsFrom s p).tail.tail) := by rw [numV, hcc, hcc2, if_pos ⟨by omega, hc2⟩]
        rw [hv] at HN
        have HV := HN
        have HC2 := hide hc2
        have hc2r : 48 ≤ c2 ∧ c2 ≤ 57 := by simpa [isDig] using hc2
        obtain ⟨hc2a, hc2b⟩ := hc2r
        clear HN hv hcc hcc2 hc2
        by_cases hbad : 10 * (c - 48) + (c2 - 48) < least ∨ 12 < 10 * (c - 48) + (c2 - 48)
        · have HX := hide ((unhide HV).trans (if_pos hbad))
          have hle1 : Hid (∀ q d', PS w0 w b s q d' → q ≤ s.size) := fun _ _ g => g.le
          rcases hbad with hb | hb
          all_goals
            go_enter Tryz.func129, Tryz.ntmps129
            go_wp2_with (first
            | (go_at_call 132; refine (pDig_yes h HCC HC).mono ?_; clear h; rintro x w1 ⟨rfl, p1, HS, HY1⟩)
            | (go_at_call 132; refine (pDig_yes HS (by show hd (symsFrom s p1) = c2; rw [unhide HY1]; exact unhide HCC2) HC2).mono ?_; clear HS; rintro x w2 ⟨rfl, p2, HS, HY2'⟩; have HY2 : Hid (symsFrom s p2 = (symsFrom s p).tail.tail) := (by show _ = _; rw [unhide HY2', unhide HY1]))
            | (go_at_call 84; refine (pRefuse HS 3).mono ?_; rintro x w3 ⟨rfl, HU⟩))
            all_goals (rw [unhide HX, bad, ← unhide HY2, plc_syms (unhide HS).le]; exact ⟨rfl, rfl, HU⟩)
        · have HX := hide ((unhide HV).trans (if_neg hbad))
          have hb1 : ¬ 10 * (c - 48) + (c2 - 48) < least := by omega
          have hb2 : ¬ 12 < 10 * (c - 48) + (c2 - 48) := by omega
          clear hbad
          go_enter Tryz.func129, Tryz.ntmps129
          go_wp2_with (first
            | (go_at_call 132; refine (pDig_yes h HCC HC).mono ?_; clear h; rintro x w1 ⟨rfl, p1, HS, HY1⟩)
            | (go_at_call 132; refine (pDig_yes HS (by show hd (symsFrom s p1) = c2; rw [unhide HY1]; exact unhide HCC2) HC2).mono ?_; clear HS; rintro x w2 ⟨rfl, p2, HS, HY2'⟩; have HY2 : Hid (symsFrom s p2 = (symsFrom s p).tail.tail) := (by show _ = _; rw [unhide HY2', unhide HY1])))
          go_ret
          rw [unhide HX]
          exact ⟨rfl, p2, HS, HY2⟩
end
end Go.Proofs.YthopgbacdmgfgaaGreatDoor
