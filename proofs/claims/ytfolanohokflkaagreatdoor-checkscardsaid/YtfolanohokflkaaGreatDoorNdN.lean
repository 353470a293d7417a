import Derived.Test.YtfolanohokflkaaGreatDoorNdI
import Derived.Test.YtfolanohokflkaaGreatDoorPSame
import Derived.Test.YtfolanohokflkaaGreatDoorLoopA
import Derived.WalkKit
import Derived.WalkSpells
import Derived.WalkLawsBesides
import Derived.WalkMore
namespace Go.Proofs.YtfolanohokflkaaGreatDoor
open Go.RowKit

theorem good_one {a c : Int} (ha : isSym a = true) (hc : isSym c = true) (h : a ≤ c) : ∀ p ∈ [(a, c)], GoodP p := by intro p hp; simp at hp; subst hp; exact ⟨ha, hc, h⟩
theorem good_partG {n : Nat} {l : List Sy} (h : AllSym l) : Good (fun z => (∀ p ∈ z, GoodP p) ∧ 0 < z.length ∧ z.length ≤ 4) (partP n l) := by
  unfold partP
  split
  · exact Good.ok ⟨tidy_good (tidy_esc l), by unfold setEsc; split <;> decide⟩ h.tail.tail
  · have g := good_limit (n := n) h
    split
    · exact Good.err
    · rename_i a l1 e
      obtain ⟨ha, h1⟩ := g _ _ e
      split
      · have g2 := good_limit (n := n) h1.tail
        split
        · exact Good.err
        · rename_i b l2 e2
          obtain ⟨hb, h2⟩ := g2 _ _ e2
          split
          · exact Good.bad
          · exact Good.ok ⟨good_one ha hb (by omega), by simp, by simp⟩ h2
      · exact Good.ok ⟨good_one ha ha (Int.le_refl _), by simp, by simp⟩ h1
theorem partP_len {n : Nat} {l l1 : List Sy} {z : Spans} (h : partP n l = .ok (z, l1)) : l1.length < l.length := by
  have e := part_same n l
  rw [h] at e
  exact partS_len (y := ((), l1)) e
theorem canon_snoc {zs p : Spans} (hz : ∀ x ∈ zs, GoodP x) (hp : ∀ x ∈ p, GoodP x) : cupS (canonS zs) p = canonS (zs ++ p) := by
  have h1 := good_pos hz
  have h2 := good_pos hp
  have h3 : Pos (zs ++ p) := fun x hx => by rcases List.mem_append.1 hx with hx | hx; exact h1 x hx; exact h2 x hx
  refine tidy_ext (cupS_tidy (canon_tidy h1).pos h2) (canon_tidy h3) fun c hc => ?_
  rw [cupS_in (canon_tidy h1).pos h2 hc, canon_in h1 hc, canon_in h3 hc, inS_append]
theorem canonS_len (zs : Spans) : (canonS zs).length ≤ zs.length + 1 := by
  have := cupS_len [] zs
  simpa [canonS] using this
section
variable {w0 w : World} {b : Nat} {s : ByteArray} {d : Int} {l : List Sy}
theorem PL.grown {w' : World} {row : Option Nat} (h : Hid (PL w0 w b s d l)) (hg : w.grownBy w' row) (hrow : ∀ k, row = some k → w0.heap.size ≤ k ∧ b < k) : Hid (PL w0 w' b s d l) := by
  obtain ⟨p, g, e⟩ := unhide h
  have hlt := g.lt
  have hb2 := g.b2
  have hbl : ∀ k, k < w.heap.size → (k < w0.heap.size ∨ k ≤ b) → w'.heap[k]? = w.heap[k]? := fun k hk hk2 => hg.block k hk fun e' => by have := hrow k e'.symm; omega
  have hc : ∀ i v, w.cell? ⟨b, i, none⟩ = some v → w'.cell? ⟨b, i, none⟩ = some v := fun i v q => by
    rw [World.cell?_of_block (hbl b hlt (.inr (Nat.le_refl _)))]; exact q
  have hup := g.up.size
  refine ⟨p, ⟨hc _ _ g.c0, hc _ _ g.c1, hc _ _ g.c2, fun k => by rw [World.frozen?_of_block (hbl b hlt (.inr (Nat.le_refl _)))]; exact g.fz k, tabs_of g.tabs (hbl _ (by omega) (.inr (by omega))) (hbl _ (by omega) (.inr (by omega))), g.b2, ?_, g.le, g.small⟩, e⟩
  exact ⟨hg.os.trans g.up.os, hg.tape.trans g.up.tape, hg.output.trans g.up.output, Nat.le_trans hup hg.size, fun k hk hkb => (hbl k (by omega) (.inl hk)).trans (g.up.block k hk hkb)⟩
/-- how many symbols are left, read off the memory. -/
def left (s : ByteArray) (b : Nat) (w : World) : Nat := match w.cell? ⟨b, 1, none⟩ with
  | some (.int _ n) => (symsFrom s n.toNat).length
  | _ => 0
theorem PL.left (h : Hid (PL w0 w b s d l)) : left s b w = l.length := by
  obtain ⟨p, h1, rfl⟩ := unhide h
  rw [Proofs.YtfolanohokflkaaGreatDoor.left, h1.c1]
  rfl
/-- 'm = append(m, more...)', both slices of pieces of the call's own. -/
theorem app_pcs {ops : Array Oper} {rest : List Oper} {o : Oper} {a : Act} {Q : Exit → Act → World → Prop} (B B' : Nat) (wr : World) (zs p : List (Int × Int)) (v x : Value) (so xo : Operand) (hg : o.guard = none)
    (hop : o.op = .call { callee := .builtin .append, args := #[so, xo], argTypes := #[237, 237] }) (hs : a.eval so = v) (hx : a.eval xo = x)
    (ho : Hid (wr.ownsRow B 248 2 v zs.length (pcCells zs))) (ho2 : Hid (wr.ownsRow B' 248 2 x p.length (pcCells p))) (hp : 0 < p.length) (hB : B ≤ wr.heap.size) (hl : zs.length + p.length ≤ 2000000)
    (K : ∀ ao n cap w', Hid (w'.ownsRow B 248 2 (.slice ao n cap) (zs ++ p).length (pcCells (zs ++ p))) → Hid (wr.grownBy w' v.ownBlock) → wpList Tryz.prog ops Q rest (a.put o.dst (.slice ao n cap)) w') :
    wpList Tryz.prog ops Q (o :: rest) a wr := by
  obtain ⟨i0, hi0, hz0, hz1, hz2⟩ := info_parts infoPiece
  obtain ⟨g, cap, rfl, -, -⟩ := (unhide ho2).form hp
  refine wpList_append_own _ hg so xo 237 hop B 248 i0 (.agg #[.int .i32 0, .int .i32 0]) 2 8 Tryz.underlying237 hi0 hz0 hz1 hz2 rfl (by decide) _ _ _ hs (unhide ho) ⟨g, 0, none⟩ p.length cap (pcCells p) hx (pcCells_length p) ((unhide ho2).cells rfl) ?_ (by unfold maxLen; omega) (by omega) hB ?_
  · intro u hu
    have : ∀ q : List (Int × Int), ∀ u ∈ pcCells q, u.oneCell' = true := by
      intro q
      induction q with
      | nil => intro u hu; simp [pcCells] at hu
      | cons y q ih => intro u hu; simp only [pcCells, List.mem_cons] at hu; rcases hu with rfl | rfl | hu; rfl; rfl; exact ih u hu
    exact this p u hu
  · intro v' w' h1 h2 _
    have h3 : w'.ownsRow B 248 2 v' (zs ++ p).length (pcCells (zs ++ p)) := by
      rw [pcCells_append, List.length_append]; exact h1
    obtain ⟨ao, cap, rfl, -⟩ := own_view h3
    exact K ao _ cap w' h3 h2
/-- between two rounds of a class. -/
def ClsP (R : Res Spans) (w wr : World) (b : Nat) (s : ByteArray) (d : Int) (v : Value) : Prop :=
  ∃ f l zs, classLoopP s.size f (canonS zs) l = R ∧ l.length < f ∧ (∀ p ∈ zs, GoodP p) ∧ zs.length + 4 * l.length ≤ 240 ∧ Hid (wr.ownsRow w.heap.size 248 2 v zs.length (pcCells zs)) ∧ Hid (PL w wr b s d l)
theorem canon_nil : canonS [] = [] := by decide +kernel
end
end Go.Proofs.YtfolanohokflkaaGreatDoor

namespace Go.Proofs.YtfolanohokflkaaGreatDoor
open Go.RowKit
abbrev vSet (z : Spans) : Value := .string (encS z)
section
variable {w0 w : World} {b : Nat} {s : ByteArray} {d : Int} {l : List Sy}
theorem own_far {w wr w2 : World} {b : Nat} {v : Value} {zs : Spans} (ho : Hid (wr.ownsRow w.heap.size 248 2 v zs.length (pcCells zs))) (hb : b < w.heap.size) (hu : Up b wr w2) : Hid (w2.ownsRow w.heap.size 248 2 v zs.length (pcCells zs)) :=
  own_up (unhide ho) hu fun e => by have := ((unhide ho).lt _ e).1; omega

set_option maxRecDepth 100000 in
set_option maxHeartbeats 8000000 in
theorem qClass (h : Hid (PL w0 w b s d l)) (hc : Hid (hd l = 91)) :
    Calls Tryz.prog 328 #[.pointer (some ⟨b, 0, none⟩)] w (OutV (classP s.size l.tail) vSet w0 b s d) := by
  have hbw := PL.lt h
  have hl60 := PL.len h
  have HJ : Hid (∀ w' l', Hid (PL w w' b s d l') → Hid (PL w0 w' b s d l')) := fun w' l' h' => PL.join (PL.up h) h'
  have HJU : Hid (∀ w', Hid (Up b w w') → Hid (Up b w0 w')) := fun w' h' => (PL.up h).trans (unhide h')
  have hB := PL.base h
  clear h
  obtain ⟨tb, R0, h94, hR⟩ : ∃ (tb : Bool) (R0 : Res Spans), (tb = true ↔ hd l.tail = 94) ∧ classLoopP s.size (l.tail.length + 1) [] (if tb = true then l.tail.tail else l.tail) = R0 ∧ classP s.size l.tail = if tb = true then turnR R0 else R0 := by
    by_cases e : hd l.tail = 94
    · exact ⟨true, _, by simp [e], rfl, by rw [classP, if_pos e]; rfl⟩
    · exact ⟨false, _, by simp [e], rfl, by rw [classP, if_neg e]; rfl⟩
  obtain ⟨hL, hR⟩ := hR
  rw [hR]
  clear hR
  have HM : Hid (∀ w1, Hid (PL w w1 b s d l.tail) → Calls Tryz.prog 219 #[.pointer (some ⟨b, 0, none⟩), .int .i32 94] w1 fun x w' => x = .returned (.bool tb) ∧ Hid (ClsP R0 w w' b s d (.slice none 0 0))) := by
    intro w1 h1
    have t1 := tail_le l
    have t2 := tail_le l.tail
    cases tb with
    | true =>
      refine (qMet_yes h1 94 (h94.1 rfl)).mono ?_
      rintro x w' ⟨rfl, h2⟩
      exact ⟨rfl, _, _, [], by rw [canon_nil]; exact hL, by show l.tail.tail.length < _; omega, by simp, by show _ + 4 * l.tail.tail.length ≤ _; simp only [List.length_nil]; omega, World.ownsRow_nil _ _ _ _, h2⟩
    | false =>
      refine (qMet_no h1 94 (by show ¬ _; intro e; exact absurd (h94.2 e) (by decide))).mono ?_
      rintro x w' ⟨rfl, h2⟩
      exact ⟨rfl, _, _, [], by rw [canon_nil]; exact hL, by show l.tail.length < _; omega, by simp, by show _ + 4 * l.tail.length ≤ _; simp only [List.length_nil]; omega, World.ownsRow_nil _ _ _ _, h2⟩
  clear hL h94
  cases tb
  all_goals
    go_enter Tryz.func328, Tryz.ntmps328
    go_wp2_with (first
      | (go_at_call 148; refine (qTake_yes hB 91 hc).mono ?_; clear hB; rintro x w1 ⟨rfl, HS⟩)
      | (go_at_call 219; refine (unhide HM _ HS).mono ?_; clear HM HS; rintro x w2 ⟨rfl, HP⟩))
    go_loopw [4] (fun v wr => ∃ ao n cap, v = .slice ao n cap ∧ Hid (ClsP R0 w wr b s d v)) (fun _ wr => left s b wr)
    case atStart => exact ⟨_, _, _, rfl, HP⟩
    case round =>
      clear HP hc
      obtain ⟨ao, n, cap, rfl, HC⟩ := hrel
      obtain ⟨f, l', zs, hf, hlt, hgd, hzl, HO, HS⟩ := unhide HC
      obtain ⟨f, rfl⟩ : ∃ f', f = f' + 1 := ⟨f - 1, by omega⟩
      have HL := hide (PL.left HS)
      have HGD := hide hgd
      rw [classLoopP] at hf
      by_cases h93 : hd l' = 93
      · rw [if_pos h93] at hf
        have H93 := hide h93
        have hcl := canonS_len zs
        have HT := hide (canon_tidy (good_pos hgd))
        clear h93 hgd HL HC
        subst hf
        go_wp2_with (first
          | (go_at_call 219; refine (qMet_yes (PL.base HS) 93 H93).mono ?_; rintro x w2 ⟨rfl, HS2⟩; have HO2 := own_far HO hbw (PL.up HS2); have HS3 := PL.join (PL.up HS) HS2; clear HS HS2 HO)
          | (go_at_call 160; refine (setOf_any w2 _ zs (by omega) (pcs_of_own (unhide HO2)) (unhide HGD)).mono ?_; rintro e w4 ⟨rfl, hb4⟩; have HS4 := PL.below HS3 hb4; clear hb4 HS3)
          | (go_at_call 156; refine (others_any w4 (canonS zs) (by omega) (unhide HT)).mono ?_; rintro e w5 ⟨rfl, hb5⟩; have HS5 := PL.below HS4 hb5; clear hb5 HS4))
        go_ret
        first | exact ⟨rfl, unhide HJ _ _ HS5⟩ | exact ⟨rfl, unhide HJ _ _ HS4⟩
      · rw [if_neg h93] at hf
        have H93 := hide h93
        clear h93 HC
        cases hp : partP s.size l' with
        | error y =>
          rw [hp] at hf
          have HX : Hid (R0 = .error y) := hf.symm
          have HPT := hide hp
          clear hf hp HL
          go_wp2_with (first
            | (go_at_call 219; refine (qMet_no HS 93 H93).mono ?_; clear HS; rintro x w2 ⟨rfl, HS⟩)
            | (go_at_call 337; refine (outP_err (qPart HS) HPT).mono ?_; rintro x w2 ⟨rfl, HU⟩))
          rw [unhide HX]
          exact ⟨rfl, rfl, unhide HJU _ HU⟩
        | ok y =>
          obtain ⟨p, l1⟩ := y
          rw [hp] at hf
          dsimp only at hf
          have hlen := partP_len hp
          obtain ⟨hpg, hp0, hp4⟩ := (good_partG (PL.allSym HS) _ _ hp).1
          rw [canon_snoc hgd hpg] at hf
          have HX := hide hf
          have HPG := hide hpg
          have HPT := hide hp
          clear hf hp hgd hpg
          go_wp2_with (first
            | (go_at_call 219; refine (qMet_no (PL.base HS) 93 H93).mono ?_; rintro x w2 ⟨rfl, HS2⟩; have HO2 := own_far HO hbw (PL.up HS2); have HS3 := PL.join (PL.up HS) HS2; clear HS HS2 HO)
            | (go_at_call 337; refine (outP_ok (qPart (PL.base HS3)) HPT).mono ?_; rintro x w3 ⟨pv, rfl, HRW, HS4⟩; have HO3 := own_far HO2 hbw (PL.up HS4); have HS5 := PL.join (PL.up HS3) HS4; have hsz := (PL.up HS5).size; clear HS3 HS4 HO2)
            | (at_builtin; refine app_pcs w.heap.size (b + 1) w3 zs p _ pv (.tmp 12) (.tmp 14) rfl rfl rfl rfl HO3 HRW hp0 hsz (by omega) ?_; intro ao4 n4 cap4 w4 HO4 HG4; have HS6 := PL.grown HS5 (unhide HG4) (fun k hk => by have := ((unhide HO3).lt k hk).1; omega); clear HS5 HG4 HO3 HRW))
          go_roundw
          case rel => exact ⟨_, _, _, rfl, f, l1, zs ++ p, unhide HX, by omega, fun x hx => by rcases List.mem_append.1 hx with hx | hx; exact unhide HGD x hx; exact unhide HPG x hx, by rw [List.length_append]; omega, HO4, HS6⟩
          case measure =>
            have e1 := PL.left HS6
            have e2 := unhide HL
            show left s b _ < left s b _
            omega
end
end Go.Proofs.YtfolanohokflkaaGreatDoor

namespace Go.Proofs.YtfolanohokflkaaGreatDoor
open Go.RowKit
theorem enc_every : encS everyL = ⟨#[0, 244, 143, 191, 191]⟩ := by decide +kernel
theorem canon_one {c : Int} (h : isSym c = true) : canonS [(c, c)] = [(c, c)] := by
  have hg := good_one h h (Int.le_refl _)
  exact tidy_ext (canon_tidy (good_pos hg)) (tidy_one h) fun x hx => canon_in (good_pos hg) hx
section
variable {w0 w : World} {b : Nat} {s : ByteArray} {d : Int} {l : List Sy}
theorem pcs_one (w : World) (lo hi : Int) : PcsAt (w.alloc (.cells #[.int .i32 lo, .int .i32 hi] 248)).heap.size (w.alloc (.cells #[.int .i32 lo, .int .i32 hi] 248)) (.slice (some ⟨w.heap.size, 0, none⟩) 1 1) [(lo, hi)] := by
  have h : (w.alloc (.cells #[.int .i32 lo, .int .i32 hi] 248)).ownsRow w.heap.size 248 2 (.slice (some ⟨w.heap.size, 0, none⟩) 1 1) [(lo, hi)].length (pcCells [(lo, hi)]) :=
    World.ownsRow_lit w #[.int .i32 lo, .int .i32 hi] 1 (Nat.le_refl _) (by decide) rfl
  exact pcs_of_own h
theorem setOf_one (w : World) {c : Int} (h : isSym c = true) : Calls Tryz.prog 160 #[.slice (some ⟨w.heap.size, 0, none⟩) 1 1] (w.alloc (.cells #[.int .i32 c, .int .i32 c] 248)) fun e w' => e = .returned (vSet [(c, c)]) ∧ Below w.heap.size w w' := by
  refine (setOf_any _ _ [(c, c)] (by simp) (pcs_one w c c) (good_one h h (Int.le_refl _))).mono ?_
  rintro e w' ⟨rfl, hb⟩
  rw [canon_one h]
  have h1 : Below w.heap.size w (w.alloc (.cells #[.int .i32 c, .int .i32 c] 248)) := (Below.refl _ w).alloc (Nat.le_refl _) _
  exact ⟨rfl, h1.trans (hb.mono (by simp))⟩
theorem leaf_symbol {n : Nat} {l : List Sy} (h1 : ¬ hd l = 91) (h2 : ¬ hd l = 46) (h3 : isSet l = false) : leafP n l = oneR (symbolS n l) := by
  unfold leafP symbolS
  rw [if_neg h1]
  split
  · rw [if_neg (by rw [h3]; decide)]
  · split <;> rfl
theorem good_symbol {n : Nat} {l : List Sy} (h : AllSym l) : Good SymV (symbolS n l) := by
  unfold symbolS
  split
  · exact good_escape h.tail
  · split
    · exact Good.bad
    · rename_i hn
      exact Good.ok (h.hd fun e => hn (.inl e)) h.tail

set_option maxRecDepth 100000 in
set_option maxHeartbeats 8000000 in
theorem qSingle (h : Hid (PL w0 w b s d l)) :
    Calls Tryz.prog 321 #[.pointer (some ⟨b, 0, none⟩)] w (OutV (leafP s.size l) vSet w0 b s d) := by
  obtain ⟨R, hR⟩ : ∃ R, leafP s.size l = R := ⟨_, rfl⟩
  rw [hR]
  by_cases h91 : hd l = 91
  · have HC := hide h91
    rw [leafP, if_pos h91] at hR
    have HR := hide hR
    clear hR h91
    cases R with
    | error y =>
      go_enter Tryz.func321, Tryz.ntmps321
      go_wp2_with (first
        | (go_at_call 251; refine (qLook h HC).mono ?_; clear h; rintro x w1 ⟨rfl, HS⟩)
        | (go_at_call 328; refine (outV_err (qClass HS HC) HR).mono ?_; rintro x w2 ⟨rfl, HU⟩))
      exact ⟨rfl, rfl, HU⟩
    | ok y =>
      obtain ⟨z, l1⟩ := y
      go_enter Tryz.func321, Tryz.ntmps321
      go_wp2_with (first
        | (go_at_call 251; refine (qLook h HC).mono ?_; clear h; rintro x w1 ⟨rfl, HS⟩)
        | (go_at_call 328; refine (outV_ok (qClass HS HC) HR).mono ?_; clear HS; rintro x w2 ⟨rfl, HS⟩))
      go_ret
      exact ⟨rfl, HS⟩
  · obtain ⟨c, hcc⟩ : ∃ c, hd l = c := ⟨_, rfl⟩
    have HCC := hide hcc
    have k1 : (c == 91) = false := by rw [← hcc]; simpa using h91
    by_cases h46 : hd l = 46
    · have HD := hide h46
      have HX : Hid (R = .ok (everyL, l.tail)) := by show _ = _; rw [← hR, leafP, if_neg h91, if_neg (by omega), if_pos h46]
      clear h46 h91 hcc hR
      go_enter Tryz.func321, Tryz.ntmps321
      go_wp2_with (first
        | (go_at_call 251; refine (qLook h HCC).mono ?_; clear h; rintro x w1 ⟨rfl, HS⟩)
        | (go_at_call 219; refine (qMet_yes HS 46 HD).mono ?_; clear HS; rintro x w2 ⟨rfl, HS⟩))
      go_ret
      rw [unhide HX]
      exact ⟨(by show _ = Ending.returned (.string (encS everyL)); rw [enc_every]; rfl), HS⟩
    · have HD := hide h46
      cases hs : isSet l with
      | true =>
        have h92 : hd l = 92 := by have : hd l = 92 ∧ (hd l.tail = 100 ∨ hd l.tail = 119) := by simpa [isSet] using hs
                                   exact this.1
        have HX : Hid (R = .ok (setEsc l, l.tail.tail)) := by show _ = _; rw [← hR, leafP, if_neg h91, if_pos h92, if_pos hs]
        have HN := hide hs
        clear h92 h46 h91 hcc hR hs
        go_enter Tryz.func321, Tryz.ntmps321
        go_wp2_with (first
          | (go_at_call 251; refine (qLook h HCC).mono ?_; clear h; rintro x w1 ⟨rfl, HS⟩)
          | (go_at_call 219; refine (qMet_no HS 46 HD).mono ?_; clear HS; rintro x w2 ⟨rfl, HS⟩)
          | (go_at_call 329; refine (qSeveral_yes HS HN).mono ?_; clear HS; rintro x w3 ⟨rfl, HS⟩))
        go_ret
        rw [unhide HX]
        exact ⟨rfl, HS⟩
      | false =>
        rw [leaf_symbol h91 h46 hs] at hR
        have HN := hide hs
        have hsy := good_symbol (n := s.size) (PL.allSym h)
        clear h46 h91 hcc hs
        cases hq : symbolS s.size l with
        | error y =>
          rw [hq] at hR
          have HX : Hid (R = .error y) := hR.symm
          have HQ := hide hq
          clear hq hR hsy
          go_enter Tryz.func321, Tryz.ntmps321
          go_wp2_with (first
            | (go_at_call 251; refine (qLook h HCC).mono ?_; clear h; rintro x w1 ⟨rfl, HS⟩)
            | (go_at_call 219; refine (qMet_no HS 46 HD).mono ?_; clear HS; rintro x w2 ⟨rfl, HS⟩)
            | (go_at_call 329; refine (qSeveral_no HS HN).mono ?_; clear HS; rintro x w3 ⟨rfl, HS⟩)
            | (go_at_call 330; refine (outV_err (qSymbol HS) HQ).mono ?_; rintro x w4 ⟨rfl, HU⟩))
          rw [unhide HX]
          exact ⟨rfl, rfl, HU⟩
        | ok y =>
          obtain ⟨z, l1⟩ := y
          rw [hq] at hR
          have HX : Hid (R = .ok ([(z, z)], l1)) := hR.symm
          have hz : isSym z = true := (hsy _ _ hq).1
          have HSO := hide (fun W : World => setOf_one W hz)
          have HQ := hide hq
          clear hq hR hsy hz
          go_enter Tryz.func321, Tryz.ntmps321
          go_wp2_with (first
            | (go_at_call 251; refine (qLook h HCC).mono ?_; clear h; rintro x w1 ⟨rfl, HS⟩)
            | (go_at_call 219; refine (qMet_no HS 46 HD).mono ?_; clear HS; rintro x w2 ⟨rfl, HS⟩)
            | (go_at_call 329; refine (qSeveral_no HS HN).mono ?_; clear HS; rintro x w3 ⟨rfl, HS⟩)
            | (go_at_call 330; refine (outV_ok (qSymbol HS) HQ).mono ?_; clear HS; rintro x w4 ⟨rfl, HS⟩)
            | (go_at_call 160; refine (unhide HSO w4).mono ?_; rintro x w5 ⟨rfl, hb5⟩; have HS5 := PL.below HS hb5; clear hb5))
          go_ret
          rw [unhide HX]
          exact ⟨rfl, HS5⟩
end
end Go.Proofs.YtfolanohokflkaaGreatDoor

namespace Go.Proofs.YtfolanohokflkaaGreatDoor
open Go.RowKit
/-! a node in a block of its own -/
def setNd (w : World) (rb : Nat) (n : Nd) : World :=
  ((((((w.setCell ⟨rb, 0, none⟩ (.int .i64 n.sh)).setCell ⟨rb, 1, none⟩ (.slice n.pa n.pn n.pc)).setCell ⟨rb, 2, none⟩ (.string n.ss)).setCell ⟨rb, 3, none⟩ (.int .i64 n.le)).setCell ⟨rb, 4, none⟩ (.int .i64 n.mo)).setCell ⟨rb, 5, none⟩ (.int .i64 n.fa)).setCell ⟨rb, 6, none⟩ (.int .i64 n.sz)
def NdAt (w : World) (rb : Nat) (n : Nd) : Prop := w.heap[rb]? = some (.cells (cNd n).toArray 65 (0, 0))
def nd0 : Nd := ⟨0, none, 0, 0, ⟨#[]⟩, 0, 0, 0, 0⟩
abbrev obNd (n : Nd) : Obj := .cells #[.int .i64 n.sh, .slice n.pa n.pn n.pc, .string n.ss, .int .i64 n.le, .int .i64 n.mo, .int .i64 n.fa, .int .i64 n.sz] 65
theorem NdAt.new (w : World) (n : Nd) : NdAt (w.alloc (obNd n)) w.heap.size n := heap_alloc_new w _
section
variable {w : World} {rb : Nat} {n m : Nd}
theorem setNd_other {k : Nat} (hk : k ≠ rb) : (setNd w rb n).heap[k]? = w.heap[k]? := by
  unfold setNd
  iterate 7 rw [Below.heap_setCell _ _ _ k hk]
theorem setNd_size : (setNd w rb n).heap.size = w.heap.size := by simp [setNd, World.setCell]
theorem NdAt.lt (h : NdAt w rb n) : rb < w.heap.size := (Array.getElem?_eq_some_iff.1 h).1
theorem NdAt.set (h : NdAt w rb m) : NdAt (setNd w rb n) rb n := by
  have h0 := heap_setCell_same w rb 0 _ _ (.int .i64 n.sh) h
  have h1 := heap_setCell_same _ rb 1 _ _ (.slice n.pa n.pn n.pc) h0
  have h2 := heap_setCell_same _ rb 2 _ _ (.string n.ss) h1
  have h3 := heap_setCell_same _ rb 3 _ _ (.int .i64 n.le) h2
  have h4 := heap_setCell_same _ rb 4 _ _ (.int .i64 n.mo) h3
  have h5 := heap_setCell_same _ rb 5 _ _ (.int .i64 n.fa) h4
  have h6 := heap_setCell_same _ rb 6 _ _ (.int .i64 n.sz) h5
  unfold NdAt setNd
  rw [h6]
  simp [cNd]
theorem NdAt.cells (h : NdAt w rb n) : w.cell? ⟨rb, 0, none⟩ = some (.int .i64 n.sh) ∧ w.cell? ⟨rb, 1, none⟩ = some (.slice n.pa n.pn n.pc) ∧ w.cell? ⟨rb, 2, none⟩ = some (.string n.ss) ∧ w.cell? ⟨rb, 3, none⟩ = some (.int .i64 n.le) ∧ w.cell? ⟨rb, 4, none⟩ = some (.int .i64 n.mo) ∧ w.cell? ⟨rb, 5, none⟩ = some (.int .i64 n.fa) ∧ w.cell? ⟨rb, 6, none⟩ = some (.int .i64 n.sz) := by
  have e : w.heap[rb]? = _ := h
  refine ⟨?_, ?_, ?_, ?_, ?_, ?_, ?_⟩ <;> simp [World.cell?, e, cNd]
theorem NdAt.fz (h : NdAt w rb n) (j : Nat) : w.frozen? ⟨rb, j, none⟩ = false := by
  have e : w.heap[rb]? = _ := h
  simp [World.frozen?, e]
theorem NdAt.move {w' : World} (h : NdAt w rb n) (e : w'.heap[rb]? = w.heap[rb]?) : NdAt w' rb n := e.trans h
theorem NdAt.up {w' : World} {b : Nat} (h : Hid (NdAt w rb n)) (hu : Up b w w') (hb : rb ≠ b) : Hid (NdAt w' rb n) := (hu.block rb (NdAt.lt (unhide h)) hb).trans (unhide h)
theorem NdAt.alloc (h : Hid (NdAt w rb n)) (o : Obj) : Hid (NdAt (w.alloc o) rb n) := NdAt.move (unhide h) (Below.heap_alloc w o rb (NdAt.lt (unhide h)))
end
section
variable {w0 w : World} {b : Nat} {s : ByteArray} {d : Int} {l : List Sy}
theorem PL.setNd (h : Hid (PL w0 w b s d l)) {rb : Nat} (h0 : w0.heap.size ≤ rb) (hb : b < rb) (n : Nd) : Hid (PL w0 (setNd w rb n) b s d l) :=
  PL.set (PL.set (PL.set (PL.set (PL.set (PL.set (PL.set h h0 hb 0 _) h0 hb 1 _) h0 hb 2 _) h0 hb 3 _) h0 hb 4 _) h0 hb 5 _) h0 hb 6 _
theorem pl_exit7 {w' : World} {o : Obj} {l' : List Sy} (h : Hid (PL w0 w b s d l)) (h' : Hid (PL (w.alloc o) w' b s d l')) (n : Nd) : Hid (PL w0 (Proofs.YtfolanohokflkaaGreatDoor.setNd w' w.heap.size n) b s d l') :=
  PL.setNd (PL.join ((PL.up h).trans (up_alloc w o)) h') (PL.up h).size (PL.lt h) n
/-- what calls of a part of the reader answer, from any world. -/
def PartC (f : Nat) (sub : List Sy → Res Pn) (b : Nat) (s : ByteArray) (d : Int) : Prop :=
  ∀ w l, Hid (PL w w b s d l) → Calls Tryz.prog f #[.pointer (some ⟨b, 0, none⟩)] w (OutN (sub l) w b s d)
theorem outN_base {R : Res Pn} {x : Ending} {w' : World} (h : Hid (PL w0 w b s d l)) (hx : OutN R w b s d x w') : OutN R w0 b s d x w' := by
  have hsz := (PL.up h).size
  cases R with
  | error y => exact ⟨hx.1, (PL.up h).trans (unhide hx.2)⟩
  | ok y =>
    obtain ⟨n, e, h1, h2⟩ := hx
    exact ⟨n, e, NodeOK.move h1 fun k hk _ => ⟨rfl, Nat.le_trans hsz hk⟩, PL.join (PL.up h) h2⟩
/-- the end of a call whose result lies in a block of its own. -/
theorem node_ret {fn : Func} {Q : Ending → World → Prop} {a : Act} {W : World} {rb : Nat} {n : Nd} (t : Nat) (hr : fn.results = #[.cell t 65]) (ht : a.tmps.getD t undef = .pointer (some ⟨rb, 0, none⟩)) (hd : a.defers = []) (hat : Hid (NdAt W rb n)) (hq : Q (.returned (vNd n)) W) : bodyPost Tryz.prog fn Q .ret a W := by
  obtain ⟨k0, k1, k2, k3, k4, k5, k6⟩ := NdAt.cells (unhide hat)
  refine bodyPost_ret (v := vNd n) ?_ hd hq
  have ht' : a.tmps[t]?.getD undef = .pointer (some ⟨rb, 0, none⟩) := by simpa using ht
  simp [results, hr, ht', go_sem, k0, k1, k2, k3, k4, k5, k6, vNd]

end
end Go.Proofs.YtfolanohokflkaaGreatDoor

namespace Go.Proofs.YtfolanohokflkaaGreatDoor
open Go.RowKit
section
variable {w0 w : World} {b : Nat} {s : ByteArray} {d : Int} {l : List Sy}
set_option maxRecDepth 100000 in
set_option maxHeartbeats 8000000 in
theorem qLeaf (h : Hid (PL w w b s d l)) (hn : ¬ hd l = 40) :
    Calls Tryz.prog 304 #[.pointer (some ⟨b, 0, none⟩)] w (OutN (nodeR (leafP s.size l)) w b s d) := by
  obtain ⟨R, hR⟩ : ∃ R, leafP s.size l = R := ⟨_, rfl⟩
  rw [hR]
  obtain ⟨c, hcc⟩ : ∃ c, hd l = c := ⟨_, rfl⟩
  have HCC := hide hcc
  have k1 : (c == 40) = false := by rw [← hcc]; simpa using hn
  have HS0 := pl_entry h (obNd nd0)
  have HAT := hide (NdAt.new w nd0)
  have hne : w.heap.size ≠ b := by have := PL.lt h; omega
  have HUE : Hid (∀ w', Hid (Up b (w.alloc (obNd nd0)) w') → Hid (Up b w w')) := fun w' hu => up_entry h hu
  have HPE : Hid (∀ w' l' n, Hid (PL (w.alloc (obNd nd0)) w' b s d l') → Hid (PL w (setNd w' w.heap.size n) b s d l')) := fun w' l' n h' => pl_exit7 h h' n
  have HR := hide hR
  clear hR hcc hn h
  cases R with
  | error y =>
    go_enter Tryz.func304, Tryz.ntmps304
    go_wp2_with (first
      | (go_at_call 251; refine (qLook HS0 HCC).mono ?_; clear HS0; rintro x w1 ⟨rfl, HS⟩)
      | (go_at_call 321; refine (outV_err (qSingle HS) HR).mono ?_; rintro x w2 ⟨rfl, HU⟩))
    exact ⟨rfl, rfl, unhide HUE _ HU⟩
  | ok y =>
    obtain ⟨z, l1⟩ := y
    go_enter Tryz.func304, Tryz.ntmps304
    go_wp2_with (first
      | (go_at_call 251; refine (qLook HS0 HCC).mono ?_; clear HS0; rintro x w1 ⟨rfl, HS⟩)
      | (go_at_call 321; refine (outV_ok (qSingle HS) HR).mono ?_; clear HS; rintro x w2 ⟨rfl, HS⟩; have HA2 := NdAt.up HAT (PL.up HS) hne; obtain ⟨c0, c1, c2, c3, c4, c5, c6⟩ := NdAt.cells (unhide HA2); have f0 := NdAt.fz (unhide HA2)))
    change bodyPost _ _ _ _ _ (setNd w2 w.heap.size ⟨0, none, 0, 0, encS z, 0, 0, 0, 1⟩)
    refine node_ret (rb := w.heap.size) (n := ⟨0, none, 0, 0, encS z, 0, 0, 0, 1⟩) 2 rfl rfl rfl (hide (NdAt.set (unhide HA2))) ?_
    exact ⟨_, rfl, ⟨rfl, .set rfl rfl rfl⟩, unhide HPE _ _ _ HS⟩
end
end Go.Proofs.YtfolanohokflkaaGreatDoor
