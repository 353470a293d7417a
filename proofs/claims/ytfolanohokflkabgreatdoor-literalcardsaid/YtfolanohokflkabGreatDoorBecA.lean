import Derived.Test.YtfolanohokflkabGreatDoorSvF
import Derived.WalkKit
import Derived.WalkSpells
import Derived.WalkLawsBesides
import Derived.WalkMore
import Derived.Test.YtfolanohokflkabGreatDoorNdL
import Derived.Test.YtfolanohokflkabGreatDoorBsA
import Derived.Test.YtfolanohokflkabGreatDoorMeetA
import Derived.Test.YtfolanohokflkabGreatDoorTabH
import Derived.Deep.QuietTactic
import Derived.BigQuiet
import Derived.BigRegion
import Derived.Deep.RegionHeld3
/-
  Whether a set has a symbol.
-/
namespace Go.Proofs.YtfolanohokflkabGreatDoor
open Go.RowKit
theorem inS_take {l : Spans} {c : Int} {k : Nat} (h : k < l.length) (h0 : inS (l.take k) c = false) : inS (l.take (k + 1)) c = decide (l[k].1 ≤ c ∧ c ≤ l[k].2) := by
  rw [List.take_succ_eq_append_getElem h]
  unfold inS at *
  rw [List.any_append, h0]
  simp
theorem inS_true {l : Spans} {c : Int} {k : Nat} (h : k < l.length) (h0 : l[k].1 ≤ c ∧ c ≤ l[k].2) : inS l c = true := by
  unfold inS
  exact List.any_eq_true.2 ⟨l[k], List.getElem_mem h, by simp [h0.1, h0.2]⟩

set_option maxRecDepth 100000 in
set_option maxHeartbeats 4000000 in
theorem has_any (w : World) (l : Spans) (c : Int) (hl : l.length ≤ 900) (ht : Tidy l) :
    Calls Tryz.prog 117 #[.string (encS l), .int .i32 c] w fun e w' => e = .returned (.bool (inS l c)) ∧ Below w.heap.size w w' := by
  have hP := pieces_any w l (by omega) (tidy_good ht)
  have HP := hide hP
  clear hP ht
  generalize encS l = s at HP
  go_enter Tryz.func117, Tryz.ntmps117
  go_wp2_with (go_at_call 149; refine (unhide HP).mono ?_; clear HP; rintro e w1 ⟨v, rfl, hrow, hb⟩; have HB1 := hide hb; obtain ⟨av, cv, rfl, hvw⟩ := own_view hrow; have HVW := hide hvw; clear hrow hb hvw)
  go_loopw [10] (fun i wr => ∃ k : Nat, k ≤ l.length ∧ i = .int .i64 k ∧ Hid (inS (l.take k) c = false) ∧ Hid (Below w1.heap.size w1 wr)) (fun i _ => l.length - (intOf i).toNat)
  case atStart => exact ⟨0, Nat.zero_le _, rfl, rfl, Below.refl _ _⟩
  case round =>
    obtain ⟨k, hk, rfl, HI, HB⟩ := hrel
    by_cases hlt : k < l.length
    · obtain ⟨g, rfl, -, hg, hc, -⟩ := unhide HVW (by omega)
      have hget := pcCells_get l k hlt
      have c1 := hc (k * 2) (by omega)
      have c2 := hc (k * 2 + 1) (by omega)
      rw [hget.1, ← (unhide HB).cell (p := ⟨g, k * 2, none⟩) hg] at c1
      rw [hget.2, ← (unhide HB).cell (p := ⟨g, k * 2 + 1, none⟩) hg] at c2
      have HT := hide (inS_take (c := c) hlt (unhide HI))
      have HW := hide (fun h0 => inS_true (c := c) hlt h0)
      have HB2 := hide ((unhide HB).alloc (unhide HB).size (.cells #[.int .i32 l[k].1, .int .i32 l[k].2] 199))
      clear hget hc HVW HI HB
      generalize l[k].1 = lo at *
      generalize l[k].2 = hi at *
      by_cases h1 : lo ≤ c
      · by_cases h2 : c ≤ hi
        · go_wp2_with fail
          go_ret
          exact ⟨by rw [unhide HW ⟨h1, h2⟩]; rfl, (unhide HB1).trans ((unhide HB2).mono (unhide HB1).size)⟩
        · have d2 : decide (c ≤ hi) = false := by simpa using h2
          go_wp2_with fail
          go_roundw
          case rel => exact ⟨k + 1, by omega, by go_num, (by show _ = _; rw [unhide HT]; simp [h2]), HB2⟩
          case measure => simp [intOf]; omega
      · have d1 : decide (lo ≤ c) = false := by simpa using h1
        go_wp2_with fail
        go_roundw
        case rel => exact ⟨k + 1, by omega, by go_num, (by show _ = _; rw [unhide HT]; simp [h1]), HB2⟩
        case measure => simp [intOf]; omega
    · have hkl : k = l.length := by omega
      subst hkl
      rw [List.take_length] at HI
      go_wp2_with fail
      go_ret
      exact ⟨by rw [unhide HI]; rfl, (unhide HB1).trans ((unhide HB).mono (unhide HB1).size)⟩
end Go.Proofs.YtfolanohokflkabGreatDoor

/-
  The borders of a set.
-/
namespace Go.Proofs.YtfolanohokflkabGreatDoor
open Go.RowKit
/-- 'm = append(m, c)', m a slice of runes of the call's own. -/
theorem app_rune {ops : Array Oper} {rest : List Oper} {o : Oper} {a : Act} {Q : Exit → Act → World → Prop} (w wr : World) (zs : List Int) (v : Value) (c : Int) (s x : Operand) (hg : o.guard = none)
    (hop : o.op = .call { callee := .builtin .append, args := #[s, x], argTypes := #[114, 114] }) (hs : a.eval s = v) (H : Nat) (hH : wr.heap.size = H) (hx : a.eval x = .slice (some ⟨H, 0, none⟩) 1 1)
    (ho : Hid (wr.ownsRow w.heap.size 21 1 v zs.length (runeCells zs))) (hb : Hid (Below w.heap.size w wr)) (hl : zs.length ≤ 2000000)
    (K : ∀ ao cap w', Hid (w'.ownsRow w.heap.size 21 1 (.slice ao (zs.length + 1) cap) (zs.length + 1) (runeCells (zs ++ [c]))) → Hid (Below w.heap.size w w') → wpList Tryz.prog ops Q rest (a.put o.dst (.slice ao (zs.length + 1) cap)) w') :
    wpList Tryz.prog ops Q (o :: rest) a (wr.alloc (.cells #[.int .i32 c] 21)) := by
  obtain ⟨i0, hi0, hz0, hz1, hz2⟩ := info_parts infoRune
  subst hH
  have hown := unhide ho
  have hb' : Below w.heap.size w wr := hb
  have := hb'.size
  refine wpList_append_own _ hg s x 114 hop w.heap.size 21 i0 (.int .i32 0) 1 4 Tryz.underlying114 hi0 hz0 hz1 hz2 rfl (by decide) _ _ _ hs (hown.alloc _) ⟨wr.heap.size, 0, none⟩ 1 1 [.int .i32 c] hx rfl (cells_new wr [.int .i32 c] _) (by intro u hu; simp at hu; rw [hu]; rfl) (by unfold maxLen; omega) (by omega) (by simp; omega) ?_
  intro v' w' h1 h2 _
  have h3 : w'.ownsRow w.heap.size 21 1 v' (zs.length + 1) (runeCells (zs ++ [c])) := by
    rw [show runeCells (zs ++ [c]) = runeCells zs ++ [.int .i32 c] from by simp [runeCells]]
    exact h1
  obtain ⟨ao, cap, rfl, -⟩ := own_view h3
  exact K ao cap w' h3 (below_append hb' hown h2 hb'.size)
theorem below_grown {B : Nat} {w wr w1 : World} {e size n : Nat} {v : Value} {xs : List Value} (hb : Below B w wr) (ho : wr.ownsRow B e size v n xs) (hg : wr.grownBy w1 v.ownBlock) (hB : B ≤ wr.heap.size) : Below B w w1 :=
  ⟨hg.os.trans hb.os, hg.tape.trans hb.tape, hg.output.trans hb.output, Nat.le_trans hb.size hg.size, fun k hk => (hg.block k (by omega) (fun e => by have := (ho.lt k e.symm).1; omega)).trans (hb.block k hk)⟩
theorem own_rebase {w : World} {B e size g n cap : Nat} {xs : List Value} (h : w.ownsRow 0 e size (.slice (some ⟨g, 0, none⟩) n cap) n xs) (hB : B ≤ g) : w.ownsRow B e size (.slice (some ⟨g, 0, none⟩) n cap) n xs := by
  obtain ⟨hl, ⟨hv, _⟩ | ⟨g', cap', cur, hv, _, rest⟩⟩ := h
  · cases hv
  · have e : g' = g := by injection hv with e; injection e with e; injection e with e; exact e.symm
    subst e
    exact ⟨hl, .inr ⟨g', cap', cur, hv, hB, rest⟩⟩
theorem Rn.below {B : Nat} {w0 w w1 : World} {g n cap : Nat} {l : List Int} (h : Rn w w1 g n cap l) (hb : Below B w0 w) (hB : B ≤ g) : Below B w0 w1 :=
  ⟨h.os.trans hb.os, h.tape.trans hb.tape, h.output.trans hb.output, by rw [h.size]; exact hb.size, fun k hk => (h.block k (by omega)).trans (hb.block k hk)⟩
/-- the lows of a set's pieces and of the gaps between them. -/
def lowsP (l : Spans) : List Int := (l ++ othS l).map (·.1)
def bordersP (l : Spans) : List Int := insTo ((lowsP l).length - 1) (lowsP l)

set_option maxRecDepth 100000 in
set_option maxHeartbeats 4000000 in
theorem borders_few (w : World) (l : Spans) (hl : (l ++ othS l).length ≤ 12) (ht : Tidy l) (ho : 0 < (othS l).length) (hot : Tidy (othS l)) :
    Calls Tryz.prog 119 #[.string (encS l)] w fun e w' => ∃ g cap, e = .returned (.slice (some ⟨g, 0, none⟩) (lowsP l).length cap) ∧ Hid (w'.ownsRow w.heap.size 21 1 (.slice (some ⟨g, 0, none⟩) (lowsP l).length cap) (lowsP l).length (runeCells (bordersP l))) ∧ Hid (Below w.heap.size w w') := by
  have hlen : (l ++ othS l).length = l.length + (othS l).length := List.length_append
  have HP := hide (pieces_any w l (by omega) (tidy_good ht))
  have HO := hide (fun w1 => others_any w1 l (by omega) ht)
  have HP2 := hide (fun w2 => pieces_any w2 (othS l) (by omega) (tidy_good hot))
  have HBP : Hid (bordersP l = insTo ((lowsP l).length - 1) (lowsP l)) := rfl
  have HLP : Hid (lowsP l = (l ++ othS l).map (·.1)) := rfl
  generalize bordersP l = BP at HBP ⊢
  generalize lowsP l = LP at HBP HLP ⊢
  generalize encS l = s at HP HO
  generalize encS (othS l) = s2 at HO HP2
  clear ht hot
  go_enter Tryz.func119, Tryz.ntmps119
  go_wp2_with (first
    | (go_at_call 149; refine (unhide HP).mono ?_; clear HP; rintro e w1 ⟨v1, rfl, hrow, hb⟩; have HB1 := hide hb; have HR1 := hide hrow; clear hrow hb)
    | (go_at_call 153; refine (unhide HO _).mono ?_; clear HO; rintro e w2 ⟨rfl, hb⟩; have HB2 := hide hb; clear hb)
    | (go_at_call 149; refine (unhide HP2 _).mono ?_; clear HP2; rintro e w3 ⟨v3, rfl, hrow, hb⟩; have HB3 := hide hb; have HR3 := hide hrow; clear hrow hb; have HR1' := hide (own_below (own_below (unhide HR1) (unhide HB2) (Nat.le_refl _)) (unhide HB3) (Nat.le_refl _)); have hs3 : w.heap.size ≤ w3.heap.size := Nat.le_trans (unhide HB1).size (Nat.le_trans (unhide HB2).size (unhide HB3).size))
    | (at_builtin; refine app_pcs w.heap.size w2.heap.size w3 l (othS l) v1 v3 (.tmp 7) (.tmp 10) rfl rfl rfl rfl HR1' HR3 ho hs3 (by omega) ?_; intro ao4 n4 cap4 w4 HO4 HG4))
  have HB4 : Hid (Below w.heap.size w w4) := by
    have b1 := unhide HB1
    have b2 := b1.trans ((unhide HB2).mono b1.size)
    have b3 := b2.trans ((unhide HB3).mono b2.size)
    exact below_grown b3 (unhide HR1') (unhide HG4) hs3
  have hpos : 0 < (l ++ othS l).length := by omega
  generalize l ++ othS l = L at *
  obtain ⟨ao5, cap5, e5, hvw⟩ := own_view (unhide HO4)
  injection e5 with e6 e7 e8
  subst e6
  subst e7
  subst e8
  have HVW := hide hvw
  clear hvw HO4 HG4 HR1' HR3 HR1 HB1 HB2 HB3 hs3 hlen ho
  have hN : L.length ≤ 12 := hl
  go_loopw [3, 13] (fun v i wr => ∃ (k : Nat) (av : Option Addr) (n cv : Nat), k ≤ L.length ∧ i = .int .i64 (k : Int) ∧ v = .slice av n cv ∧ Hid (n = k) ∧ Hid (wr.ownsRow w4.heap.size 21 1 (.slice av n cv) k (runeCells ((L.take k).map (·.1)))) ∧ Hid (Below w4.heap.size w4 wr)) (fun _ i _ => L.length - (intOf i).toNat)
  case atStart => exact ⟨0, none, 0, 0, Nat.zero_le _, rfl, rfl, rfl, World.ownsRow_nil _ _ _ _, Below.refl _ _⟩
  case round =>
    obtain ⟨k, av, n, cv, hk, rfl, rfl, HN, HOW, HB⟩ := hrel
    by_cases hlt : k < L.length
    · obtain ⟨g, rfl, -, hg, hc, -⟩ := unhide HVW (by omega)
      have hget := pcCells_get L k hlt
      have c1 := hc (k * 2) (by omega)
      have c2 := hc (k * 2 + 1) (by omega)
      rw [hget.1, ← (unhide HB).cell (p := ⟨g, k * 2, none⟩) hg] at c1
      rw [hget.2, ← (unhide HB).cell (p := ⟨g, k * 2 + 1, none⟩) hg] at c2
      have HTK := hide (show ((L.take (k + 1)).map (·.1) : List Int) = (L.take k).map (·.1) ++ [L[k].1] from by rw [List.take_succ_eq_append_getElem hlt, List.map_append]; rfl)
      have HKL := hide (show ((L.take k).map (·.1) : List Int).length = k from by rw [List.length_map, List.length_take]; omega)
      clear hget hc HVW
      generalize L[k].1 = lo at *
      generalize L[k].2 = hi at *
      have HB' := hide ((unhide HB).alloc (unhide HB).size (.cells #[.int .i32 lo, .int .i32 hi] 199))
      have HO' := hide ((unhide HOW).alloc (.cells #[.int .i32 lo, .int .i32 hi] 199))
      have q0 := box_c0 wr lo hi 0
      clear HB HOW
      have HO2 : Hid ((wr.alloc (.cells #[.int .i32 lo, .int .i32 hi] 199)).ownsRow w4.heap.size 21 1 (.slice av n cv) ((L.take k).map (·.1)).length (runeCells ((L.take k).map (·.1)))) := by
        rw [unhide HKL]
        exact HO'
      clear HO'
      generalize hTK : (L.take k).map (·.1) = TK at *
      have hTl : TK.length ≤ 2000000 := by have := unhide HKL; omega
      go_wp2_with (at_builtin; refine app_rune w4 (wr.alloc (.cells #[.int .i32 lo, .int .i32 hi] 199)) TK _ lo (.tmp 17) (.tmp 20) rfl rfl rfl (wr.heap.size + 1) (by simp) rfl HO2 HB' hTl ?_; intro ao1 cap1 w6 HO6 HB6)
      go_roundw
      case rel => exact ⟨k + 1, ao1, _, cap1, by omega, by go_num, rfl, (by show _ = _; rw [unhide HKL]), (by rw [unhide HTK]; rw [unhide HKL] at HO6 ⊢; exact HO6), HB6⟩
      case measure => simp [intOf]; omega
    · obtain rfl : k = L.length := by omega
      obtain rfl : n = L.length := unhide HN
      rw [List.take_length, ← unhide HLP] at HOW
      have hLP : LP.length = L.length := by rw [unhide HLP, List.length_map]
      obtain ⟨ao7, cap7, e7, hv7⟩ := own_view (unhide HOW)
      injection e7 with e8 e9 e10
      subst e8
      subst e10
      obtain ⟨g, rfl, hgb, hglt, -, -⟩ := hv7 hpos
      have HRn : Hid (Rn wr wr g L.length cv LP) := ⟨own_base (unhide HOW) (Nat.zero_le _), hLP, rfl, rfl, rfl, rfl, fun _ _ => rfl⟩
      have HS := hide (sort_rune wr g L.length cv LP hN HRn)
      have hw4 : w.heap.size ≤ w4.heap.size := (unhide HB4).size
      clear HVW HOW HRn
      go_wp2_with (go_at_call 185; refine (unhide HS).mono ?_; rintro e w7 ⟨rfl, HR7⟩)
      go_ret
      refine ⟨g, cv, by rw [hLP]; rfl, ?_, ?_⟩
      · rw [unhide HBP, hLP]
        exact own_rebase (unhide HR7).own (by omega)
      · exact (unhide HR7).below ((unhide HB4).trans ((unhide HB).mono hw4)) (by omega)
end Go.Proofs.YtfolanohokflkabGreatDoor

/-
  The symbols that a term tells apart: of sets, of the empty word, of chains that begin with a set.
-/
namespace Go.Proofs.YtfolanohokflkabGreatDoor
open Go.RowKit
/-- a set of few pieces, as it is kept. -/
structure IsSet (st : ByteArray) (l : Spans) : Prop where
  enc : st = encS l
  tidy : Tidy l
  few : (l ++ othS l).length ≤ 12
  oth : 0 < (othS l).length
  otidy : Tidy (othS l)
  rise : (bordersP l).Pairwise (· < ·)
  zero : (bordersP l).getD 0 1 = 0
  wf : ∀ y ∈ bordersP l, (Lit.int .i32 y).wf = true
  sy : ∀ y ∈ bordersP l, isSym y = true
  same : ∀ (c : Int) (i : Nat), isSym c = true → Bs (bordersP l) c (i + 1) (i + 1) → ¬ (i + 1 < (bordersP l).length ∧ (bordersP l).getD (i + 1) 0 = c) → inS l c = inS l ((bordersP l).getD i 0)
/-- what a term tells apart. -/
def ClsR (T : List Te) (n : Nat) (l : Spans) : Prop := ∃ x, T[n]? = some x ∧
  ((x.1.kd = 0 ∧ IsSet x.1.st l) ∨ (x.1.kd = 1 ∧ l = []) ∨ (x.1.kd = 2 ∧ ∃ (i : Nat) (y : Te), x.1.fi = (i : Int) ∧ T[i]? = some y ∧ i < n ∧ y.2 = false ∧ y.1.kd = 0 ∧ IsSet y.1.st l))
/-- the row of runes lies there, apart from the table. -/
structure RowAt (w : World) (t : TB) (g cap : Nat) (lows : List Int) : Prop where
  own : w.ownsRow 0 21 1 (.slice (some ⟨g, 0, none⟩) lows.length cap) lows.length (runeCells lows)
  apart : ¬ TF t g
theorem RowAt.lt {w : World} {t : TB} {g cap : Nat} {lows : List Int} (h : RowAt w t g cap lows) : g < w.heap.size := (h.own.lt g rfl).2
theorem RowAt.move {w w' : World} {t : TB} {g cap : Nat} {lows : List Int} (h : RowAt w t g cap lows) (e : w'.heap[g]? = w.heap[g]?) : RowAt w' t g cap lows := by
  refine ⟨?_, h.apart⟩
  obtain ⟨hl, hx | ⟨g', cap', cur, hv, hb', hg, rest⟩⟩ := h.own
  · exact ⟨hl, .inl hx⟩
  · have e' : g' = g := by injection hv with e; injection e with e; injection e with e; exact e.symm
    subst e'
    exact ⟨hl, .inr ⟨g', cap', cur, hv, hb', e.trans hg, rest⟩⟩
/-- the map of what terms tell apart. -/
def CV (w : World) (t : TB) (T : List Te) (C : List (Value × Value)) : Prop :=
  (C.map (·.1)).Nodup ∧ ∀ p ∈ C, ∃ (n g cap : Nat) (l : Spans), p = (.int .i64 (n : Int), .slice (some ⟨g, 0, none⟩) (bordersP l).length cap) ∧ n ≤ LIM ∧ ClsR T n l ∧ RowAt w t g cap (bordersP l)
theorem CV.move {w w' : World} {t : TB} {T : List Te} {C : List (Value × Value)} (h : Hid (CV w t T C)) (hm : ∀ k, k < w.heap.size → ¬ TF t k → w'.heap[k]? = w.heap[k]?) : Hid (CV w' t T C) := by
  refine ⟨(unhide h).1, fun p hp => ?_⟩
  obtain ⟨n, g, cap, l, e, h1, h2, h3⟩ := (unhide h).2 p hp
  exact ⟨n, g, cap, l, e, h1, h2, h3.move (hm g h3.lt h3.apart)⟩
theorem CV.keys {w : World} {t : TB} {T : List Te} {C : List (Value × Value)} (h : CV w t T C) : ∀ p ∈ C, ∃ x, keyOf Tryz.prog 3 p.1 = some x := fun p hp => by
  obtain ⟨n, g, cap, l, e, h1, -⟩ := h.2 p hp
  rw [e]
  exact intKey h1
/-- what a call on the classes comes to. -/
def COut (T : List Te) (n : Nat) (w : World) (t : TB) (S C : List (Value × Value)) (ok : Nat → Prop) (e : Ending) (w' : World) : Prop :=
  ∃ (l : Spans) (g cap : Nat) (C' : List (Value × Value)), e = .returned (.slice (some ⟨g, 0, none⟩) (bordersP l).length cap) ∧ ClsR T n l ∧ Hid (RowAt w' t g cap (bordersP l)) ∧ Hid (Tab w' t T (numPairs T) S C') ∧ Hid (CV w' t T C') ∧ Hid (TFr t t w w') ∧ ∀ p ∈ C', p ∈ C ∨ ∃ i, ok i ∧ p.1 = .int .i64 ((i : Nat) : Int)
theorem lowsP_len (l : Spans) : (bordersP l).length = (lowsP l).length := by unfold bordersP; rw [insTo_len]

section
variable {w : World} {t : TB} {T : List Te} {S C : List (Value × Value)} {k : Ky}
set_option maxRecDepth 100000 in
set_option maxHeartbeats 4000000 in
theorem cls_set {n : Nat} {b : Bool} (h : Hid (Tab w t T (numPairs T) S C)) (hc : Hid (CV w t T C)) (hx : T[n]? = some (k, b)) (hk : k.kd = 0) {l : Spans} (hs : IsSet k.st l) (ok : Nat → Prop) :
    Calls Tryz.prog 118 #[.pointer (some ⟨t.tb, 0, none⟩), vKy k] w (COut T n w t S C ok) := by
  obtain ⟨kd, st, fi, se⟩ := k
  have hcls : ClsR T n l := ⟨_, hx, .inl ⟨hk, hs⟩⟩
  have HBD := hide (borders_few (w.alloc (.cells #[.int .i64 kd, .string st, .int .i64 fi, .int .i64 se] 99)) l hs.few hs.tidy hs.oth hs.otidy)
  have hst : st = encS l := hs.enc
  subst hst
  unfold vKy
  dsimp only
  have hsz : w.heap.size < (w.alloc (.cells #[.int .i64 kd, .string (encS l), .int .i64 fi, .int .i64 se] 99)).heap.size := by simp
  have HA : Hid (Below w.heap.size w (w.alloc (.cells #[.int .i64 kd, .string (encS l), .int .i64 fi, .int .i64 se] 99))) := (Below.refl _ _).alloc (Nat.le_refl _) _
  clear hx hs hk
  generalize encS l = es at *
  go_enter Tryz.func118, Tryz.ntmps118
  go_wp2_with (go_at_call 119; refine (unhide HBD).mono ?_; clear HBD; rintro e w2 ⟨g, cap, rfl, HO, HB⟩)
  go_ret
  have hb2 : Below w.heap.size w w2 := (unhide HA).trans ((unhide HB).mono (by omega))
  have hgb := ((unhide HO).lt g rfl).1
  have hnot : ¬ TF t g := Tab.new_not h (by omega)
  refine ⟨l, g, cap, C, by rw [lowsP_len]; rfl, hcls, ?_, Tab.below h hb2, CV.move hc (fun k hk _ => hb2.block k hk), TFr.below hb2, fun p hp => .inl hp⟩
  refine ⟨?_, hnot⟩
  rw [lowsP_len]
  exact own_base (unhide HO) (Nat.zero_le _)
end
end Go.Proofs.YtfolanohokflkabGreatDoor

namespace Go.Proofs.YtfolanohokflkabGreatDoor
open Go.RowKit
theorem isSet_nil : IsSet ⟨#[]⟩ [] := by
  refine ⟨rfl, trivial, ?_, ?_, ?_, ?_, ?_, ?_, ?_, fun _ _ _ _ _ => rfl⟩
  · decide
  · decide
  · exact othS_tidy pos_nil
  · decide
  · decide
  · decide
  · decide
theorem ClsR.set {T : List Te} {n : Nat} {l : Spans} (h : ClsR T n l) : ∃ st, IsSet st l := by
  obtain ⟨x, _, ⟨_, h2⟩ | ⟨_, rfl⟩ | ⟨_, i, y, _, _, _, _, _, h7⟩⟩ := h
  · exact ⟨_, h2⟩
  · exact ⟨_, isSet_nil⟩
  · exact ⟨_, h7⟩
section
variable {w : World} {t : TB} {T : List Te} {N S C : List (Value × Value)} {k : Ky}
set_option maxRecDepth 100000 in
set_option maxHeartbeats 4000000 in
theorem cls_empty {n : Nat} {b : Bool} (h : Hid (Tab w t T (numPairs T) S C)) (hc : Hid (CV w t T C)) (hx : T[n]? = some (k, b)) (hk : k.kd = 1) (ok : Nat → Prop) :
    Calls Tryz.prog 122 #[.pointer (some ⟨t.tb, 0, none⟩), vKy k] w (COut T n w t S C ok) := by
  obtain ⟨kd, st, fi, se⟩ := k
  have hcls : ClsR T n [] := ⟨_, hx, .inr (.inl ⟨hk, rfl⟩)⟩
  have HBD := hide (borders_few (w.alloc (.cells #[.int .i64 kd, .string st, .int .i64 fi, .int .i64 se] 99)) [] isSet_nil.few isSet_nil.tidy isSet_nil.oth isSet_nil.otidy)
  rw [show encS [] = ⟨#[]⟩ from rfl] at HBD
  unfold vKy
  dsimp only
  have hsz : w.heap.size < (w.alloc (.cells #[.int .i64 kd, .string st, .int .i64 fi, .int .i64 se] 99)).heap.size := by simp
  have HA : Hid (Below w.heap.size w (w.alloc (.cells #[.int .i64 kd, .string st, .int .i64 fi, .int .i64 se] 99))) := (Below.refl _ _).alloc (Nat.le_refl _) _
  clear hx hk
  go_enter Tryz.func122, Tryz.ntmps122
  go_wp2_with (go_at_call 119; refine (unhide HBD).mono ?_; clear HBD; rintro e w2 ⟨g, cap, rfl, HO, HB⟩)
  go_ret
  have hb2 : Below w.heap.size w w2 := (unhide HA).trans ((unhide HB).mono (by omega))
  have hgb := ((unhide HO).lt g rfl).1
  have hnot : ¬ TF t g := Tab.new_not h (by omega)
  refine ⟨[], g, cap, C, by rw [lowsP_len]; rfl, hcls, ?_, Tab.below h hb2, CV.move hc (fun k hk _ => hb2.block k hk), TFr.below hb2, fun p hp => .inl hp⟩
  refine ⟨?_, hnot⟩
  rw [lowsP_len]
  exact own_base (unhide HO) (Nat.zero_le _)

theorem Tab.classed (h : Tab w t T N S C) (C' : List (Value × Value)) : Tab (ChangeMaps.setBlock w t.cb (mkMap C')) t T N S C' := by
  obtain ⟨n1, n2, n3, n4, n5, n6⟩ := h.ne
  refine ⟨(set_other n3).trans h.tb, (set_other n5).trans h.nb, (set_other n6).trans h.sb, set_same (h.foot (.inr (.inr (.inr (.inl rfl))))), ?_, h.ne, h.nr, h.ok, h.nd⟩
  obtain ⟨hl, hx | ⟨g, cap, cur, hv, hb', hg, rest⟩⟩ := h.row
  · exact ⟨hl, .inl hx⟩
  · refine ⟨hl, .inr ⟨g, cap, cur, hv, hb', ?_, rest⟩⟩
    have hne : g ≠ t.cb := by injection hv with e; exact (h.nr _ e).2.2.2
    exact (set_other hne).trans hg
theorem CV.add {n g cap : Nat} {l : Spans} (h : CV w t T C) (hn : n ≤ LIM) (hcl : ClsR T n l) (hr : RowAt w t g cap (bordersP l)) (hm : ∀ p ∈ C, p.1 ≠ .int .i64 (n : Int)) : CV w t T (C ++ [(.int .i64 (n : Int), .slice (some ⟨g, 0, none⟩) (bordersP l).length cap)]) := by
  refine ⟨?_, fun p hp => ?_⟩
  · rw [List.map_append]
    refine List.nodup_append.2 ⟨h.1, by simp, fun a ha c hc e => ?_⟩
    obtain ⟨p, hp, rfl⟩ := List.mem_map.1 ha
    simp at hc
    exact hm p hp (e.trans hc)
  · rcases List.mem_append.1 hp with hp | hp
    · exact h.2 p hp
    · rw [List.mem_singleton] at hp
      exact ⟨n, g, cap, l, hp, hn, hcl, hr⟩
/-- what the classes' function of a term's kind answers. -/
def ClsF (T : List Te) (n : Nat) (t : TB) (S C : List (Value × Value)) (k : Ky) (f : Nat) : Prop := ∀ W : World, Hid (Tab W t T (numPairs T) S C) → Hid (CV W t T C) → Calls Tryz.prog f #[.pointer (some ⟨t.tb, 0, none⟩), vKy k] W (COut T n W t S C (fun i => i < n))

set_option maxRecDepth 100000 in
set_option maxHeartbeats 4000000 in
theorem classesOf_any {n m f : Nat} {b : Bool} (h : Hid (Tab w t T (numPairs T) S C)) (hc : Hid (CV w t T C)) (hx : T[n]? = some (k, b)) (hn : n ≤ LIM) (hkd : k.kd = (m : Int)) (hm7 : m < 7) (hcell : kindCells[m * 3 + 2]? = some (fv f))
    (hcf : ∀ (args : Array Value) (w : World), (callFunc f args).run Tryz.prog w = .ok (.enter f args) w) (HF : Hid (ClsF T n t S C k f)) :
    Calls Tryz.prog 80 #[.pointer (some ⟨t.tb, 0, none⟩), .int .i64 n] w (COut T n w t S C (fun i => i ≤ n)) := by
  obtain ⟨q1, q2, q3, q4⟩ := (unhide h).cells
  by_cases hit : ∃ p ∈ C, p.1 = .int .i64 (n : Int)
  · obtain ⟨p, hp, hpn⟩ := hit
    obtain ⟨n', g, cap, l, e, h1, h2, h3⟩ := (unhide hc).2 p hp
    have hnn : n' = n := by
      rw [e] at hpn
      injection hpn with _ hpn
      omega
    subst hnn
    obtain ⟨j, hj⟩ := List.mem_iff_getElem?.1 hp
    rw [e] at hj
    have hlk := look_hit intKeyed Tryz.underlying92 (unhide h).cb (unhide hc).keys (intKey hn) (unhide hc).1 hj
    have HE : Hid (COut T n' w t S C (fun i => i ≤ n') (.returned (.slice (some ⟨g, 0, none⟩) (bordersP l).length cap)) w) := ⟨l, g, cap, C, rfl, h2, h3, h, hc, TFr.refl _ _, fun p hp => .inl hp⟩
    clear h hc hx hkd hcell hcf HF h1 h2 h3 e hp hpn
    go_enter Tryz.func80, Tryz.ntmps80
    go_wp2_with fail
    go_ret
    exact unhide HE
  · have hmiss : ∀ p ∈ C, p.1 ≠ .int .i64 (n : Int) := fun p hp e => hit ⟨p, hp, e⟩
    have hlk := look_miss intKeyed Tryz.underlying92 (unhide h).cb (unhide hc).keys (intKey hn) hmiss (z := .slice none 0 0) (by simp [go_sem])
    obtain ⟨gt, q5, a0, a1, a2, a3, -⟩ := (unhide h).at hx
    rw [hkd] at a0
    have hlt : n < T.length := (List.getElem?_eq_some_iff.1 hx).1
    have hnI : (n : Int) < (T.length : Int) := by omega
    have hn0 : (0 : Int) ≤ (n : Int) := by omega
    have hm0 : (0 : Int) ≤ (m : Int) := by omega
    have hmI : (m : Int) < 7 := by omega
    obtain ⟨kd, st, fi, se⟩ := k
    dsimp only at hkd a0 a1 a2 a3
    subst hkd
    have HA := Tab.alloc h (.cells #[.int .i64 m, .string st, .int .i64 fi, .int .i64 se] 99)
    have HFr : Hid (TFr t t w (w.alloc (.cells #[.int .i64 m, .string st, .int .i64 fi, .int .i64 se] 99))) := TFr.below ((Below.refl _ _).alloc (Nat.le_refl _) _)
    have HCA := CV.move (w' := w.alloc (.cells #[.int .i64 m, .string st, .int .i64 fi, .int .i64 se] 99)) hc (fun k hk _ => Below.heap_alloc w _ k hk)
    have HFC := hide (fun q => unhide HF _ (hide ((unhide HA).drew q)) (CV.move (w' := (w.alloc (.cells #[.int .i64 m, .string st, .int .i64 fi, .int .i64 se] 99)).drewN q) HCA (fun _ _ _ => rfl)))
    unfold vKy at HFC
    dsimp only at HFC
    have HKB := hide (heap_alloc_new w (.cells #[.int .i64 m, .string st, .int .i64 fi, .int .i64 se] 99))
    have hnot : ¬ TF t w.heap.size := Tab.new_not h (Nat.le_refl _)
    have hltk : w.heap.size < (w.alloc (.cells #[.int .i64 m, .string st, .int .i64 fi, .int .i64 se] 99)).heap.size := by simp
    have qk := (unhide HA).kind hcell
    have HCELL := hide hcell
    clear h hc hx HF HCA hit hcell hm7 q2
    go_enter Tryz.func80, Tryz.ntmps80
    go_wp2_with fail
    generalize w.alloc (.cells #[.int .i64 m, .string st, .int .i64 fi, .int .i64 se] 99) = Wk at *
    obtain ⟨k0, k1, k2, k3⟩ := ky_cells (unhide HKB)
    clear q1 q3 q4 q5 a0 a1 a2 a3 hlk HA
    generalize hkb : w.heap.size = kb at *
    go_region_held3 (fun w' => w'.cell? ⟨kb, 0, none⟩ = some (.int .i64 m) ∧ w'.cell? ⟨kb, 1, none⟩ = some (.string st) ∧ w'.cell? ⟨kb, 2, none⟩ = some (.int .i64 fi) ∧ w'.cell? ⟨kb, 3, none⟩ = some (.int .i64 se) ∧ w'.cell? ⟨t.tb, m * 3 + 2, none⟩ = some (fv f)) (go_keep)
      ((refine Calls.mono (unhide HFC 1) ?_; clear HFC; rintro x w2 ⟨l, g2, cap2, C2, rfl, hcl, HRow, HT2, HC2, HF2, hk2⟩; obtain ⟨r0, r1, r2, r3⟩ := ky_cells (TFr.own HF2 hltk hnot (unhide HKB)); have rk := (unhide HT2).kind (unhide HCELL); obtain ⟨p1, p2, p3, p4⟩ := (unhide HT2).cells))
    have hmiss2 : ∀ p ∈ C2, p.1 ≠ .int .i64 (n : Int) := fun p hp e => by
      rcases hk2 p hp with h1 | ⟨i, hi, h1⟩
      · exact hmiss p h1 e
      · rw [h1] at e
        injection e with _ e
        omega
    have hup := put_new intKeyed Tryz.underlying92 (unhide HT2).cb (unhide HC2).keys (intKey hn) hmiss2 (.slice (some ⟨g2, 0, none⟩) (bordersP l).length cap2)
    have HT3 := hide ((unhide HT2).classed (C2 ++ [(.int .i64 (n : Int), .slice (some ⟨g2, 0, none⟩) (bordersP l).length cap2)]))
    have hcbF : TF t t.cb := .inr (.inr (.inr (.inl rfl)))
    have HC3 : Hid (CV (ChangeMaps.setBlock w2 t.cb (mkMap (C2 ++ [(.int .i64 (n : Int), .slice (some ⟨g2, 0, none⟩) (bordersP l).length cap2)]))) t T (C2 ++ [(.int .i64 (n : Int), .slice (some ⟨g2, 0, none⟩) (bordersP l).length cap2)])) := by
      refine CV.move (hide ((unhide HC2).add hn hcl (unhide HRow) hmiss2)) fun k hk hf => set_other (fun e => hf (by rw [e]; exact hcbF))
    have HR3 : Hid (RowAt (ChangeMaps.setBlock w2 t.cb (mkMap (C2 ++ [(.int .i64 (n : Int), .slice (some ⟨g2, 0, none⟩) (bordersP l).length cap2)]))) t g2 cap2 (bordersP l)) := (unhide HRow).move (set_other (fun e => (unhide HRow).apart (by rw [e]; exact hcbF)))
    have hf2 := unhide HF2
    have HF3 : Hid (TFr t t w (ChangeMaps.setBlock w2 t.cb (mkMap (C2 ++ [(.int .i64 (n : Int), .slice (some ⟨g2, 0, none⟩) (bordersP l).length cap2)])))) := TFr.set ((unhide HFr).trans ⟨hf2.os, hf2.tape, hf2.output, hf2.size, hf2.block, hf2.tb, hf2.nb, hf2.sb, hf2.cb, hf2.row⟩) hcbF _
    have HK3 : Hid (∀ p ∈ C2 ++ [(.int .i64 (n : Int), Value.slice (some ⟨g2, 0, none⟩) (bordersP l).length cap2)], p ∈ C ∨ ∃ i, i ≤ n ∧ p.1 = .int .i64 ((i : Nat) : Int)) := fun p hp => by
      rcases List.mem_append.1 hp with hp | hp
      · rcases hk2 p hp with h1 | ⟨i, hi, h1⟩
        · exact .inl h1
        · exact .inr ⟨i, by omega, h1⟩
      · rw [List.mem_singleton] at hp
        exact .inr ⟨n, Nat.le_refl _, by rw [hp]⟩
    have HCL := hide hcl
    clear hmiss hmiss2 hk2 hf2 hcl HC2 HRow HT2 HF2 HKB r0 r1 r2 r3 rk
    go_wp2_with fail
    go_ret
    exact ⟨l, g2, cap2, _, rfl, unhide HCL, HR3, HT3, HC3, HF3, unhide HK3⟩
end
end Go.Proofs.YtfolanohokflkabGreatDoor

namespace Go.Proofs.YtfolanohokflkabGreatDoor
open Go.RowKit
section
variable {w : World} {t : TB} {T : List Te} {N S C : List (Value × Value)} {k : Ky}
theorem clsOf_set {n : Nat} {b : Bool} (h : Hid (Tab w t T (numPairs T) S C)) (hc : Hid (CV w t T C)) (hx : T[n]? = some (k, b)) (hn : n ≤ LIM) (hk : k.kd = 0) {l : Spans} (hs : IsSet k.st l) :
    Calls Tryz.prog 80 #[.pointer (some ⟨t.tb, 0, none⟩), .int .i64 n] w (COut T n w t S C (fun i => i ≤ n)) :=
  classesOf_any h hc hx hn (m := 0) hk (by decide) rfl (callFunc_enter Tryz.func118 (by kernel_rfl) (by kernel_rfl)) (hide fun W hW hcW => cls_set hW hcW hx hk hs _)
theorem clsOf_empty {n : Nat} {b : Bool} (h : Hid (Tab w t T (numPairs T) S C)) (hc : Hid (CV w t T C)) (hx : T[n]? = some (k, b)) (hn : n ≤ LIM) (hk : k.kd = 1) :
    Calls Tryz.prog 80 #[.pointer (some ⟨t.tb, 0, none⟩), .int .i64 n] w (COut T n w t S C (fun i => i ≤ n)) :=
  classesOf_any h hc hx hn (m := 1) hk (by decide) rfl (callFunc_enter Tryz.func122 (by kernel_rfl) (by kernel_rfl)) (hide fun W hW hcW => cls_empty hW hcW hx hk _)
set_option maxRecDepth 100000 in
set_option maxHeartbeats 4000000 in
theorem cls_chain {n i : Nat} {b : Bool} {y : Te} (h : Hid (Tab w t T (numPairs T) S C)) (hc : Hid (CV w t T C)) (hx : T[n]? = some (k, b)) (hn : n ≤ LIM) (hk : k.kd = 2) (hfi : k.fi = (i : Int)) (hy : T[i]? = some y) (hin : i < n) (hye : y.2 = false) (hyk : y.1.kd = 0) {l : Spans} (hs : IsSet y.1.st l) :
    Calls Tryz.prog 125 #[.pointer (some ⟨t.tb, 0, none⟩), vKy k] w (COut T n w t S C (fun i => i < n)) := by
  obtain ⟨kd, st, fi, se⟩ := k
  dsimp only at hk hfi
  subst hk
  subst hfi
  unfold vKy
  dsimp only
  have HA := Tab.alloc h (.cells #[.int .i64 2, .string st, .int .i64 i, .int .i64 se] 99)
  have HFr : Hid (TFr t t w (w.alloc (.cells #[.int .i64 2, .string st, .int .i64 i, .int .i64 se] 99))) := TFr.below ((Below.refl _ _).alloc (Nat.le_refl _) _)
  have HCA := CV.move (w' := w.alloc (.cells #[.int .i64 2, .string st, .int .i64 i, .int .i64 se] 99)) hc (fun k hk _ => Below.heap_alloc w _ k hk)
  obtain ⟨g, q2, a0, a1, a2, a3, a4⟩ := (unhide HA).at hy
  rw [hye] at a4
  have HCO := hide (fun q => clsOf_set (w := (w.alloc (.cells #[.int .i64 2, .string st, .int .i64 i, .int .i64 se] 99)).drewN q) (hide ((unhide HA).drew q)) (CV.move HCA (fun _ _ _ => rfl)) (k := y.1) (b := y.2) hy (by omega) hyk hs)
  have hlt : i < T.length := (List.getElem?_eq_some_iff.1 hy).1
  have hI : (i : Int) < (T.length : Int) := by omega
  have hI0 : (0 : Int) ≤ (i : Int) := by omega
  have HCL : Hid (∀ l', ClsR T i l' → ClsR T n l') := by
    intro l' ⟨z, hz, hh⟩
    rw [hy] at hz
    cases hz
    rcases hh with ⟨_, h2⟩ | ⟨h1, _⟩ | ⟨h1, _⟩
    · exact ⟨_, hx, .inr (.inr ⟨rfl, i, y, rfl, hy, hin, hye, hyk, h2⟩)⟩
    · omega
    · omega
  clear h hc hx hy hye hyk hs HA HCA a0 a1 a2 a3
  go_enter Tryz.func125, Tryz.ntmps125
  go_wp2_with fail
  go_quiet (fail)
  go_wp2_with (go_at_call 80; refine (unhide HCO _).mono ?_; clear HCO; rintro x w2 ⟨l2, g2, cap2, C2, rfl, hcl, HRow, HT2, HC2, HF2, hk2⟩)
  go_ret
  have hf2 := unhide HF2
  refine ⟨l2, g2, cap2, C2, rfl, unhide HCL l2 hcl, HRow, HT2, HC2, ?_, fun p hp => ?_⟩
  · exact (unhide HFr).trans ⟨hf2.os, hf2.tape, hf2.output, hf2.size, hf2.block, hf2.tb, hf2.nb, hf2.sb, hf2.cb, hf2.row⟩
  · rcases hk2 p hp with h1 | ⟨j, hj, h1⟩
    · exact .inl h1
    · exact .inr ⟨j, by omega, h1⟩
theorem clsOf_chain {n i : Nat} {b : Bool} {y : Te} (h : Hid (Tab w t T (numPairs T) S C)) (hc : Hid (CV w t T C)) (hx : T[n]? = some (k, b)) (hn : n ≤ LIM) (hk : k.kd = 2) (hfi : k.fi = (i : Int)) (hy : T[i]? = some y) (hin : i < n) (hye : y.2 = false) (hyk : y.1.kd = 0) {l : Spans} (hs : IsSet y.1.st l) :
    Calls Tryz.prog 80 #[.pointer (some ⟨t.tb, 0, none⟩), .int .i64 n] w (COut T n w t S C (fun i => i ≤ n)) :=
  classesOf_any h hc hx hn (m := 2) hk (by decide) rfl (callFunc_enter Tryz.func125 (by kernel_rfl) (by kernel_rfl)) (hide fun W hW hcW => cls_chain hW hcW hx hn hk hfi hy hin hye hyk hs)
/-- a term of which all is known here: a set of few pieces, the empty word, a chain that begins with such a set. -/
theorem clsOf_any {n : Nat} {l : Spans} (h : Hid (Tab w t T (numPairs T) S C)) (hc : Hid (CV w t T C)) (hn : n ≤ LIM) (hcl : ClsR T n l) :
    Calls Tryz.prog 80 #[.pointer (some ⟨t.tb, 0, none⟩), .int .i64 n] w (COut T n w t S C (fun i => i ≤ n)) := by
  obtain ⟨x, hx, ⟨h1, h2⟩ | ⟨h1, h2⟩ | ⟨h1, i, y, h2, h3, h4, h5, h6, h7⟩⟩ := hcl
  · exact clsOf_set (k := x.1) (b := x.2) h hc hx hn h1 h2
  · exact clsOf_empty (k := x.1) (b := x.2) h hc hx hn h1
  · exact clsOf_chain (k := x.1) (b := x.2) h hc hx hn h1 h2 h3 h4 h5 h6 h7
end
end Go.Proofs.YtfolanohokflkabGreatDoor

/-
  What a term becomes by a symbol: the steps that are known; sets, the empty word, chains that begin with a set.
-/
namespace Go.Proofs.YtfolanohokflkabGreatDoor
open Go.RowKit
/-! the keys of steps -/
def vSt (n : Nat) (c : Int) : Value := .agg #[.int .i64 (n : Int), .int .i32 c]
theorem vSt_inj {n m : Nat} {c d : Int} (h : vSt n c = vSt m d) : n = m ∧ c = d := by
  simp only [vSt, Value.agg.injEq, Array.mk.injEq, List.cons.injEq, Value.int.injEq, true_and, and_true] at h
  omega
theorem stWide : (match Tryz.prog.underlying 162 with | some (.array _ _) | some (.struct _) => true | _ => false) = true := by kernel_rfl
theorem stDeep : Tryz.prog.keyTypeAt 2 162 = true := by kernel_rfl
set_option maxRecDepth 100000 in
theorem stTiled : Tryz.prog.tiled 2 162 = true := by kernel_rfl
set_option maxRecDepth 100000 in
theorem stKeyed : Maps.Keyed Tryz.prog 162 := Maps.Keyed.of_law (deep_law (m := 2) (by omega) stDeep stTiled stWide)
theorem stType : Tryz.prog.keyType 162 = true := by kernel_rfl
theorem cellsSt : Tryz.prog.cellsOf 162 = 2 ∧ Tryz.prog.cellsOf 21 = 1 := ⟨by kernel_rfl, by kernel_rfl⟩
theorem stOf {n : Nat} {c : Int} (hn : n ≤ LIM) (hc : (Lit.int .i32 c).wf = true) : ∃ l, keyOf Tryz.prog 162 (vSt n c) = some l := by
  have hf : (vSt n c).formed Tryz.prog 162 = true := by kernel_rfl
  have hl : ∀ q, Tryz.prog.keyLits (q + 2) 162 (vSt n c).cells.toList = some [.int .i64 (n : Int), .int .i32 c] := by
    intro q
    simp [Program.keyLits, vSt, Value.cells, go_sem, wf_small hn, hc, cellsSt.1, cellsSt.2, cellsKy.2.2.2]
  obtain ⟨q, hq⟩ : ∃ q, Tryz.prog.types.size + 1 = q + 2 := ⟨Tryz.prog.types.size - 1, by have : 0 < Tryz.prog.types.size := of_decide_eq_true (by kernel_rfl); omega⟩
  have hw := stWide
  unfold keyOf
  rw [stType, hf, hq, hl]
  cases hu : Tryz.prog.underlying 162 with
  | none => rw [hu] at hw; cases hw
  | some d =>
    rw [hu] at hw
    cases d <;> simp at hw <;> exact ⟨_, rfl⟩
/-- what a term becomes. -/
def BecR (T : List Te) (n : Nat) (c : Int) (r : Nat) : Prop := ∃ x, T[n]? = some x ∧
  ((x.1.kd = 0 ∧ ∃ l, IsSet x.1.st l ∧ r = if inS l c = true then 1 else 0) ∨ (x.1.kd = 1 ∧ r = 0) ∨
   (x.1.kd = 2 ∧ ∃ (i j : Nat) (y : Te), x.1.fi = (i : Int) ∧ x.1.se = (j : Int) ∧ T[i]? = some y ∧ i < n ∧ j < T.length ∧ y.2 = false ∧ y.1.kd = 0 ∧ ∃ l, IsSet y.1.st l ∧ r = if inS l c = true then j else 0))
/-- the steps that are known. -/
def SV (T : List Te) (S : List (Value × Value)) : Prop :=
  (S.map (·.1)).Nodup ∧ ∀ p ∈ S, ∃ (n : Nat) (c : Int) (r : Nat), p = (vSt n c, .int .i64 (r : Int)) ∧ n ≤ LIM ∧ (Lit.int .i32 c).wf = true ∧ BecR T n c r
theorem SV.keys {T : List Te} {S : List (Value × Value)} (h : SV T S) : ∀ p ∈ S, ∃ x, keyOf Tryz.prog 162 p.1 = some x := fun p hp => by
  obtain ⟨n, c, r, e, h1, h2, -⟩ := h.2 p hp
  rw [e]
  exact stOf h1 h2
theorem SV.add {T : List Te} {S : List (Value × Value)} {n : Nat} {c : Int} {r : Nat} (h : SV T S) (hn : n ≤ LIM) (hc : (Lit.int .i32 c).wf = true) (hb : BecR T n c r) (hm : ∀ p ∈ S, p.1 ≠ vSt n c) : SV T (S ++ [(vSt n c, .int .i64 (r : Int))]) := by
  refine ⟨?_, fun p hp => ?_⟩
  · rw [List.map_append]
    refine List.nodup_append.2 ⟨h.1, by simp, fun a ha d hd e => ?_⟩
    obtain ⟨p, hp, rfl⟩ := List.mem_map.1 ha
    simp at hd
    exact hm p hp (e.trans hd)
  · rcases List.mem_append.1 hp with hp | hp
    · exact h.2 p hp
    · rw [List.mem_singleton] at hp
      exact ⟨n, c, r, hp, hn, hc, hb⟩
theorem CV.fr {w w' : World} {t t' : TB} {T : List Te} {C : List (Value × Value)} (h : Hid (CV w t T C)) (hf : Hid (TFr t t' w w')) : Hid (CV w' t' T C) := by
  refine ⟨(unhide h).1, fun p hp => ?_⟩
  obtain ⟨n, g, cap, l, e, h1, h2, h3⟩ := (unhide h).2 p hp
  have h4 := h3.move ((unhide hf).block g h3.lt h3.apart)
  refine ⟨n, g, cap, l, e, h1, h2, h4.own, fun hh => ?_⟩
  rcases (unhide hf).foot hh with h5 | h5
  · exact h3.apart h5
  · have := h3.lt; omega
/-- what a call on the steps comes to. -/
def BOut (T : List Te) (n : Nat) (c : Int) (w : World) (t : TB) (S : List (Value × Value)) (ok : Nat → Prop) (e : Ending) (w' : World) : Prop :=
  ∃ (r : Nat) (t' : TB) (S' C' : List (Value × Value)), e = .returned (.int .i64 (r : Int)) ∧ BecR T n c r ∧ Hid (Tab w' t' T (numPairs T) S' C') ∧ Hid (CV w' t' T C') ∧ Hid (SV T S') ∧ Hid (TFr t t' w w') ∧ ∀ p ∈ S', p ∈ S ∨ ∃ (i : Nat) (d : Int), ok i ∧ p.1 = vSt i d
section
variable {w : World} {t : TB} {T : List Te} {S C : List (Value × Value)} {k : Ky}
set_option maxRecDepth 100000 in
set_option maxHeartbeats 4000000 in
theorem bec_set {n : Nat} {b : Bool} {c : Int} (h : Hid (Tab w t T (numPairs T) S C)) (hc : Hid (CV w t T C)) (hv : Hid (SV T S)) (hx : T[n]? = some (k, b)) (hk : k.kd = 0) {l : Spans} (hs : IsSet k.st l) (ok : Nat → Prop) :
    Calls Tryz.prog 116 #[.pointer (some ⟨t.tb, 0, none⟩), vKy k, .int .i32 c] w (BOut T n c w t S ok) := by
  obtain ⟨kd, st, fi, se⟩ := k
  have HH := hide (has_any (w.alloc (.cells #[.int .i64 kd, .string st, .int .i64 fi, .int .i64 se] 99)) l c (by have := hs.few; rw [List.length_append] at this; omega) hs.tidy)
  rw [← show st = encS l from hs.enc] at HH
  have HBR : Hid (∀ r, (r = if inS l c = true then 1 else 0) → BecR T n c r) := fun r hr => ⟨_, hx, .inl ⟨hk, l, hs, hr⟩⟩
  unfold vKy
  dsimp only
  have HA : Hid (Below w.heap.size w (w.alloc (.cells #[.int .i64 kd, .string st, .int .i64 fi, .int .i64 se] 99))) := (Below.refl _ _).alloc (Nat.le_refl _) _
  have hsz : w.heap.size < (w.alloc (.cells #[.int .i64 kd, .string st, .int .i64 fi, .int .i64 se] 99)).heap.size := by simp
  clear hx hs hk
  generalize inS l c = q at *
  cases q
  · go_enter Tryz.func116, Tryz.ntmps116
    go_wp2_with (go_at_call 117; refine (unhide HH).mono ?_; clear HH; rintro e w2 ⟨rfl, HB⟩)
    go_ret
    have hb2 : Below w.heap.size w w2 := (unhide HA).trans (HB.mono (by omega))
    exact ⟨0, t, S, C, rfl, unhide HBR 0 rfl, Tab.below h hb2, CV.move hc (fun k hk _ => hb2.block k hk), hv, TFr.below hb2, fun p hp => .inl hp⟩
  · go_enter Tryz.func116, Tryz.ntmps116
    go_wp2_with (go_at_call 117; refine (unhide HH).mono ?_; clear HH; rintro e w2 ⟨rfl, HB⟩)
    go_ret
    have hb2 : Below w.heap.size w w2 := (unhide HA).trans (HB.mono (by omega))
    exact ⟨1, t, S, C, rfl, unhide HBR 1 rfl, Tab.below h hb2, CV.move hc (fun k hk _ => hb2.block k hk), hv, TFr.below hb2, fun p hp => .inl hp⟩
theorem bec_empty {n : Nat} {b : Bool} {c : Int} (h : Hid (Tab w t T (numPairs T) S C)) (hc : Hid (CV w t T C)) (hv : Hid (SV T S)) (hx : T[n]? = some (k, b)) (hk : k.kd = 1) (ok : Nat → Prop) :
    Calls Tryz.prog 121 #[.pointer (some ⟨t.tb, 0, none⟩), vKy k, .int .i32 c] w (BOut T n c w t S ok) := by
  have HBR : Hid (BecR T n c 0) := ⟨_, hx, .inr (.inl ⟨hk, rfl⟩)⟩
  unfold vKy
  clear hx hk
  go_enter Tryz.func121, Tryz.ntmps121
  go_wp2_with fail
  go_ret
  have hb2 : Below w.heap.size w (w.alloc (.cells #[.int .i64 k.kd, .string k.st, .int .i64 k.fi, .int .i64 k.se] 99)) := (Below.refl _ _).alloc (Nat.le_refl _) _
  exact ⟨0, t, S, C, rfl, unhide HBR, Tab.below h hb2, CV.move hc (fun k hk _ => hb2.block k hk), hv, TFr.below hb2, fun p hp => .inl hp⟩
end
end Go.Proofs.YtfolanohokflkabGreatDoor
