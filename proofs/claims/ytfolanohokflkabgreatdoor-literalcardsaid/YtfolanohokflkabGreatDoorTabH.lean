import Derived.Test.YtfolanohokflkabGreatDoorDec
import Derived.WalkKit
import Derived.WalkSpells
import Derived.WalkLawsBesides
import Derived.WalkMore
import Derived.Deep.RegionHeld3
namespace Go.Proofs.YtfolanohokflkabGreatDoor
open Go.RowKit
/-! chain -/
/-- each term is made of terms ahead of it. -/
def Wf1 (T : List Te) : Prop := ∀ i x, T[i]? = some x → KyIn (T.take i) x.1
theorem KyIn.mono {T T' : List Te} {k : Ky} (h : KyIn T k) (hl : T.length ≤ T'.length) : KyIn T' k := by
  rcases h with e | e | ⟨e, ⟨i, hi, e1⟩, j, hj, e2⟩ | ⟨e, i, hi, e1⟩
  · exact .inl e
  · exact .inr (.inl e)
  · exact .inr (.inr (.inl ⟨e, ⟨i, by omega, e1⟩, j, by omega, e2⟩))
  · exact .inr (.inr (.inr ⟨e, i, by omega, e1⟩))
theorem Wf1.keep {T : List Te} (h : Wf1 T) {k : Ky} (hk : KyIn T k) : Wf1 (keepP T k).1 := by
  rcases keepP_cases T k with ⟨i, b, _, e⟩ | ⟨_, e⟩
  · rw [e]; exact h
  · rw [e]
    intro i x hx
    by_cases hi : i < T.length
    · rw [List.getElem?_append_left hi] at hx
      rw [List.take_append_of_le_length (by omega)]
      exact h i x hx
    · have hi' : i = T.length := by
        have := (List.getElem?_eq_some_iff.1 hx).1
        simp at this
        omega
      subst hi'
      simp at hx
      subst hx
      exact hk.mono (by simp)
theorem Wf1.two {T : List Te} (h : Wf1 T) {i : Nat} {x : Te} (hx : T[i]? = some x) (hk : x.1.kd = 2 ∨ x.1.kd = 4 ∨ x.1.kd = 5) : ∃ a b : Nat, a < i ∧ b < i ∧ x.1.fi = (a : Int) ∧ x.1.se = (b : Int) := by
  have hlt := (List.getElem?_eq_some_iff.1 hx).1
  rcases h i x hx with e | e | ⟨e, ⟨a, ha, e1⟩, b, hb, e2⟩ | ⟨e, a, ha, e1⟩
  · omega
  · omega
  · simp only [List.length_take] at ha hb
    exact ⟨a, b, by omega, by omega, e1, e2⟩
  · omega
theorem Wf1.one {T : List Te} (h : Wf1 T) {i : Nat} {x : Te} (hx : T[i]? = some x) (hk : x.1.kd = 3 ∨ x.1.kd = 6) : ∃ a : Nat, a < i ∧ x.1.fi = (a : Int) := by
  have hlt := (List.getElem?_eq_some_iff.1 hx).1
  rcases h i x hx with e | e | ⟨e, ⟨a, ha, e1⟩, b, hb, e2⟩ | ⟨e, a, ha, e1⟩
  · omega
  · omega
  · simp only [List.length_take] at ha hb
    exact ⟨a, by omega, e1⟩
  · simp only [List.length_take] at ha
    exact ⟨a, by omega, e1⟩
def chainK (i j : Nat) : Ky := ⟨2, ⟨#[]⟩, i, j⟩
theorem chainK_ok {i j : Nat} (h : i ≤ LIM) (h' : j ≤ LIM) : KyOK (chainK i j) := ⟨wf_2, no_len, wf_small h, wf_small h'⟩
theorem chainK_in {T : List Te} {i j : Nat} (h : i < T.length) (h' : j < T.length) : KyIn T (chainK i j) := .inr (.inr (.inl ⟨.inl rfl, ⟨i, h, rfl⟩, j, h', rfl⟩))
def chainP : Nat → List Te → Nat → Nat → List Te × Nat
  | 0, T, _, _ => (T, 0)
  | f + 1, T, i, j =>
    if i = 0 ∨ j = 0 then (T, 0) else if i = 1 then (T, j) else if j = 1 then (T, i) else match T[i]? with
      | some x => if x.1.kd = 2 then chainP f (chainP f T x.1.se.toNat j).1 x.1.fi.toNat (chainP f T x.1.se.toNat j).2 else keepP T (chainK i j)
      | none => (T, 0)
/-- a table that grows. -/
structure Ext (T : List Te) (R : List Te × Nat) : Prop where
  sub : ∃ X, R.1 = T ++ X
  lt : R.2 < R.1.length
  wf : Wf1 R.1
theorem Ext.len {T : List Te} {R : List Te × Nat} (h : Ext T R) : T.length ≤ R.1.length := by
  obtain ⟨X, e⟩ := h.sub
  rw [e, List.length_append]
  omega
theorem Ext.refl {T : List Te} {i : Nat} (h : Wf1 T) (hi : i < T.length) : Ext T (T, i) := ⟨⟨[], by simp⟩, hi, h⟩
theorem Ext.trans {T : List Te} {R R' : List Te × Nat} (h : Ext T R) (h' : Ext R.1 R') : Ext T R' := by
  obtain ⟨X, e⟩ := h.sub
  obtain ⟨Y, e'⟩ := h'.sub
  exact ⟨⟨X ++ Y, by rw [e', e, List.append_assoc]⟩, h'.lt, h'.wf⟩
theorem Ext.keep {T : List Te} (h : Wf1 T) {k : Ky} (hk : KyIn T k) : Ext T (keepP T k) := ⟨keepP_sub T k, keepP_lt T k, h.keep hk⟩
theorem Ext.get {T : List Te} {R : List Te × Nat} (h : Ext T R) {i : Nat} {x : Te} (hx : T[i]? = some x) : R.1[i]? = some x := by
  obtain ⟨X, e⟩ := h.sub
  rw [e, List.getElem?_append_left (List.getElem?_eq_some_iff.1 hx).1]
  exact hx
theorem chain_ext : ∀ (f : Nat) (T : List Te) (i j : Nat), i < f → Wf1 T → 0 < T.length → i < T.length → j < T.length → Ext T (chainP f T i j)
  | 0, _, _, _, h, _, _, _, _ => by omega
  | f + 1, T, i, j, hf, hw, h0, hi, hj => by
    unfold chainP
    split
    · exact Ext.refl hw h0
    · split
      · exact Ext.refl hw hj
      · split
        · exact Ext.refl hw hi
        · obtain ⟨x, hx⟩ : ∃ x, T[i]? = some x := ⟨_, List.getElem?_eq_getElem hi⟩
          rw [hx]
          dsimp only
          split
          · rename_i h2
            obtain ⟨a, b, ha, hb, e1, e2⟩ := hw.two hx (.inl h2)
            rw [e1, e2]
            simp only [Int.toNat_natCast]
            have E1 := chain_ext f T b j (by omega) hw h0 (by omega) hj
            have hl := E1.len
            exact E1.trans (chain_ext f _ a _ (by omega) E1.wf (by omega) (by omega) E1.lt)
          · exact Ext.keep hw (chainK_in hi hj)
end Go.Proofs.YtfolanohokflkabGreatDoor

namespace Go.Proofs.YtfolanohokflkabGreatDoor
open Go.RowKit
section
variable {w : World} {t : TB} {T : List Te} {N S C : List (Value × Value)}
theorem TOut.ret {R : List Te × Nat} {S C : List (Value × Value)} {e : Ending} {w w1 w2 : World} {t t1 : TB} (h : Hid (TFr t t1 w w1)) (hh : TOut R w1 t1 S C e w2) : TOut R w t S C e w2 := by
  obtain ⟨h1, t', h2, h3⟩ := hh
  exact ⟨h1, t', h2, (unhide h).trans (unhide h3)⟩
/-- a block of the caller's own stays as it is. -/
theorem TFr.own {t' : TB} {w' : World} (h : Hid (TFr t t' w w')) {k : Nat} (hk : k < w.heap.size) (hf : ¬ TF t k) {o : Obj} (ho : w.heap[k]? = some o) : w'.heap[k]? = some o := ((unhide h).block k hk hf).trans ho
theorem Tab.new_not (h : Hid (Tab w t T N S C)) {k : Nat} (hk : w.heap.size ≤ k) : ¬ TF t k := fun e => by have := (unhide h).foot e; omega

set_option maxRecDepth 100000 in
set_option maxHeartbeats 4000000 in
theorem chain_any : ∀ (f : Nat) (w : World) (t : TB) (T : List Te) (i j : Nat), i < f → Hid (Tab w t T (numPairs T) S C) → Wf1 T → 0 < T.length → i < T.length → j < T.length → (chainP f T i j).1.length ≤ LIM →
    Calls Tryz.prog 91 #[.pointer (some ⟨t.tb, 0, none⟩), .int .i64 i, .int .i64 j] w (TOut (chainP f T i j) w t S C) := by
  intro f
  induction f with
  | zero => intro w t T i j hf; omega
  | succ f ih =>
    intro w t T i j hf h hw h0 hi hj hl
    have hiI : (i : Int) < (T.length : Int) := by omega
    have hi0 : (0 : Int) ≤ (i : Int) := by omega
    by_cases c1 : i = 0 ∨ j = 0
    · have e : chainP (f + 1) T i j = (T, 0) := by unfold chainP; rw [if_pos c1]
      rw [e]
      have HT := h
      clear hl h e ih hw
      by_cases ci : i = 0
      · subst ci
        go_enter Tryz.func91, Tryz.ntmps91
        go_wp2_with fail
        go_ret
        exact ⟨rfl, t, HT, TFr.refl _ _⟩
      · obtain rfl : j = 0 := by omega
        have n0 : ((i : Int) == 0) = false := by simp; omega
        clear c1 ci
        go_enter Tryz.func91, Tryz.ntmps91
        go_wp2_with fail
        go_ret
        exact ⟨rfl, t, HT, TFr.refl _ _⟩
    · have n0 : ((i : Int) == 0) = false := by simp; omega
      have m0 : ((j : Int) == 0) = false := by simp; omega
      by_cases c2 : i = 1
      · have e : chainP (f + 1) T i j = (T, j) := by unfold chainP; rw [if_neg c1, if_pos c2]
        rw [e]
        subst c2
        have HT := h
        clear hl h e ih hw c1
        go_enter Tryz.func91, Tryz.ntmps91
        go_wp2_with fail
        go_ret
        exact ⟨rfl, t, HT, TFr.refl _ _⟩
      · have n1 : ((i : Int) == 1) = false := by simp; omega
        by_cases c3 : j = 1
        · have e : chainP (f + 1) T i j = (T, i) := by unfold chainP; rw [if_neg c1, if_neg c2, if_pos c3]
          rw [e]
          subst c3
          have HT := h
          clear hl h e ih hw c1 c2
          go_enter Tryz.func91, Tryz.ntmps91
          go_wp2_with fail
          go_ret
          exact ⟨rfl, t, HT, TFr.refl _ _⟩
        · have m1 : ((j : Int) == 1) = false := by simp; omega
          obtain ⟨x, hx⟩ : ∃ x, T[i]? = some x := ⟨_, List.getElem?_eq_getElem hi⟩
          have e : chainP (f + 1) T i j = if x.1.kd = 2 then chainP f (chainP f T x.1.se.toNat j).1 x.1.fi.toNat (chainP f T x.1.se.toNat j).2 else keepP T (chainK i j) := by
            conv => lhs; unfold chainP
            rw [if_neg c1, if_neg c2, if_neg c3, hx]
          rw [e] at hl ⊢
          obtain ⟨g, q2, a0, a1, a2, a3, -⟩ := (unhide h).at hx
          have HA := Tab.alloc h (.cells #[.int .i64 x.1.kd, .string x.1.st, .int .i64 x.1.fi, .int .i64 x.1.se] 99)
          have HFr : Hid (TFr t t w (w.alloc (.cells #[.int .i64 x.1.kd, .string x.1.st, .int .i64 x.1.fi, .int .i64 x.1.se] 99))) := TFr.below ((Below.refl _ _).alloc (Nat.le_refl _) _)
          by_cases c4 : x.1.kd = 2
          · rw [if_pos c4] at hl ⊢
            obtain ⟨a, b, ha, hb, e1, e2⟩ := hw.two hx (.inl c4)
            rw [e1, e2] at hl ⊢
            simp only [Int.toNat_natCast] at hl ⊢
            have E1 := chain_ext f T b j (by omega) hw h0 (by omega) hj
            have hlen1 := E1.len
            have E2 := chain_ext f _ a _ (by omega) E1.wf (by omega) (by omega) E1.lt
            have hlen2 := E2.len
            rw [c4, e1, e2] at HA HFr
            rw [c4] at a0
            rw [e1] at a2
            rw [e2] at a3
            have H1 := hide (fun m => ih _ t T b j (by omega) (hide ((unhide HA).drew m)) hw h0 (by omega) hj (by omega))
            have H2 := hide (fun w1 t1 h1 => ih w1 t1 (chainP f T b j).1 a (chainP f T b j).2 (by omega) h1 E1.wf (by omega) (by omega) E1.lt hl)
            have HKB := hide (heap_alloc_new w (.cells #[.int .i64 2, .string x.1.st, .int .i64 a, .int .i64 b] 99))
            have hnot : ¬ TF t w.heap.size := Tab.new_not h (Nat.le_refl _)
            have hlt : w.heap.size < (w.alloc (.cells #[.int .i64 2, .string x.1.st, .int .i64 a, .int .i64 b] 99)).heap.size := by simp
            generalize x.1.st = xs at *
            generalize chainP f (chainP f T b j).1 a (chainP f T b j).2 = R2 at *
            generalize chainP f T b j = R1 at *
            clear hl e ih hw E1 E2 e1 e2 hlen1 hlen2 hx c4 HA
            go_enter Tryz.func91, Tryz.ntmps91
            go_wp2_with fail
            generalize w.alloc (.cells #[.int .i64 2, .string xs, .int .i64 a, .int .i64 b] 99) = Wk at *
            obtain ⟨k0, k1, k2, k3⟩ := ky_cells (unhide HKB)
            generalize hkb : w.heap.size = kb at *
            go_region_held3 (fun w' => w'.cell? ⟨kb, 2, none⟩ = some (.int .i64 a) ∧ w'.cell? ⟨kb, 3, none⟩ = some (.int .i64 b)) (go_keep)
              (first
                | (go_at_call 91; refine (unhide H1 1).mono ?_; clear H1; rintro x w1 ⟨rfl, t1, HT1, HF1⟩; obtain ⟨r0, r1, r2, r3⟩ := ky_cells (TFr.own HF1 hlt hnot (unhide HKB)); have H2' := hide (unhide H2 w1 t1 HT1); rw [(unhide HF1).tb] at H2')
                | (go_at_call 91; refine (unhide H2').mono ?_; clear H2'; rintro x w2 ⟨rfl, t2, HT2, HF2⟩; obtain ⟨s0, s1, s2, s3⟩ := ky_cells (TFr.own HF2 (Nat.lt_of_lt_of_le hlt (unhide HF1).size) (fun hf => ((unhide HF1).foot hf).elim hnot (fun hle => absurd hlt (by have : Wk.heap.size ≤ kb := hle; omega))) (TFr.own HF1 hlt hnot (unhide HKB)))))
            go_wp2_with fail
            go_ret
            have hf1 := unhide HF1
            have hf : TFr t t1 w w1 := (unhide HFr).trans ⟨hf1.os, hf1.tape, hf1.output, hf1.size, hf1.block, hf1.tb, hf1.nb, hf1.sb, hf1.cb, hf1.row⟩
            exact ⟨rfl, t2, HT2, hf.trans (unhide HF2)⟩
          · rw [if_neg c4] at hl ⊢
            have n2 : (x.1.kd == 2) = false := by simpa using c4
            have hlen : T.length ≤ LIM := by
              obtain ⟨X, hX⟩ := keepP_sub T (chainK i j)
              rw [hX, List.length_append] at hl
              omega
            have HK := hide (keep_any HA (chainK_ok (by omega) (by omega)) (chainK_in hi hj) hl)
            unfold vKy chainK at HK
            dsimp only at HK
            clear hl h e ih hw HA hx
            generalize x.1.kd = xk at *
            generalize x.1.st = xs at *
            generalize x.1.fi = xf at *
            generalize x.1.se = xe at *
            go_enter Tryz.func91, Tryz.ntmps91
            go_wp2_with (go_at_call 46; refine (unhide HK).mono ?_; clear HK; rintro x w1 ⟨rfl, t1, H1, H2⟩)
            go_ret
            exact ⟨rfl, t1, H1, (unhide HFr).trans (unhide H2)⟩
end
end Go.Proofs.YtfolanohokflkabGreatDoor
