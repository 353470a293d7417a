import Derived.Test.YtfolanohokflkabGreatDoorNdP
import Derived.Test.YtfolanohokflkabGreatDoorRowB
import Derived.Test.YtfolanohokflkabGreatDoorOnlE
import Derived.Test.YtfolanohokflkabGreatDoorTabI
import Derived.Test.YtfolanohokflkabGreatDoorNdT
import Derived.Test.YtfolanohokflkabGreatDoorPlA
import Derived.Test.YtfolanohokflkabGreatDoorNsA
/-
  The terms of a literal: plain.
-/
namespace Go.Proofs.YtfolanohokflkabGreatDoor
open Go.RowKit
theorem LitT.mono {T X : List Te} {n : Nat} {u : List Nat} (h : LitT T n u) : LitT (T ++ X) n u := by
  have g : ∀ {i : Nat} {x : Te}, T[i]? = some x → (T ++ X)[i]? = some x := fun {i x} hi => by
    rw [List.getElem?_append_left (List.getElem?_eq_some_iff.1 hi).1]; exact hi
  induction h with
  | empty => exact .empty
  | one hc a k s => exact .one hc (g a) k s
  | more hc a k f s y i j e d l _ ih => exact .more hc (g a) k f s (g y) i (by rw [List.length_append]; omega) e d l ih
/-- sets have no empty word, nor have chains that begin with such terms. -/
def SetF (T : List Te) : Prop := ∀ (i : Nat) (x : Te), T[i]? = some x → (x.1.kd = 0 → x.2 = false) ∧ (x.1.kd = 2 → ∀ (j : Nat) (y : Te), x.1.fi = (j : Int) → T[j]? = some y → y.2 = false → x.2 = false)
theorem SetF.keep {T : List Te} {k : Ky} (h : SetF T) (hw : Wf1 T) (hin : KyIn T k) : SetF (keepP T k).1 := by
  rcases keepP_cases T k with ⟨_, _, _, e⟩ | ⟨_, e⟩
  · rw [e]; exact h
  · rw [e]
    intro i x hx
    by_cases hi : i < T.length
    · rw [List.getElem?_append_left hi] at hx
      refine ⟨(h i x hx).1, fun hk j y hj hy hy2 => ?_⟩
      obtain ⟨a, _, ha, _, fa, _⟩ := hw.two hx (.inl hk)
      have : j = a := by omega
      subst this
      rw [List.getElem?_append_left (by omega)] at hy
      exact (h i x hx).2 hk j y hj hy hy2
    · have hi' : i = T.length := by
        have := (List.getElem?_eq_some_iff.1 hx).1
        simp at this
        omega
      subst hi'
      simp at hx
      subst hx
      refine ⟨fun hk => ?_, fun hk j y hj hy hy2 => ?_⟩
      · have hk' : k.kd = 0 := hk
        show emptyB T k = false
        unfold emptyB
        simp [hk']
      · have hk' : k.kd = 2 := hk
        have hj' : k.fi = (j : Int) := hj
        have hlt : j < T.length := by
          rcases hin with e | e | ⟨_, ⟨a, ha, e1⟩, _⟩ | ⟨e, _⟩
          · omega
          · omega
          · omega
          · omega
        rw [List.getElem?_append_left hlt] at hy
        show emptyB T k = false
        unfold emptyB
        have := heB_at hy
        simp [hk', hj', this, hy2]
/-- a table with what a literal wants. -/
structure LT (T : List Te) : Prop where
  pre : ∃ X, T = tab0 ++ X
  wf : Wf1 T
  sf : SetF T
  nd : (T.map (·.1)).Nodup
theorem LT.len {T : List Te} (h : LT T) : 3 ≤ T.length := by
  obtain ⟨X, e⟩ := h.pre
  rw [e, List.length_append]
  show 3 ≤ 3 + _
  omega
theorem LT.get {T : List Te} (h : LT T) {i : Nat} {x : Te} (hx : tab0[i]? = some x) : T[i]? = some x := by
  obtain ⟨X, e⟩ := h.pre
  rw [e, List.getElem?_append_left (List.getElem?_eq_some_iff.1 hx).1]
  exact hx
theorem keepP_nodup {T : List Te} {k : Ky} (h : (T.map (·.1)).Nodup) : ((keepP T k).1.map (·.1)).Nodup := by
  rcases keepP_cases T k with ⟨_, _, _, e⟩ | ⟨hn, e⟩
  · rw [e]; exact h
  · rw [e, List.map_append]
    refine List.nodup_append.2 ⟨h, by simp, fun a ha b hb hab => ?_⟩
    obtain ⟨x, hx, rfl⟩ := List.mem_map.1 ha
    simp at hb
    exact hn x hx (hab.trans hb)
theorem LT.keep {T : List Te} {k : Ky} (h : LT T) (hk : KyIn T k) : LT (keepP T k).1 := by
  refine ⟨?_, h.wf.keep hk, h.sf.keep h.wf hk, keepP_nodup h.nd⟩
  obtain ⟨X, e⟩ := h.pre
  obtain ⟨Y, e'⟩ := keepP_sub T k
  exact ⟨X ++ Y, by rw [e', e, List.append_assoc]⟩
/-- the set of a symbol, at that number. -/
def IsOne (T : List Te) (n c : Nat) : Prop := c < 128 ∧ T[n]? = some (setK (encS (oneS c)), false)
theorem IsOne.mono {T X : List Te} {n c : Nat} (h : IsOne T n c) : IsOne (T ++ X) n c := ⟨h.1, by rw [List.getElem?_append_left (List.getElem?_eq_some_iff.1 h.2).1]; exact h.2⟩
theorem enc_one {c : Nat} (h : c < 128) : encS (oneS c) ≠ ⟨#[]⟩ := by
  have : ∀ c : Fin 128, encS (oneS c.val) ≠ ⟨#[]⟩ := by decide +kernel
  exact this ⟨c, h⟩
theorem IsOne.not {T : List Te} {n c : Nat} (h : IsOne T n c) (hT : LT T) : n ≠ 0 ∧ n ≠ 1 ∧ n ≠ 2 := by
  refine ⟨?_, ?_, ?_⟩ <;> intro e <;> subst e <;> have h2 := h.2
  · rw [hT.get (i := 0) (x := (⟨0, ⟨#[]⟩, 0, 0⟩, false)) rfl] at h2
    injection h2 with h2
    have := congrArg (fun x : Te => x.1.st) h2
    exact enc_one h.1 this.symm
  · rw [hT.get (i := 1) (x := (⟨1, ⟨#[]⟩, 0, 0⟩, true)) rfl] at h2
    injection h2 with h2
    have : (1 : Int) = 0 := congrArg (fun x : Te => x.1.kd) h2
    omega
  · rw [hT.get (i := 2) (x := (⟨6, ⟨#[]⟩, 0, 0⟩, true)) rfl] at h2
    injection h2 with h2
    have : (6 : Int) = 0 := congrArg (fun x : Te => x.1.kd) h2
    omega
theorem setP_one {T : List Te} {c : Nat} (h : LT T) (hc : c < 128) : LT (setP T (encS (oneS c))).1 ∧ IsOne (setP T (encS (oneS c))).1 (setP T (encS (oneS c))).2 c ∧ (setP T (encS (oneS c))).1.length ≤ T.length + 1 ∧ ∃ X, (setP T (encS (oneS c))).1 = T ++ X := by
  have hL := h.keep (k := setK (encS (oneS c))) (.inl rfl)
  refine ⟨hL, ?_, ?_, keepP_sub T _⟩
  · unfold setP at hL ⊢
    rcases keepP_cases T (setK (encS (oneS c))) with ⟨i, b, hi, e⟩ | ⟨_, e⟩
    · rw [e]
      refine ⟨hc, ?_⟩
      have hb : b = false := (h.sf i _ hi).1 rfl
      rw [hb] at hi
      exact hi
    · rw [e] at hL ⊢
      refine ⟨hc, ?_⟩
      have hb : emptyB T (setK (encS (oneS c))) = false := by
        exact (hL.sf T.length (setK (encS (oneS c)), emptyB T (setK (encS (oneS c)))) (by simp)).1 rfl
      simp [hb]
  · unfold setP
    rcases keepP_cases T (setK (encS (oneS c))) with ⟨i, b, hi, e⟩ | ⟨_, e⟩
    · rw [e]; simp
    · rw [e]; simp
/-- what the number of a literal's term is. -/
def KN (T : List Te) (n : Nat) : Prop := n ≠ 0 ∧ n ≠ 2 ∧ ((∃ x, T[n]? = some x ∧ (x.1.kd = 1 ∨ x.1.kd = 2)) ∨ ∃ c, IsOne T n c)
theorem KN.mono {T X : List Te} {n : Nat} (h : KN T n) : KN (T ++ X) n := by
  refine ⟨h.1, h.2.1, ?_⟩
  rcases h.2.2 with ⟨x, hx, hk⟩ | ⟨c, hc⟩
  · exact .inl ⟨x, by rw [List.getElem?_append_left (List.getElem?_eq_some_iff.1 hx).1]; exact hx, hk⟩
  · exact .inr ⟨c, hc.mono⟩
theorem KN.lt {T : List Te} {n : Nat} (h : KN T n) : n < T.length := by
  rcases h.2.2 with ⟨x, hx, _⟩ | ⟨c, hc⟩
  · exact (List.getElem?_eq_some_iff.1 hx).1
  · exact (List.getElem?_eq_some_iff.1 hc.2).1
/-- one more symbol ahead. -/
theorem step_lit {T : List Te} {R : List Te × Nat} {x c : Nat} {u : List Nat} (hR : LT R.1) (hsub : ∃ X, R.1 = T ++ X) (hx : IsOne T x c) (hl : LitT R.1 R.2 u) (hn : R.2 = 1 ∧ u = [] ∨ R.2 ≠ 1 ∧ u ≠ []) (hk : KN R.1 R.2) : LT (stepR R x).1 ∧ (∃ X, (stepR R x).1 = T ++ X) ∧ LitT (stepR R x).1 (stepR R x).2 (c :: u) ∧ (stepR R x).2 ≠ 1 ∧ KN (stepR R x).1 (stepR R x).2 ∧ (stepR R x).1.length ≤ R.1.length + 1 := by
  obtain ⟨X, eX⟩ := hsub
  have hx' : IsOne R.1 x c := by rw [eX]; exact hx.mono
  obtain ⟨n0, n1, n2⟩ := hx'.not hR
  have hxl := (List.getElem?_eq_some_iff.1 hx'.2).1
  rcases hn with ⟨e1, e2⟩ | ⟨e1, e2⟩
  · have e : stepR R x = (R.1, x) := by
      have : R = (R.1, 1) := Prod.ext rfl e1
      rw [this]
      exact step_single n0
    rw [e, e2]
    exact ⟨hR, ⟨X, eX⟩, .one hx'.1 hx'.2 rfl rfl, n1, ⟨n0, n2, .inr ⟨c, hx'⟩⟩, by simp⟩
  · have e : stepR R x = keepP R.1 (chainK x R.2) := by
      unfold stepR
      generalize hF : LIM + 1 = F
      match F, hF with
      | 0, hF => exact absurd hF (Nat.succ_ne_zero _)
      | F + 1, _ =>
        rw [chainP, if_neg (by have := hk.1; omega), if_neg n1, if_neg e1, hx'.2]
        dsimp only
        rw [if_neg (by show ¬ (0 : Int) = 2; omega)]
    have hin : KyIn R.1 (chainK x R.2) := chainK_in hxl hk.lt
    rw [e]
    have hL := hR.keep hin
    obtain ⟨Y, eY⟩ := keepP_sub R.1 (chainK x R.2)
    obtain ⟨i, b, hi⟩ : ∃ i b, (keepP R.1 (chainK x R.2)).1[i]? = some (chainK x R.2, b) ∧ (keepP R.1 (chainK x R.2)).2 = i := by
      rcases keepP_cases R.1 (chainK x R.2) with ⟨i, b, hi, e⟩ | ⟨_, e⟩
      · exact ⟨i, b, by rw [e]; exact hi, by rw [e]⟩
      · exact ⟨R.1.length, emptyB R.1 (chainK x R.2), by rw [e]; simp, by rw [e]⟩
    obtain ⟨hi, ei⟩ := hi
    rw [ei]
    obtain ⟨p, q, hp, hq, fp, fq⟩ := hL.wf.two hi (.inl rfl)
    have ep : p = x := by have : (x : Int) = p := fp; omega
    subst ep
    have hne : ∀ j : Nat, j < 3 → i ≠ j := fun j hj ej => by
      subst ej
      match i, hj with
      | 0, _ => rw [hL.get (i := 0) (x := (⟨0, ⟨#[]⟩, 0, 0⟩, false)) rfl] at hi; injection hi with hi; have : (0 : Int) = 2 := congrArg (fun x : Te => x.1.kd) hi; omega
      | 1, _ => rw [hL.get (i := 1) (x := (⟨1, ⟨#[]⟩, 0, 0⟩, true)) rfl] at hi; injection hi with hi; have : (1 : Int) = 2 := congrArg (fun x : Te => x.1.kd) hi; omega
      | 2, _ => rw [hL.get (i := 2) (x := (⟨6, ⟨#[]⟩, 0, 0⟩, true)) rfl] at hi; injection hi with hi; have : (6 : Int) = 2 := congrArg (fun x : Te => x.1.kd) hi; omega
    refine ⟨hL, ⟨X ++ Y, by rw [eY, eX, List.append_assoc]⟩, ?_, hne 1 (by omega), ⟨hne 0 (by omega), hne 2 (by omega), .inl ⟨_, hi, .inr rfl⟩⟩, ?_⟩
    · have hy : (keepP R.1 (chainK p R.2)).1[p]? = some (setK (encS (oneS c)), false) := by rw [eY, List.getElem?_append_left hxl]; exact hx'.2
      have hj : R.2 < (keepP R.1 (chainK p R.2)).1.length := by rw [eY, List.length_append]; have := hk.lt; omega
      exact .more hx'.1 hi rfl rfl rfl hy hp hj rfl rfl rfl (by rw [eY]; exact hl.mono)
    · rcases keepP_cases R.1 (chainK p R.2) with ⟨_, _, _, e⟩ | ⟨_, e⟩
      · rw [e]; simp
      · rw [e]; simp
/-- a row of sets. -/
theorem row_lit {T : List Te} (hT : LT T) : ∀ (ns cs : List Nat), ns.length = cs.length → (∀ (i : Nat) (h : i < ns.length) (h' : i < cs.length), IsOne T ns[i] cs[i]) → LT (rowF T ns).1 ∧ (∃ X, (rowF T ns).1 = T ++ X) ∧ LitT (rowF T ns).1 (rowF T ns).2 cs ∧ ((rowF T ns).2 = 1 ∧ cs = [] ∨ (rowF T ns).2 ≠ 1 ∧ cs ≠ []) ∧ KN (rowF T ns).1 (rowF T ns).2 ∧ (rowF T ns).1.length ≤ T.length + ns.length
  | [], [], _, _ => ⟨hT, ⟨[], by simp [rowF]⟩, .empty, .inl ⟨rfl, rfl⟩, ⟨by show (1 : Nat) ≠ 0; decide, by show (1 : Nat) ≠ 2; decide, .inl ⟨_, hT.get (i := 1) (x := (⟨1, ⟨#[]⟩, 0, 0⟩, true)) rfl, .inl rfl⟩⟩, by simp [rowF]⟩
  | [], _ :: _, h, _ => by simp at h
  | _ :: _, [], h, _ => by simp at h
  | x :: ns, c :: cs, h, hI => by
    obtain ⟨a1, a2, a3, a4, a5, a6⟩ := row_lit hT ns cs (by simpa using h) (fun i h1 h2 => hI (i + 1) (by simp; omega) (by simp; omega))
    have e : rowF T (x :: ns) = stepR (rowF T ns) x := by
      unfold rowF
      rw [List.reverse_cons, List.foldl_append]
      rfl
    have h0 : IsOne T x c := hI 0 (by simp) (by simp)
    obtain ⟨b1, b2, b3, b4, b5, b6⟩ := step_lit (T := T) a1 a2 h0 a3 a4 a5
    rw [e]
    exact ⟨b1, b2, b3, .inr ⟨b4, by simp⟩, b5, by rw [List.length_cons]; omega⟩
/-! any text through a literal -/
theorem stp_none {T : List Te} (h : LT T) (c : Int) : stpT T 0 c = 0 :=
  (stpT_eq (T := T) (n := 0) (r := 0) ⟨_, h.get (i := 0) (x := (⟨0, ⟨#[]⟩, 0, 0⟩, false)) rfl, .inl ⟨rfl, [], isSet_nil, by rfl⟩⟩).symm
theorem stp_empty {T : List Te} (h : LT T) (c : Int) : stpT T 1 c = 0 :=
  (stpT_eq (T := T) (n := 1) (r := 0) ⟨_, h.get (i := 1) (x := (⟨1, ⟨#[]⟩, 0, 0⟩, true)) rfl, .inr (.inl ⟨rfl, rfl⟩)⟩).symm
theorem walk_none {T : List Te} (h : LT T) : ∀ (x : List Nat) (M : List Nat), ((x.map fun (c : Nat) => (c : Int)).foldl (trP (stpT T)) (0, M)).1 = 0
  | [], _ => rfl
  | c :: x, M => by
    show ((x.map fun (c : Nat) => (c : Int)).foldl (trP (stpT T)) (trP (stpT T) (0, M) c)).1 = 0
    unfold trP
    rw [show stpT T (0, M).1 (c : Int) = 0 from stp_none h c]
    exact walk_none h x _
theorem he_none {T : List Te} (h : LT T) : (T.map (·.2)).getD 0 false = false := by
  have := h.get (i := 0) (x := (⟨0, ⟨#[]⟩, 0, 0⟩, false)) rfl
  simp [List.getD, this]
theorem walk_any {T : List Te} (h : LT T) : ∀ (x u : List Nat) (n : Nat) (M : List Nat), LitT T n u → (T.map (·.2)).getD ((x.map fun (c : Nat) => (c : Int)).foldl (trP (stpT T)) (n, M)).1 false = decide (x = u)
  | [], u, n, M, hl => by
    show (T.map (·.2)).getD n false = _
    cases hl with
    | empty =>
      have := h.get (i := 1) (x := (⟨1, ⟨#[]⟩, 0, 0⟩, true)) rfl
      simp [List.getD, this]
    | @one _ c k b hc a k0 s0 =>
      have hb := (h.sf n _ a).1 k0
      simp only at hb
      simp [List.getD, a, hb]
    | @more _ i j c k b y v hc a k0 f s hy hi hj e d l hv =>
      have hb := (h.sf n _ a).2 k0 i y f hy e
      simp only at hb
      simp [List.getD, a, hb]
  | d :: x, u, n, M, hl => by
    show (T.map (·.2)).getD ((x.map fun (c : Nat) => (c : Int)).foldl (trP (stpT T)) (trP (stpT T) (n, M) d)).1 false = _
    unfold trP
    show (T.map (·.2)).getD ((x.map fun (c : Nat) => (c : Int)).foldl (trP (stpT T)) (stpT T n d, addM M (stpT T n d))).1 false = _
    cases hl with
    | empty =>
      rw [stp_empty h, walk_none h, he_none h]
      simp
    | @one _ c k b hc a k0 s0 =>
      have hs := (stpT_eq (T := T) (n := n) (c := (d : Int)) ⟨_, a, .inl ⟨k0, _, isSet_of hc s0, rfl⟩⟩).symm
      rw [one_in] at hs
      rw [hs]
      by_cases hdc : d = c
      · subst hdc
        rw [if_pos (by simp), walk_any h x [] 1 _ .empty]
        simp
      · rw [if_neg (by simp; omega), walk_none h, he_none h]
        simp [hdc]
    | @more _ i j c k b y v hc a k0 f s hy hi hj e d' l hv =>
      have hs := (stpT_eq (T := T) (n := n) (c := (d : Int)) ⟨_, a, .inr (.inr ⟨k0, i, j, y, f, s, hy, hi, hj, e, d', _, isSet_of hc l, rfl⟩)⟩).symm
      rw [one_in] at hs
      rw [hs]
      by_cases hdc : d = c
      · subst hdc
        rw [if_pos (by simp), walk_any h x v j _ hv]
        simp
      · rw [if_neg (by simp; omega), walk_none h, he_none h]
        simp [hdc]
theorem LT.row0 {T : List Te} (h : LT T) : Row T 0 := .set (k := ⟨0, ⟨#[]⟩, 0, 0⟩) (b := false) (h.get (i := 0) rfl) rfl isSet_nil
theorem LT.row1 {T : List Te} (h : LT T) : Row T 1 := .empty (k := ⟨1, ⟨#[]⟩, 0, 0⟩) (b := true) (h.get (i := 1) rfl) rfl
/-- a literal takes its own text alone, if the budget is one more than the symbols. -/
theorem takesAll_any {w : World} {b0 sb mb tb : Nat} {t : TB} {T : List Te} {S C : List (Value × Value)} {KP : Nat → Prop} {B : Int} {n0 : Nat} {x u : List Nat} {ao : Option Addr} {cap : Nat}
    (h : Hid (Sr w w b0 mb tb t T S C [] KP)) (ha : Hid (SrAt w sb mb tb B n0 (x.map fun (c : Nat) => (c : Int)) ao cap KP)) (hu : x.length ≤ 60) (hu2 : ∀ c ∈ x, c < 128) (hT : LT T) (hTL : T.length ≤ LIM) (hl : LitT T n0 u) (hB : (x.length : Int) < B) :
    Calls Tryz.prog 33 #[.pointer (some ⟨sb, 0, none⟩)] w fun e w' => e = .returned (.bool (decide (x = u))) ∧ Hid (Below b0 w w') := by
  have hlen : (x.map fun (c : Nat) => (c : Int)).length = x.length := List.length_map _
  have hmost := trP_most (stpT T) (x.map fun (c : Nat) => (c : Int)) (n0, [n0])
  rw [hlen] at hmost
  have hm2 : ((n0, [n0]) : Nat × List Nat).2.length = 1 := rfl
  refine takesAll_go (P := Row T) (stp := stpT T) (ok := fun n i => i ≤ n) h ha (by omega) (fun k hk => ?_) (hl.row hT.row1) (fun n hn => ⟨by have := hn.lt; omega, hn.lt⟩) (hide fun n c w t S C a b c1 d e => Row.becomes hT.wf (by have := hT.len; omega) hTL n c w t S C a b c1 d e) (hide fun n c r a b d => ⟨stpT_eq d, a.next hT.row0 hT.row1 d⟩) (hide fun hlt => by omega) (hide fun _ w' hb => ⟨?_, hb⟩)
  · rw [hlen] at hk
    have hc := hu2 x[k] (List.getElem_mem hk)
    have e : (x.map fun (c : Nat) => (c : Int)).getD k 0 = (x[k] : Int) := by simp [List.getD, hk]
    rw [e]
    exact isSym_iff.2 (by omega)
  · rw [walk_any hT x u n0 [n0] hl]
end Go.Proofs.YtfolanohokflkabGreatDoor

/-
  ofNode on the tree of a literal: what it comes to.
-/
namespace Go.Proofs.YtfolanohokflkabGreatDoor
open Go.RowKit
def LitTree (p : Pt) (u : List Nat) : Prop := (∀ c ∈ u, c < 128) ∧ ((∃ c, u = [c] ∧ p = .set (oneS c)) ∨ p = .row (u.map fun c => .set (oneS c)))
theorem lit_tree {u : List Nat} (h : ∀ c ∈ u, c < 128) : LitTree (mkRow (u.map leafN)).1 u := by
  refine ⟨h, ?_⟩
  match u with
  | [] => exact .inr rfl
  | [c] => exact .inl ⟨c, rfl, rfl⟩
  | c :: d :: r =>
    refine .inr ?_
    show Pt.row (((c :: d :: r).map leafN).map Prod.fst) = _
    rw [List.map_map]
    rfl
/-- what the term of a literal is, and how the table has grown. -/
structure OfR (u : List Nat) (T : List Te) (n : Nat) (T' : List Te) : Prop where
  lt : LT T'
  sub : ∃ X, T' = T ++ X
  lit : LitT T' n u
  kn : KN T' n
  one : ∀ c, u = [c] → IsOne T' n c
  sz : T'.length ≤ T.length + 2 * u.length
  sz1 : ∀ c, u = [c] → T'.length ≤ T.length + 1
def OfOut (u : List Nat) (T : List Te) (w : World) (t : TB) (S C : List (Value × Value)) (e : Ending) (w' : World) : Prop :=
  ∃ (n : Nat) (T' : List Te) (t' : TB), e = .returned (.int .i64 (n : Int)) ∧ Hid (OfR u T n T') ∧ Hid (Tab w' t' T' (numPairs T') S C) ∧ Hid (TFr t t' w w')
/-- the blocks of nodes stay. -/
def StayN (W X : World) (F : Nat → Prop) : Prop := ∀ k, F k → (∃ cur, W.heap[k]? = some (.cells cur 53 (0, 0))) → X.heap[k]? = W.heap[k]?
def OfC (W : World) (F : Nat → Prop) (m : Nd) (u : List Nat) : Prop := ∀ (X : World) (t : TB) (T : List Te) (S C : List (Value × Value)), Hid (StayN W X F) → Hid (Tab X t T (numPairs T) S C) → Hid (LT T) → T.length + 2 * u.length + 2 ≤ LIM → Calls Tryz.prog 27 #[.pointer (some ⟨t.tb, 0, none⟩), vNd m] X (OfOut u T X t S C)
theorem TF.typed {X : World} {t : TB} {T : List Te} {N S C : List (Value × Value)} (h : Tab X t T N S C) {k : Nat} {cur : Array Value} {ty : TypeId} {z : Nat × Nat} (hk : X.heap[k]? = some (.cells cur ty z)) (h1 : ty ≠ 95) (h2 : ty ≠ 120) : ¬ TF t k := by
  intro hf
  rcases hf with rfl | rfl | rfl | rfl | e
  · rw [h.tb] at hk; injection hk with hk; injection hk with _ e; exact h1 e.symm
  · rw [h.nb] at hk; injection hk with hk; cases hk
  · rw [h.sb] at hk; injection hk with hk; cases hk
  · rw [h.cb] at hk; injection hk with hk; cases hk
  · obtain ⟨_, hx | ⟨g, cap, cur', hv, hb', hg', rest⟩⟩ := h.row
    · have : t.ta = none := by injection hx.1
      simp [TB.row, this] at e
    · injection hv with e1
      simp [TB.row, e1] at e
      subst e
      rw [hg'] at hk; injection hk with hk; injection hk with _ e; exact h2 e.symm
/-- a block of other cells, behind a call on the table. -/
theorem TFr.typed {X X' : World} {t t' : TB} {T : List Te} {N S C : List (Value × Value)} (h : Tab X t T N S C) (f : TFr t t' X X') {k : Nat} {cur : Array Value} {ty : TypeId} {z : Nat × Nat} (hk : X.heap[k]? = some (.cells cur ty z)) (h1 : ty ≠ 95) (h2 : ty ≠ 120) : X'.heap[k]? = X.heap[k]? :=
  f.block k (Array.getElem?_eq_some_iff.1 hk).1 (TF.typed h hk h1 h2)
theorem StayN.below {W X X' : World} {F : Nat → Prop} (h : StayN W X F) (hb : Below X.heap.size X X') : StayN W X' F := fun k hk hc => by
  obtain ⟨cur, hc'⟩ := hc
  have e := h k hk ⟨cur, hc'⟩
  have hl : k < X.heap.size := (Array.getElem?_eq_some_iff.1 (e.trans hc')).1
  exact (hb.block k hl).trans e
theorem StayN.tab {W X X' : World} {F : Nat → Prop} {t t' : TB} {T : List Te} {N S C : List (Value × Value)} (h : StayN W X F) (ht : Tab X t T N S C) (f : TFr t t' X X') : StayN W X' F := fun k hk hc => by
  obtain ⟨cur, hc'⟩ := hc
  have e := h k hk ⟨cur, hc'⟩
  exact (f.typed ht (e.trans hc') (by decide) (by decide)).trans e
/-- the parts of a node, in a later world. -/
theorem parts_stay {W X : World} {F : Nat → Prop} {pv : Value} {nds : List Nd} (h : PartsV W F pv nds) (hs : StayN W X F) : X.ownsRow 0 53 7 pv nds.length (ndCells nds) := by
  obtain ⟨hl, hx | ⟨g, cap, cur, hv, hb', hg, rest⟩⟩ := h.1
  · exact ⟨hl, .inl hx⟩
  · refine ⟨hl, .inr ⟨g, cap, cur, hv, hb', ?_, rest⟩⟩
    rw [hs g (h.2 g (by rw [hv]; rfl)) ⟨cur, hg⟩]
    exact hg
theorem own_typed {w w' : World} {base e size n : Nat} {v : Value} {xs : List Value} {t t' : TB} {T : List Te} {N S C : List (Value × Value)} (h : w.ownsRow base e size v n xs) (ht : Tab w t T N S C) (f : TFr t t' w w') (h1 : e ≠ 95) (h2 : e ≠ 120) : w'.ownsRow base e size v n xs := by
  obtain ⟨hl, hx | ⟨g, cap, cur, hv, hb', hg, rest⟩⟩ := h
  · exact ⟨hl, .inl hx⟩
  · exact ⟨hl, .inr ⟨g, cap, cur, hv, hb', by rw [f.typed ht hg h1 h2]; exact hg, rest⟩⟩
section
variable {w : World} {t : TB} {T : List Te} {S C : List (Value × Value)}
theorem any_lit {n g0 cap0 : Nat} (h : Hid (Tab w t T (numPairs T) S C)) (hg : w.cell? ⟨g0, 0, none⟩ = some (.int .i64 (n : Int))) (hk : KN T n) (hl : T.length ≤ LIM) :
    Calls Tryz.prog 50 #[.pointer (some ⟨t.tb, 0, none⟩), .slice (some ⟨g0, 0, none⟩) 1 cap0] w (TOut (T, n) w t S C) := by
  obtain ⟨h0, h2, ⟨x, hx, hk⟩ | ⟨c, hc⟩⟩ := hk
  · exact any_one h hg hx (by omega) (by omega) h0 h2
  · exact any_set h hg hc.2 ((unhide h).ok _ (List.mem_iff_getElem?.2 ⟨n, hc.2⟩)).st hl h0 h2
theorem all_lit {n g0 cap0 : Nat} (h : Hid (Tab w t T (numPairs T) S C)) (hg : w.cell? ⟨g0, 0, none⟩ = some (.int .i64 (n : Int))) (hk : KN T n) (hl : T.length ≤ LIM) :
    Calls Tryz.prog 51 #[.pointer (some ⟨t.tb, 0, none⟩), .slice (some ⟨g0, 0, none⟩) 1 cap0] w (TOut (T, n) w t S C) := by
  obtain ⟨h0, h2, ⟨x, hx, hk⟩ | ⟨c, hc⟩⟩ := hk
  · exact all_one h hg hx (by omega) (by omega) h0 h2
  · exact all_set h hg hc.2 ((unhide h).ok _ (List.mem_iff_getElem?.2 ⟨n, hc.2⟩)).st hl h0 h2
/-- numbers in a slice of the call's own. -/
theorem ns_at {w0 : World} {g cap : Nat} {ns : List Nat} (h : Tab w t T (numPairs T) S C) (ho : w.ownsRow w0.heap.size 3 1 (.slice (some ⟨g, 0, none⟩) ns.length cap) ns.length (ints (ns.map fun (n : Nat) => (n : Int)))) : NsAt w (fun k => k < w.heap.size ∧ ¬ TF t k) (.slice (some ⟨g, 0, none⟩) ns.length cap) ns := by
  obtain ⟨hl, ⟨hv, _⟩ | ⟨g', cap', cur, hv, hb', hg, rest⟩⟩ := ho
  · cases hv
  · have eg : g' = g := by injection hv with e; injection e with e; injection e with e; exact e.symm
    subst eg
    refine .inr ⟨g', cap, rfl, ⟨(Array.getElem?_eq_some_iff.1 hg).1, TF.typed h hg (by decide) (by decide)⟩, fun j hj => ?_⟩
    have ho : w.ownsRow w0.heap.size 3 1 (.slice (some ⟨g', 0, none⟩) ns.length cap) ns.length (ints (ns.map fun (n : Nat) => (n : Int))) := ⟨hl, .inr ⟨g', cap', cur, hv, hb', hg, rest⟩⟩
    obtain ⟨ao, cp, e, hv'⟩ := own_view ho
    injection e with e1
    obtain ⟨g2, e2, -, -, hc, -⟩ := hv' (by omega)
    rw [e2] at e1
    injection e1 with e1
    injection e1 with e1
    subst e1
    rw [hc j (by omega)]
    simp [ints, hj]
theorem row_lit_any {w0 : World} {g cap : Nat} {ns : List Nat} (h : Hid (Tab w t T (numPairs T) S C)) (ho : Hid (w.ownsRow w0.heap.size 3 1 (.slice (some ⟨g, 0, none⟩) ns.length cap) ns.length (ints (ns.map fun (n : Nat) => (n : Int))))) (hn : GoodRow T ns) (hl : T.length + ns.length ≤ LIM) (hz : ns.length ≤ 100000) :
    Calls Tryz.prog 52 #[.pointer (some ⟨t.tb, 0, none⟩), .slice (some ⟨g, 0, none⟩) ns.length cap] w (TOut (rowF T ns) w t S C) :=
  row_any h (hide (ns_at (unhide h) (unhide ho))) (hide hn) hl hz
end
end Go.Proofs.YtfolanohokflkabGreatDoor

/-
  ofNode on the tree of a literal: the walks.
-/
namespace Go.Proofs.YtfolanohokflkabGreatDoor
open Go.RowKit
section
variable {W : World} {F : Nat → Prop}
set_option maxRecDepth 100000 in
set_option maxHeartbeats 4000000 in
theorem of_leaf {m : Nd} {c : Nat} (h1 : m.sh = 0) (h2 : m.ss = encS (oneS c)) (h3 : m.pn = 0) (hc : c < 128) : OfC W F m [c] := by
  intro X t T S C hst h hT hl
  obtain ⟨sh, pa, pn, pc, ss, le, mo, fa, sz⟩ := m
  dsimp only at h1 h2 h3
  subst h1 h2 h3
  obtain ⟨p1, p2, p3, p4⟩ := setP_one (unhide hT) hc
  have hs : (encS (oneS c)).size ≤ maxLen := by
    have : ∀ c : Fin 128, (encS (oneS c.val)).size ≤ 10 := by decide +kernel
    have := this ⟨c, hc⟩
    unfold maxLen
    dsimp only at this
    omega
  simp only [List.length_cons, List.length_nil] at hl
  have HST := hide (fun (X' : World) (hb : Below X.heap.size X X') => set_any (S := S) (C := C) (s := encS (oneS c)) (Tab.below h hb) hs (by omega))
  have HR : Hid (OfR [c] T (setP T (encS (oneS c))).2 (setP T (encS (oneS c))).1) := ⟨p1, p4, .one p2.1 p2.2 rfl rfl, ⟨(p2.not p1).1, (p2.not p1).2.2, .inr ⟨c, p2⟩⟩, fun d hd => by simp at hd; rw [← hd]; exact p2, by simp only [List.length_cons, List.length_nil]; omega, fun _ _ => p3⟩
  clear p1 p2 p3 p4 hs hc hT hl hst
  generalize setP T (encS (oneS c)) = R at *
  generalize encS (oneS c) = s at *
  unfold vNd
  dsimp only
  obtain ⟨wb, hwb⟩ : ∃ wb, X.alloc (.cells #[.int .i64 0, .slice pa 0 pc, .string s, .int .i64 le, .int .i64 mo, .int .i64 fa, .int .i64 sz] 53) = wb := ⟨_, rfl⟩
  have HB : Hid (Below X.heap.size X wb) := by rw [← hwb]; exact (Below.refl _ _).alloc (Nat.le_refl _) _
  have c0 : wb.cell? ⟨X.heap.size, 0, none⟩ = some (.int .i64 0) := by rw [← hwb]; exact cells_at rfl 0 rfl
  have c1 : wb.cell? ⟨X.heap.size, 1, none⟩ = some (.slice pa 0 pc) := by rw [← hwb]; exact cells_at rfl 1 rfl
  have c2 : wb.cell? ⟨X.heap.size, 2, none⟩ = some (.string s) := by rw [← hwb]; exact cells_at rfl 2 rfl
  have HST2 := hide (unhide HST wb (unhide HB))
  clear HST
  go_enter Tryz.func27, Tryz.ntmps27
  go_wp2_with fail
  go_loopw [5, 11] (fun v i wr => v = .slice none 0 0 ∧ i = .int .i64 0 ∧ Hid (wr = wb)) (fun _ _ _ => 0)
  case atStart => exact ⟨rfl, rfl, rfl⟩
  case round =>
    obtain ⟨rfl, rfl, HW⟩ := hrel
    obtain rfl : wr = wb := unhide HW
    go_wp2_with (go_at_call 55; refine (unhide HST2).mono ?_; clear HST2; rintro e w4 ⟨rfl, t4, HT4, HF4⟩)
    go_ret
    exact ⟨R.2, R.1, t4, rfl, HR, HT4, hide ((TFr.below (unhide HB)).trans (unhide HF4))⟩
theorem own_lower {w : World} {B B' e size n : Nat} {v : Value} {xs : List Value} (h : Hid (w.ownsRow B e size v n xs)) (hB : B' ≤ B) : Hid (w.ownsRow B' e size v n xs) := by
  obtain ⟨hl, hx | ⟨g, cap, cur, hv, hb, rest⟩⟩ := unhide h
  · exact ⟨hl, .inl hx⟩
  · exact ⟨hl, .inr ⟨g, cap, cur, hv, Nat.le_trans hB hb, rest⟩⟩
/-- behind a call on the table: what lies in blocks of nodes. -/
theorem ndAt_tab {X X' : World} {t t' : TB} {T : List Te} {N S C : List (Value × Value)} {k : Nat} {m : Nd} (h : Hid (NdAt X k m)) (ht : Hid (Tab X t T N S C)) (f : Hid (TFr t t' X X')) : Hid (NdAt X' k m) :=
  ((unhide f).typed (unhide ht) (unhide h) (by decide) (by decide)).trans (unhide h)
theorem ndAt_below {X X' : World} {k : Nat} {m : Nd} (h : Hid (NdAt X k m)) (hb : Hid (Below X.heap.size X X')) : Hid (NdAt X' k m) := ((unhide hb).block k (NdAt.lt (unhide h))).trans (unhide h)
set_option maxRecDepth 100000 in
set_option maxHeartbeats 4000000 in
theorem of_one {m m1 : Nd} {u : List Nat} (h1 : m.sh = 1 ∨ m.sh = 2 ∨ m.sh = 3) (h2 : PartsV W F m.pv [m1]) (HI : OfC W F m1 u) : OfC W F m u := by
  intro X t T S C hst h hT hl
  have hp := parts_stay h2 (unhide hst)
  obtain ⟨ao, cap, epv, hv⟩ := own_view hp
  obtain ⟨g, rfl, -, hgl, hgc, -⟩ := hv (by simp)
  have hnc := nd_cells (nds := [m1]) (by simpa using hgc) 0 (by simp)
  have hpn : m.pa = some ⟨g, 0, none⟩ ∧ m.pn = 1 ∧ m.pc = cap := by injection epv with e1 e2 e3; exact ⟨e1, e2, e3⟩
  obtain ⟨e1, e2, e3⟩ := hpn
  obtain ⟨sh, pa, pn, pc, ss, le, mo, fa, sz⟩ := m
  dsimp only at e1 e2 e3 h1
  subst e1 e2 e3
  have HN := hide (NdAt.new X ⟨sh, some ⟨g, 0, none⟩, 1, pc, ss, le, mo, fa, sz⟩)
  have hnc1 : NdCell (X.alloc (obNd ⟨sh, some ⟨g, 0, none⟩, 1, pc, ss, le, mo, fa, sz⟩)) g 0 m1 := NdCell.below (B := X.heap.size) hnc ((Below.refl _ _).alloc (Nat.le_refl _) _) hgl
  have HB : Hid (Below X.heap.size X (X.alloc (obNd ⟨sh, some ⟨g, 0, none⟩, 1, pc, ss, le, mo, fa, sz⟩))) := (Below.refl _ _).alloc (Nat.le_refl _) _
  unfold vNd
  dsimp only
  unfold obNd at hnc1 HN HB
  dsimp only at hnc1 HN HB
  obtain ⟨wb, hwb⟩ : ∃ wb, X.alloc (.cells #[.int .i64 sh, .slice (some ⟨g, 0, none⟩) 1 pc, .string ss, .int .i64 le, .int .i64 mo, .int .i64 fa, .int .i64 sz] 53) = wb := ⟨_, rfl⟩
  rw [hwb] at hnc1 HN HB
  obtain ⟨d0, d1, d2, d3, d4, d5, d6⟩ := hnc1
  obtain ⟨c0, c1, c2, c3, c4, c5, c6⟩ := NdAt.cells (unhide HN)
  dsimp only at c0 c1 c2 c3 c4 c5 c6
  have hst1 : StayN W (wb.alloc (obNd m1)) F := ((unhide hst).below (unhide HB)).below ((Below.refl _ _).alloc (Nat.le_refl _) _)
  have HT1 := Tab.alloc (Tab.below h (unhide HB)) (obNd m1)
  have HI1 := hide (HI (wb.alloc (obNd m1)) t T S C hst1 HT1 hT hl)
  have HN1 := NdAt.alloc HN (obNd m1)
  have HF1 : Hid (TFr t t X (wb.alloc (obNd m1))) := TFr.below ((unhide HB).alloc (unhide HB).size _)
  unfold vNd at HI1
  obtain ⟨sh1, pa1, pn1, pc1, ss1, le1, mo1, fa1, sz1⟩ := m1
  dsimp only at HI1 d0 d1 d2 d3 d4 d5 d6
  unfold obNd at HI1 HN1 HF1 HT1
  dsimp only at HI1 HN1 HF1 HT1
  obtain ⟨w1, hw1⟩ : ∃ w1, wb.alloc (.cells #[.int .i64 sh1, .slice pa1 pn1 pc1, .string ss1, .int .i64 le1, .int .i64 mo1, .int .i64 fa1, .int .i64 sz1] 53) = w1 := ⟨_, rfl⟩
  have b0 : w1.cell? ⟨wb.heap.size, 0, none⟩ = some (.int .i64 sh1) := by rw [← hw1]; exact cells_at rfl 0 rfl
  have b1 : w1.cell? ⟨wb.heap.size, 1, none⟩ = some (.slice pa1 pn1 pc1) := by rw [← hw1]; exact cells_at rfl 1 rfl
  have b2 : w1.cell? ⟨wb.heap.size, 2, none⟩ = some (.string ss1) := by rw [← hw1]; exact cells_at rfl 2 rfl
  have b3 : w1.cell? ⟨wb.heap.size, 3, none⟩ = some (.int .i64 le1) := by rw [← hw1]; exact cells_at rfl 3 rfl
  have b4 : w1.cell? ⟨wb.heap.size, 4, none⟩ = some (.int .i64 mo1) := by rw [← hw1]; exact cells_at rfl 4 rfl
  have b5 : w1.cell? ⟨wb.heap.size, 5, none⟩ = some (.int .i64 fa1) := by rw [← hw1]; exact cells_at rfl 5 rfl
  have b6 : w1.cell? ⟨wb.heap.size, 6, none⟩ = some (.int .i64 sz1) := by rw [← hw1]; exact cells_at rfl 6 rfl
  rw [hw1] at HI1 HN1 HF1 HT1
  clear hst1 HI h2 hst hp hnc hgc hv h epv
  go_enter Tryz.func27, Tryz.ntmps27
  go_wp2_with fail
  go_loopw [5, 11] (fun v i wr => (v = .slice none 0 0 ∧ i = .int .i64 0 ∧ Hid (wr = wb)) ∨ (∃ (n : Nat) (T' : List Te) (t' : TB) (g3 cap3 : Nat), v = .slice (some ⟨g3, 0, none⟩) 1 cap3 ∧ i = .int .i64 1 ∧ Hid (OfR u T n T') ∧ Hid (Tab wr t' T' (numPairs T') S C) ∧ Hid (TFr t t' X wr) ∧ Hid (wr.ownsRow X.heap.size 3 1 (.slice (some ⟨g3, 0, none⟩) 1 cap3) 1 (ints [(n : Int)])) ∧ wr.cell? ⟨X.heap.size, 0, none⟩ = some (.int .i64 sh))) (fun _ i _ => 1 - (intOf i).toNat)
  case atStart => exact .inl ⟨rfl, rfl, rfl⟩
  case round =>
    rcases hrel with ⟨rfl, rfl, HW⟩ | ⟨n, T', t', g3, cap3, rfl, rfl, HR, HT, HF, HO, q0⟩
    · obtain rfl : wr = wb := unhide HW
      go_wp2_with (first
        | (go_at_call 27; refine (unhide HI1).mono ?_; clear HI1; rintro e w2 ⟨n, T', t', rfl, HR2, HT2, HF2⟩; have HN2 : Hid (w2.ownsRow X.heap.size 3 1 (.slice none 0 0) ([] : List Int).length (ints [])) := World.ownsRow_nil _ _ _ _; have HB2 : Hid (Below w2.heap.size w2 w2) := Below.refl _ _)
        | (at_builtin; refine app_int w2 w2 [] (.slice none 0 0) (n : Int) (.tmp 15) (.tmp 19) rfl rfl rfl rfl (World.ownsRow_nil _ _ _ _) HB2 (by simp) ?_; intro v' w3 HO3 HB3; obtain ⟨ao, cap3, rfl, hv⟩ := own_view (unhide HO3); obtain ⟨g3, rfl, -⟩ := hv (by simp)))
      go_roundw
      case rel =>
        refine .inr ⟨n, T', t', g3, cap3, rfl, rfl, HR2, Tab.below HT2 (unhide HB3), ?_, ?_, ?_⟩
        · exact hide (((unhide HF1).trans (unhide HF2)).trans (TFr.below (unhide HB3)))
        · exact own_lower HO3 (Nat.le_trans (unhide HF1).size (unhide HF2).size)
        · exact (NdAt.cells (unhide (ndAt_below (ndAt_tab HN1 HT1 HF2) HB3))).1
      case measure => simp [intOf]
    · clear HI1 HN1 HF1 HT1 c0 c1 c2 c3 c4 c5 c6 b0 b1 b2 b3 b4 b5 b6 d0 d1 d2 d3 d4 d5 d6
      have hR := unhide HR
      have hlen := hR.sz
      have cg := ints_own (own_base (unhide HO) (Nat.zero_le _))
      have HAN := hide (any_lit (cap0 := cap3) HT cg hR.kn (by omega))
      have HAL := hide (all_lit (cap0 := cap3) HT cg hR.kn (by omega))
      have HRO := hide (row_lit_any (w0 := X) (ns := [n]) (cap := cap3) HT HO (GoodRow.one hR.lt.wf (by have := hR.lt.len; omega) hR.kn.lt hR.kn.1) (by simp only [List.length_cons, List.length_nil]; omega) (by simp))
      rw [row_single hR.kn.1] at HRO
      rw [(unhide HF).tb] at HAN HAL HRO
      simp only [List.length_cons, List.length_nil, Nat.zero_add] at HRO
      clear hR hlen
      rcases h1 with rfl | rfl | rfl
      · go_wp2_with (go_at_call 50; refine (unhide HAN).mono ?_; clear HAN; rintro e w4 ⟨rfl, t4, HT4, HF4⟩)
        go_ret
        exact ⟨n, T', t4, rfl, HR, HT4, hide ((unhide HF).trans (unhide HF4))⟩
      · go_wp2_with (go_at_call 51; refine (unhide HAL).mono ?_; clear HAL; rintro e w4 ⟨rfl, t4, HT4, HF4⟩)
        go_ret
        exact ⟨n, T', t4, rfl, HR, HT4, hide ((unhide HF).trans (unhide HF4))⟩
      · go_wp2_with (go_at_call 52; refine (unhide HRO).mono ?_; clear HRO; rintro e w4 ⟨rfl, t4, HT4, HF4⟩)
        go_ret
        exact ⟨n, T', t4, rfl, HR, HT4, hide ((unhide HF).trans (unhide HF4))⟩
end
end Go.Proofs.YtfolanohokflkabGreatDoor

/-
  ofNode on a row of sets.
-/
namespace Go.Proofs.YtfolanohokflkabGreatDoor
open Go.RowKit
/-- all but one row of numbers stays. -/
structure GrI (w w' : World) (v : Value) : Prop where
  os : w'.os = w.os
  tape : w'.tape = w.tape
  output : w'.output = w.output
  size : w.heap.size ≤ w'.heap.size
  block : ∀ k, k < w.heap.size → v.ownBlock ≠ some k → w'.heap[k]? = w.heap[k]?
/-- 'm = append(m, n)', m a slice of numbers. -/
theorem app_num {ops : Array Oper} {rest : List Oper} {o : Oper} {a : Act} {Q : Exit → Act → World → Prop} (B : Nat) (wr : World) (zs : List Int) (v : Value) (z : Int) (s x : Operand) (hg : o.guard = none)
    (hop : o.op = .call { callee := .builtin .append, args := #[s, x], argTypes := #[71, 71] }) (hs : a.eval s = v) (hx : a.eval x = .slice (some ⟨wr.heap.size, 0, none⟩) 1 1)
    (ho : Hid (wr.ownsRow B 3 1 v zs.length (ints zs))) (hB : B ≤ wr.heap.size) (hl : zs.length ≤ 2000000)
    (K : ∀ g cap w', Hid (w'.ownsRow B 3 1 (.slice (some ⟨g, 0, none⟩) (zs ++ [z]).length cap) (zs ++ [z]).length (ints (zs ++ [z]))) → Hid (GrI wr w' v) → wpList Tryz.prog ops Q rest (a.put o.dst (.slice (some ⟨g, 0, none⟩) (zs ++ [z]).length cap)) w') :
    wpList Tryz.prog ops Q (o :: rest) a (wr.alloc (.cells #[.int .i64 z] 3)) := by
  obtain ⟨i0, hi, hz0, hz1, hz2⟩ := info_parts infoInt
  refine wpList_append_own _ hg s x 71 hop B 3 i0 (.int .i64 0) 1 8 Tryz.underlying71 hi hz0 hz1 hz2 rfl (by decide) _ _ _ hs ((unhide ho).alloc _) ⟨wr.heap.size, 0, none⟩ 1 1 [.int .i64 z] hx rfl (cells_new wr [.int .i64 z] _) (c_one _ rfl) (by unfold maxLen; omega) (by omega) (by simp; omega) ?_
  intro v' w' h1 h2 _
  have h1' : w'.ownsRow B 3 1 v' (zs ++ [z]).length (ints (zs ++ [z])) := by rw [ints_snoc, List.length_append]; exact h1
  obtain ⟨ao, cap, rfl, hv⟩ := own_view h1'
  obtain ⟨g, rfl, -⟩ := hv (by simp)
  refine K g cap w' h1' ⟨h2.os, h2.tape, h2.output, Nat.le_trans (by simp) h2.size, fun k hk hne => (h2.block k (by simp; omega) (fun e => hne e.symm)).trans (Below.heap_alloc wr _ k hk)⟩
/-- what lies in typed blocks, behind such an append. -/
theorem GrI.typed {w w' : World} {v : Value} {B n : Nat} {xs : List Value} (h : GrI w w' v) (ho : w.ownsRow B 3 1 v n xs) {k : Nat} {cur : Array Value} {ty : TypeId} {z : Nat × Nat} (hk : w.heap[k]? = some (.cells cur ty z)) (hty : ty ≠ 3) : w'.heap[k]? = w.heap[k]? := by
  refine h.block k (Array.getElem?_eq_some_iff.1 hk).1 (fun e => ?_)
  obtain ⟨hl, hx | ⟨g, cap, cur', hv, hb', hg, rest⟩⟩ := ho
  · rw [hx.1] at e; cases e
  · rw [hv] at e
    have eg : g = k := by injection e
    subst eg
    rw [hg] at hk; injection hk with hk; injection hk with _ e; exact hty e.symm
theorem GrI.tab {w w' : World} {v : Value} {B n : Nat} {xs : List Value} {t : TB} {T : List Te} {N S C : List (Value × Value)} (h : GrI w w' v) (ho : w.ownsRow B 3 1 v n xs) (ht : Tab w t T N S C) : Tab w' t T N S C := by
  refine ht.move (fun k hk hl => h.block k hl (fun e => ?_))
  obtain ⟨_, hx | ⟨g, cap, cur', hv, hb', hg, rest⟩⟩ := ho
  · rw [hx.1] at e; cases e
  · rw [hv] at e
    have eg : g = k := by injection e
    subst eg
    exact TF.typed ht hg (by decide) (by decide) hk
theorem GrI.fr {w w' X : World} {v : Value} {n : Nat} {xs : List Value} {t t' : TB} (h : GrI w w' v) (ho : w.ownsRow X.heap.size 3 1 v n xs) (f : TFr t t' X w) : TFr t t' X w' :=
  ⟨h.os.trans f.os, h.tape.trans f.tape, h.output.trans f.output, Nat.le_trans f.size h.size, fun k hk hf => (h.block k (Nat.lt_of_lt_of_le hk f.size) (fun e => by have := (ho.lt k e).1; omega)).trans (f.block k hk hf), f.tb, f.nb, f.sb, f.cb, f.row⟩
theorem GrI.stay {W w w' : World} {v : Value} {B n : Nat} {xs : List Value} {F : Nat → Prop} (h : GrI w w' v) (ho : w.ownsRow B 3 1 v n xs) (hs : StayN W w F) : StayN W w' F := fun k hk hc => by
  obtain ⟨cur, hc'⟩ := hc
  have e := hs k hk ⟨cur, hc'⟩
  exact (h.typed ho (e.trans hc') (by decide)).trans e
abbrev nats (ns : List Nat) : List Int := ns.map fun (n : Nat) => (n : Int)
/-- the numbers of the first parts. -/
structure RwN (X : World) (t : TB) (T : List Te) (S C : List (Value × Value)) (cs : List Nat) (m : Nd) (W : World) (F : Nat → Prop) (v : Value) (wr : World) (ns : List Nat) (T' : List Te) (t' : TB) : Prop where
  own : wr.ownsRow X.heap.size 3 1 v (nats ns).length (ints (nats ns))
  tab : Tab wr t' T' (numPairs T') S C
  lt : LT T'
  sub : ∃ Y, T' = T ++ Y
  one : ∀ (i : Nat) (h : i < ns.length) (h' : i < cs.length), IsOne T' ns[i] cs[i]
  sz : T'.length ≤ T.length + ns.length
  fr : TFr t t' X wr
  stay : StayN W wr F
  nd : NdAt wr X.heap.size m
theorem RwN.next {X : World} {t : TB} {T : List Te} {S C : List (Value × Value)} {cs : List Nat} {m : Nd} {W : World} {F : Nat → Prop} {v : Value} {wr : World} {ns : List Nat} {T' : List Te} {t' : TB} (h : RwN X t T S C cs m W F v wr ns T' t') {o : Obj} {n c : Nat} {T2 : List Te} {t2 : TB} {w2 w3 : World} {g cap : Nat} (hc : cs[ns.length]? = some c) (hR : OfR [c] T' n T2) (hT2 : Tab w2 t2 T2 (numPairs T2) S C) (hF2 : TFr t' t2 (wr.alloc o) w2) (hO3 : w3.ownsRow X.heap.size 3 1 (.slice (some ⟨g, 0, none⟩) (nats ns ++ [(n : Int)]).length cap) (nats ns ++ [(n : Int)]).length (ints (nats ns ++ [(n : Int)]))) (hG : GrI w2 w3 v) :
    RwN X t T S C cs m W F (.slice (some ⟨g, 0, none⟩) (nats (ns ++ [n])).length cap) w3 (ns ++ [n]) T2 t2 := by
  have hT1 := unhide (Tab.alloc (hide h.tab) o)
  have ho1 : (wr.alloc o).ownsRow X.heap.size 3 1 v (nats ns).length (ints (nats ns)) := h.own.alloc _
  have ho2 := own_typed ho1 hT1 hF2 (by decide) (by decide)
  have en : nats (ns ++ [n]) = nats ns ++ [(n : Int)] := by simp
  have hfr : TFr t t2 X w2 := (h.fr.trans (TFr.below ((Below.refl _ _).alloc (Nat.le_refl _) _))).trans hF2
  have hst : StayN W w2 F := (h.stay.below ((Below.refl _ _).alloc (Nat.le_refl _) _)).tab hT1 hF2
  have hn2 := unhide (ndAt_tab (hide (NdAt.move h.nd (Below.heap_alloc wr o _ (NdAt.lt h.nd)))) (hide hT1) (hide hF2))
  refine ⟨by rw [en]; exact hO3, hG.tab ho2 hT2, hR.lt, ?_, fun i hi hi' => ?_, ?_, hG.fr ho2 hfr, hG.stay ho2 hst, ?_⟩
  · obtain ⟨Y, e⟩ := h.sub
    obtain ⟨Z, e'⟩ := hR.sub
    exact ⟨Y ++ Z, by rw [e', e, List.append_assoc]⟩
  · by_cases hlt : i < ns.length
    · rw [List.getElem_append_left hlt]
      obtain ⟨Z, e'⟩ := hR.sub
      rw [e']
      exact (h.one i hlt hi').mono
    · have e : i = ns.length := by simp at hi; omega
      subst e
      rw [List.getElem?_eq_getElem hi'] at hc
      injection hc with hc
      rw [hc]
      simp
      exact hR.one c rfl
  · have := h.sz
    have h2 := hR.sz1 c rfl
    simp only [List.length_append, List.length_cons, List.length_nil]
    omega
  · exact (hG.typed ho2 hn2 (by decide)).trans hn2
section
variable {W : World} {F : Nat → Prop}
set_option maxRecDepth 100000 in
set_option maxHeartbeats 4000000 in
theorem of_row {m : Nd} {nds : List Nd} {cs : List Nat} (h1 : m.sh = 3) (h2 : PartsV W F m.pv nds) (hlen : nds.length = cs.length) (hz : cs.length ≤ 1000) (HI : ∀ (i : Nat) (h : i < nds.length) (h' : i < cs.length), OfC W F nds[i] [cs[i]]) : OfC W F m cs := by
  intro X t T S C hst h hT hl
  have hp := parts_stay h2 (unhide hst)
  obtain ⟨ao, cap, epv, hv⟩ := own_view hp
  obtain ⟨e1, e2, e3⟩ : m.pa = ao ∧ m.pn = nds.length ∧ m.pc = cap := by injection epv with e1 e2 e3; exact ⟨e1, e2, e3⟩
  have HG : Hid (0 < nds.length → ∃ g, ao = some ⟨g, 0, none⟩) := fun h0 => by obtain ⟨g, e, _⟩ := hv h0; exact ⟨g, e⟩
  have HPV := hide h2
  have HPS : Hid (∀ (wr : World) (k : Nat) (hk : k < nds.length), StayN W wr F → ∃ g, ao = some ⟨g, 0, none⟩ ∧ NdCell wr g (k * 7) nds[k]) := fun wr k hk hs => by
    have hp' := parts_stay h2 hs
    obtain ⟨ao', cap', e', hv'⟩ := own_view hp'
    obtain ⟨g', e4, _, _, hgc, _⟩ := hv' (by omega)
    have : ao = ao' := by rw [epv] at e'; injection e'
    exact ⟨g', this.trans e4, nd_cells hgc k hk⟩
  have HN := hide (NdAt.new X m)
  have HB : Hid (Below X.heap.size X (X.alloc (obNd m))) := (Below.refl _ _).alloc (Nat.le_refl _) _
  have HI0 : Hid (RwN X t T S C cs m W F (.slice none 0 0) (X.alloc (obNd m)) [] T t) := ⟨World.ownsRow_nil _ _ _ _, unhide (Tab.below h (unhide HB)), unhide hT, ⟨[], by simp⟩, fun i hi => by simp at hi, by simp, TFr.below (unhide HB), (unhide hst).below (unhide HB), unhide HN⟩
  have hmv : vNd m = .agg #[.int .i64 3, .slice ao nds.length cap, .string m.ss, .int .i64 m.le, .int .i64 m.mo, .int .i64 m.fa, .int .i64 m.sz] := by unfold vNd; rw [h1, e1, e2, e3]
  have hob : obNd m = .cells #[.int .i64 3, .slice ao nds.length cap, .string m.ss, .int .i64 m.le, .int .i64 m.mo, .int .i64 m.fa, .int .i64 m.sz] 53 := by unfold obNd; rw [h1, e1, e2, e3]
  rw [hmv]
  rw [hob] at HI0
  have HCL : Hid (∀ wr, NdAt wr X.heap.size m → wr.cell? ⟨X.heap.size, 0, none⟩ = some (.int .i64 3)) := fun wr hn => by have := (NdAt.cells hn).1; rw [h1] at this; exact this
  have HLN := hide hlen
  have hnz : nds.length ≤ 1000 := by omega
  have HTl := hide (unhide hT).len
  clear hmv hob HN HB hst h hT epv hp hv h2 e1 e2 e3 h1 hlen
  generalize m.ss = xs at *
  generalize m.le = xl at *
  generalize m.mo = xm at *
  generalize m.fa = xa at *
  generalize m.sz = xz at *
  obtain ⟨wb, hwb⟩ : ∃ wb, X.alloc (.cells #[.int .i64 3, .slice ao nds.length cap, .string xs, .int .i64 xl, .int .i64 xm, .int .i64 xa, .int .i64 xz] 53) = wb := ⟨_, rfl⟩
  have c1 : wb.cell? ⟨X.heap.size, 1, none⟩ = some (.slice ao nds.length cap) := by rw [← hwb]; exact cells_at rfl 1 rfl
  rw [hwb] at HI0
  go_enter Tryz.func27, Tryz.ntmps27
  go_wp2_with fail
  go_loopw [5, 11] (fun v i wr => ∃ (ns : List Nat) (T' : List Te) (t' : TB), ns.length ≤ nds.length ∧ i = .int .i64 (ns.length : Int) ∧ (∃ a1 c1, v = .slice a1 ns.length c1) ∧ Hid (RwN X t T S C cs m W F v wr ns T' t')) (fun _ i _ => nds.length - (intOf i).toNat)
  case atStart => exact ⟨[], T, t, Nat.zero_le _, rfl, ⟨none, 0, rfl⟩, HI0⟩
  case round =>
    obtain ⟨ns, T', t', hle, rfl, ⟨a1, c1', rfl⟩, HR⟩ := hrel
    have hr := unhide HR
    have hsz := hr.sz
    by_cases hlt : ns.length < nds.length
    · obtain ⟨g, rfl, d0, d1, d2, d3, d4, d5, d6⟩ := unhide HPS wr ns.length hlt hr.stay
      have hlc : ns.length < cs.length := by have := unhide HLN; omega
      have hcg : cs[ns.length]? = some cs[ns.length] := List.getElem?_eq_getElem hlc
      have HCG := hide hcg
      have HIk := HI ns.length hlt hlc
      generalize cs[ns.length] = c at *
      have HCA := hide (HIk (wr.alloc (obNd nds[ns.length])) t' T' S C (hide (hr.stay.below ((Below.refl _ _).alloc (Nat.le_refl _) _))) (Tab.alloc (hide hr.tab) _) (hide hr.lt) (by simp only [List.length_cons, List.length_nil]; have := unhide HLN; omega))
      rw [hr.fr.tb] at HCA
      have HNX := hide (fun (n : Nat) (T2 : List Te) (t2 : TB) (w2 w3 : World) (g3 cap3 : Nat) (x1 : OfR [c] T' n T2) (x2 : Tab w2 t2 T2 (numPairs T2) S C) (x3 : TFr t' t2 (wr.alloc (obNd nds[ns.length])) w2) (x4 : w3.ownsRow X.heap.size 3 1 (.slice (some ⟨g3, 0, none⟩) (nats ns ++ [(n : Int)]).length cap3) (nats ns ++ [(n : Int)]).length (ints (nats ns ++ [(n : Int)]))) (x5 : GrI w2 w3 (.slice a1 ns.length c1')) => hr.next (o := obNd nds[ns.length]) hcg x1 x2 x3 x4 x5)
      have HOW := hide (fun (w2 : World) (t2 : TB) (x3 : TFr t' t2 (wr.alloc (obNd nds[ns.length])) w2) => own_typed (hr.own.alloc (obNd nds[ns.length])) (unhide (Tab.alloc (hide hr.tab) _)) x3 (by decide) (by decide))
      have hXs : X.heap.size ≤ wr.heap.size := hr.fr.size
      have hI : (ns.length : Int) < (nds.length : Int) := by omega
      have hI0 : (0 : Int) ≤ (ns.length : Int) := by omega
      generalize nds[ns.length] = m1 at *
      obtain ⟨sh1, pa1, pn1, pc1, ss1, le1, mo1, fa1, sz1⟩ := m1
      dsimp only [vNd, obNd] at HCA HNX HOW
      dsimp only at d0 d1 d2 d3 d4 d5 d6
      obtain ⟨w1, hw1⟩ : ∃ w1, wr.alloc (.cells #[.int .i64 sh1, .slice pa1 pn1 pc1, .string ss1, .int .i64 le1, .int .i64 mo1, .int .i64 fa1, .int .i64 sz1] 53) = w1 := ⟨_, rfl⟩
      have b0 : w1.cell? ⟨wr.heap.size, 0, none⟩ = some (.int .i64 sh1) := by rw [← hw1]; exact cells_at rfl 0 rfl
      have b1 : w1.cell? ⟨wr.heap.size, 1, none⟩ = some (.slice pa1 pn1 pc1) := by rw [← hw1]; exact cells_at rfl 1 rfl
      have b2 : w1.cell? ⟨wr.heap.size, 2, none⟩ = some (.string ss1) := by rw [← hw1]; exact cells_at rfl 2 rfl
      have b3 : w1.cell? ⟨wr.heap.size, 3, none⟩ = some (.int .i64 le1) := by rw [← hw1]; exact cells_at rfl 3 rfl
      have b4 : w1.cell? ⟨wr.heap.size, 4, none⟩ = some (.int .i64 mo1) := by rw [← hw1]; exact cells_at rfl 4 rfl
      have b5 : w1.cell? ⟨wr.heap.size, 5, none⟩ = some (.int .i64 fa1) := by rw [← hw1]; exact cells_at rfl 5 rfl
      have b6 : w1.cell? ⟨wr.heap.size, 6, none⟩ = some (.int .i64 sz1) := by rw [← hw1]; exact cells_at rfl 6 rfl
      have hs1 : wr.heap.size ≤ w1.heap.size := by rw [← hw1]; simp
      rw [hw1] at HCA HNX HOW
      clear hr HIk hcg HR HI0 c1 hwb HI
      go_wp2_with (first
        | (go_at_call 27; refine (unhide HCA).mono ?_; clear HCA; rintro e w2 ⟨n, T2, t2, rfl, HR2, HT2, HF2⟩; have HO2 := hide (unhide HOW w2 t2 (unhide HF2)); have hs2 : X.heap.size ≤ w2.heap.size := Nat.le_trans (Nat.le_trans hXs hs1) (unhide HF2).size)
        | (at_builtin; refine app_num X.heap.size w2 (nats ns) (.slice a1 ns.length c1') (n : Int) (.tmp 15) (.tmp 19) rfl rfl rfl rfl HO2 hs2 (by simp; omega) ?_; intro g3 cap3 w3 HO3 HG3))
      go_roundw
      case rel =>
        have HX := hide (unhide HNX n T2 t2 w2 w3 g3 cap3 (unhide HR2) (unhide HT2) (unhide HF2) (unhide HO3) (unhide HG3))
        have el : (nats (ns ++ [n])).length = ns.length + 1 := by simp
        rw [el] at HX
        have hle' : (ns ++ [n]).length ≤ nds.length := by rw [List.length_append]; exact hlt
        have el3 : (ns ++ [n]).length = ns.length + 1 := by simp
        exact ⟨ns ++ [n], T2, t2, hle', by rw [el3]; rfl, ⟨some ⟨g3, 0, none⟩, cap3, by rw [el3]⟩, HX⟩
      case measure => simp [intOf]; omega
    · have en : ns.length = nds.length := by omega
      have enc : ns.length = cs.length := by have := unhide HLN; omega
      have hGR : GoodRow T' ns := GoodRow.noch hr.lt.wf (by have := hr.lt.len; omega) (fun x hx => by
        obtain ⟨i, hi, rfl⟩ := List.getElem_of_mem hx
        exact ⟨_, (hr.one i hi (by omega)).2, by show (0 : Int) ≠ 2; decide⟩) (by omega)
      have hns : NsAt wr (fun k => k < wr.heap.size ∧ ¬ TF t' k) (.slice a1 ns.length c1') ns := by
        have ho := hr.own
        have el : (nats ns).length = ns.length := by simp
        rw [el] at ho
        by_cases h0 : ns.length = 0
        · obtain rfl : ns = [] := List.length_eq_zero_iff.1 h0
          obtain ⟨_, hx | ⟨g', cap', cur, hv, hb', hg, rest⟩⟩ := ho
          · exact .inl ⟨hx.1, rfl⟩
          · refine .inr ⟨g', cap', hv, ⟨(Array.getElem?_eq_some_iff.1 hg).1, TF.typed hr.tab hg (by decide) (by decide)⟩, fun j hj => by simp at hj⟩
        · obtain ⟨ao', cp, e, hv'⟩ := own_view ho
          obtain ⟨g2, e2, -⟩ := hv' (by omega)
          injection e with ea eb ec
          rw [ea, e2]
          rw [ea, e2] at ho
          exact ns_at (w0 := X) hr.tab ho
      obtain ⟨l1, l2, l3, l4, l5, l6⟩ := row_lit hr.lt ns cs enc (fun i h h' => hr.one i h h')
      have HRO := hide (row_any (S := S) (C := C) (hide hr.tab) (hide hns) (hide hGR) (by omega) (by omega))
      rw [hr.fr.tb] at HRO
      have c0 := unhide HCL wr hr.nd
      have HF := hide hr.fr
      have HOR : Hid (OfR cs T (rowF T' ns).2 (rowF T' ns).1) := by
        have key : ∀ c, cs = [c] → ∃ x, ns = [x] ∧ IsOne T' x c ∧ rowF T' ns = (T', x) := fun c hc => by
          subst hc
          obtain ⟨x, rfl⟩ : ∃ x, ns = [x] := by
            match ns, enc with
            | [x], _ => exact ⟨x, rfl⟩
          have h0 := hr.one 0 (by simp) (by simp)
          have h0' : IsOne T' x c := h0
          exact ⟨x, rfl, h0', row_single (h0'.not hr.lt).1⟩
        refine ⟨l1, ?_, l3, l5, fun c hc => ?_, by omega, fun c hc => ?_⟩
        · obtain ⟨Y, e⟩ := hr.sub
          obtain ⟨Z, e'⟩ := l2
          exact ⟨Y ++ Z, by rw [e', e, List.append_assoc]⟩
        · obtain ⟨x, _, h0, e⟩ := key c hc
          rw [e]
          exact h0
        · obtain ⟨x, e1, _, e⟩ := key c hc
          rw [e]
          rw [e1] at hsz
          exact hsz
      have hI : ¬ (ns.length : Int) < (nds.length : Int) := by omega
      clear hr hns hGR l1 l2 l3 l4 l5 l6 HR HI0 c1 hwb HI hsz
      generalize rowF T' ns = R at *
      rw [en] at HRO hI ⊢
      clear en enc
      go_wp2_with (go_at_call 52; refine (unhide HRO).mono ?_; clear HRO; rintro e w4 ⟨rfl, t4, HT4, HF4⟩)
      go_ret
      exact ⟨R.2, R.1, t4, rfl, HOR, HT4, hide ((unhide HF).trans (unhide HF4))⟩
end
end Go.Proofs.YtfolanohokflkabGreatDoor

/-
  ofNode on the tree of a literal.
-/
namespace Go.Proofs.YtfolanohokflkabGreatDoor
open Go.RowKit
theorem of_lit {W : World} {F : Nat → Prop} {m : Nd} {p : Pt} (h : NodeV W F m p) : ∀ u, LitTree p u → u.length ≤ 1000 → OfC W F m u := by
  induction h with
  | @set n l h1 h2 h3 =>
    rintro u ⟨hu, ⟨c, rfl, e⟩ | e⟩ _
    · injection e with e
      rw [e] at h2
      exact of_leaf h1 h2 h3 (hu c (by simp))
    · cases e
  | grp _ _ _ _ _ =>
    rintro u ⟨hu, ⟨c, rfl, e⟩ | e⟩ _ <;> cases e
  | @row n nds ts h1 h2 h3 h4 ih =>
    rintro u ⟨hu, ⟨c, rfl, e⟩ | e⟩ hz
    · cases e
    · injection e with e
      subst e
      have hlen : nds.length = u.length := by rw [h3, List.length_map]
      refine of_row h1 h2 hlen hz (fun i hi hi' => ih i hi (by rw [List.length_map]; exact hi') [u[i]] ⟨?_, .inl ⟨u[i], rfl, by simp⟩⟩ (by simp))
      intro c hc
      simp at hc
      rw [hc]
      exact hu _ (List.getElem_mem hi')
  | not _ _ _ _ =>
    rintro u ⟨hu, ⟨c, rfl, e⟩ | e⟩ _ <;> cases e
  | rep _ _ _ _ _ _ =>
    rintro u ⟨hu, ⟨c, rfl, e⟩ | e⟩ _ <;> cases e
  | one h1 h2 _ ih => exact fun u hu hz => of_one h1 h2 (ih u hu hz)
theorem lt_tab0 : LT tab0 := by
  refine ⟨⟨[], by simp⟩, ?_, ?_, by decide⟩
  · intro i x hx
    match i with
    | 0 => injection hx with hx; subst hx; exact .inl rfl
    | 1 => injection hx with hx; subst hx; exact .inr (.inl rfl)
    | 2 => injection hx with hx; subst hx; exact .inr (.inr (.inr ⟨.inr rfl, 0, by decide, rfl⟩))
    | i + 3 => simp [tab0] at hx
  · intro i x hx
    match i with
    | 0 => injection hx with hx; subst hx; exact ⟨fun _ => rfl, fun h => absurd h (by decide)⟩
    | 1 => injection hx with hx; subst hx; exact ⟨fun h => absurd h (by decide), fun h => absurd h (by decide)⟩
    | 2 => injection hx with hx; subst hx; exact ⟨fun h => absurd h (by decide), fun h => absurd h (by decide)⟩
    | i + 3 => simp [tab0] at hx
/-- what Match and Minimal want of ofNode. -/
def LitR2 (u : List Nat) (n : Nat) (T : List Te) : Prop := LT T ∧ T.length ≤ 2100 ∧ LitT T n u
theorem of_begin {u : List Nat} (hu : ∀ c ∈ u, c < 128) (hz : u.length ≤ 1000) : Hid (∀ (W : World) (b : Nat) (m : Nd) (X : World) (t : TB), Hid (NodeOK W (fun k => b < k) m (mkRow (u.map leafN))) → Hid (Below W.heap.size W X) → Hid (Tab X t tab0 (numPairs tab0) [] []) → Calls Tryz.prog 27 #[.pointer (some ⟨t.tb, 0, none⟩), vNd m] X fun e w' => ∃ (n : Nat) (t' : TB) (T : List Te), e = .returned (.int .i64 n) ∧ Hid (LitR2 u n T) ∧ Hid (Tab w' t' T (numPairs T) [] []) ∧ Hid (TFr t t' X w')) := by
  intro W b m X t hn hb ht
  refine (of_lit (unhide hn).2 u (lit_tree hu) hz X t tab0 [] [] (hide fun k hk hc => ?_) ht (hide lt_tab0) ?_).mono ?_
  · obtain ⟨cur, hc⟩ := hc
    exact (unhide hb).block k (Array.getElem?_eq_some_iff.1 hc).1
  · show 3 + 2 * u.length + 2 ≤ 1000000000000
    omega
  · rintro e w' ⟨n, T', t', rfl, hR, hT, hF⟩
    have hs := (unhide hR).sz
    have h3 : tab0.length = 3 := rfl
    exact ⟨n, t', T', rfl, hide ⟨(unhide hR).lt, by omega, (unhide hR).lit⟩, hT, hF⟩
end Go.Proofs.YtfolanohokflkabGreatDoor
