import Derived.Test.YtfolanohokflkabGreatDoorTabD
import Derived.WalkKit
import Derived.WalkSpells
import Derived.WalkLawsBesides
import Derived.WalkMore
import Derived.Test.YtfolanohokflkabGreatDoorTermA
import Derived.Lib.DecodeN
import Derived.Shelf.Unicode.DecodeSlow
/-
  The table as a plain machine: keep.
-/
namespace Go.Proofs.YtfolanohokflkabGreatDoor
open Go.RowKit

def heB (T : List Te) (i : Int) : Bool := match T[i.toNat]? with
  | some x => x.2
  | none => false
def emptyB (T : List Te) (k : Ky) : Bool :=
  if k.kd = 1 ∨ k.kd = 3 then true
  else if k.kd = 2 ∨ k.kd = 5 then heB T k.fi && heB T k.se
  else if k.kd = 4 then heB T k.fi || heB T k.se
  else if k.kd = 6 then !heB T k.fi
  else false
/-- a key's parts are terms of the table. -/
def KyIn (T : List Te) (k : Ky) : Prop :=
  k.kd = 0 ∨ k.kd = 1 ∨ ((k.kd = 2 ∨ k.kd = 4 ∨ k.kd = 5) ∧ (∃ i : Nat, i < T.length ∧ k.fi = (i : Int)) ∧ ∃ j : Nat, j < T.length ∧ k.se = (j : Int)) ∨ ((k.kd = 3 ∨ k.kd = 6) ∧ ∃ i : Nat, i < T.length ∧ k.fi = (i : Int))
theorem heB_at {T : List Te} {i : Nat} {x : Te} (h : T[i]? = some x) : heB T (i : Int) = x.2 := by simp [heB, h]
theorem kyWF_of {T : List Te} {k : Ky} (h : KyIn T k) : KyWF T k (emptyB T k) := by
  have get : ∀ {i : Nat}, i < T.length → ∃ x, T[i]? = some x := fun h => ⟨_, List.getElem?_eq_getElem h⟩
  unfold KyWF emptyB
  rcases h with e | e | ⟨e, ⟨i, hi, e1⟩, j, hj, e2⟩ | ⟨e, i, hi, e1⟩
  · left; simp [e]
  · right; left; simp [e]
  · obtain ⟨x, hx⟩ := get hi
    obtain ⟨y, hy⟩ := get hj
    have a1 := heB_at hx
    have a2 := heB_at hy
    rcases e with e | e | e
    · right; right; left
      exact ⟨e, i, j, x, y, hx, hy, e1, e2, by simp [e, e1, e2, a1, a2]⟩
    · right; right; right; right; left
      exact ⟨e, i, j, x, y, hx, hy, e1, e2, by simp [e, e1, e2, a1, a2]⟩
    · right; right; right; right; right; left
      exact ⟨e, i, j, x, y, hx, hy, e1, e2, by simp [e, e1, e2, a1, a2]⟩
  · obtain ⟨x, hx⟩ := get hi
    have a1 := heB_at hx
    rcases e with e | e
    · right; right; right; left
      exact ⟨e, ⟨i, x, hx, e1⟩, by simp [e]⟩
    · right; right; right; right; right; right
      exact ⟨e, i, x, hx, e1, by simp [e, e1, a1]⟩

/-- keep, as a plain function of the table. -/
def keepP (T : List Te) (k : Ky) : List Te × Nat := match T.findIdx? (fun x => decide (x.1 = k)) with
  | some i => (T, i)
  | none => (T ++ [(k, emptyB T k)], T.length)
theorem keepP_cases (T : List Te) (k : Ky) : (∃ i b, T[i]? = some (k, b) ∧ keepP T k = (T, i)) ∨ ((∀ x ∈ T, x.1 ≠ k) ∧ keepP T k = (T ++ [(k, emptyB T k)], T.length)) := by
  unfold keepP
  cases h : T.findIdx? (fun x => decide (x.1 = k)) with
  | some i =>
    left
    obtain ⟨hi, hp, -⟩ := List.findIdx?_eq_some_iff_getElem.1 h
    refine ⟨i, T[i].2, ?_, rfl⟩
    rw [List.getElem?_eq_getElem hi]
    have : T[i].1 = k := by simpa using hp
    rw [← this]
  | none =>
    right
    refine ⟨fun x hx e => ?_, rfl⟩
    have := List.findIdx?_eq_none_iff.1 h x hx
    simp [e] at this
theorem keepP_sub (T : List Te) (k : Ky) : ∃ X, (keepP T k).1 = T ++ X := by
  rcases keepP_cases T k with ⟨i, b, _, e⟩ | ⟨_, e⟩
  · exact ⟨[], by rw [e]; simp⟩
  · exact ⟨_, by rw [e]⟩
theorem keepP_lt (T : List Te) (k : Ky) : (keepP T k).2 < (keepP T k).1.length := by
  rcases keepP_cases T k with ⟨i, b, h, e⟩ | ⟨_, e⟩
  · rw [e]; exact (List.getElem?_eq_some_iff.1 h).1
  · rw [e]; simp
/-- so many terms the table may have. -/
abbrev LIM : Nat := 1000000000000
theorem keep_any {w : World} {t : TB} {T : List Te} {S C : List (Value × Value)} {k : Ky} (h : Hid (Tab w t T (numPairs T) S C)) (hk : KyOK k) (hw : KyIn T k) (hl : (keepP T k).1.length ≤ LIM) :
    Calls Tryz.prog 46 #[.pointer (some ⟨t.tb, 0, none⟩), vKy k] w fun e w' => e = .returned (.int .i64 (keepP T k).2) ∧ ∃ t', Hid (Tab w' t' (keepP T k).1 (numPairs (keepP T k).1) S C) ∧ Hid (TFr t t' w w') := by
  rcases keepP_cases T k with ⟨i, b, hi, e⟩ | ⟨hn, e⟩
  · rw [e]
    exact (keep_old h hi).mono fun e w' ⟨h1, h2⟩ => ⟨h1, t, Tab.below h (unhide h2), TFr.below (unhide h2)⟩
  · rw [e] at hl ⊢
    have hl' : T.length < 1000000000000 := by
      simp only [List.length_append, List.length_cons, List.length_nil] at hl
      unfold LIM at hl
      omega
    exact keep_new h hk (kyWF_of hw) hn hl'
end Go.Proofs.YtfolanohokflkabGreatDoor

namespace Go.Proofs.YtfolanohokflkabGreatDoor
open Go.RowKit
/-! set, star, not -/
/-- what a call on the table comes to. -/
def TOut (R : List Te × Nat) (w : World) (t : TB) (S C : List (Value × Value)) (e : Ending) (w' : World) : Prop :=
  e = .returned (.int .i64 R.2) ∧ ∃ t', Hid (Tab w' t' R.1 (numPairs R.1) S C) ∧ Hid (TFr t t' w w')
theorem wf_small {i : Nat} (h : i ≤ LIM) : (Lit.int .i64 (i : Int)).wf = true := by
  unfold LIM at h
  have h1 : IntKind.i64.min ≤ (i : Int) := Int.le_trans (by decide) (Int.natCast_nonneg i)
  have h2 : (i : Int) ≤ IntKind.i64.max := Int.le_trans (b := 1000000000000) (by omega) (by decide)
  show (decide (IntKind.i64.min ≤ (i : Int)) && decide ((i : Int) ≤ IntKind.i64.max)) = true
  rw [decide_eq_true h1, decide_eq_true h2]
  rfl
theorem wf_0 : (Lit.int .i64 0).wf = true := by decide
theorem wf_1 : (Lit.int .i64 1).wf = true := by decide
theorem wf_2 : (Lit.int .i64 2).wf = true := by decide
theorem wf_3 : (Lit.int .i64 3).wf = true := by decide
theorem wf_4 : (Lit.int .i64 4).wf = true := by decide
theorem wf_5 : (Lit.int .i64 5).wf = true := by decide
theorem wf_6 : (Lit.int .i64 6).wf = true := by decide
theorem no_len : (⟨#[]⟩ : ByteArray).size ≤ maxLen := by decide
def setK (s : ByteArray) : Ky := ⟨0, s, 0, 0⟩
def starK (i : Nat) : Ky := ⟨3, ⟨#[]⟩, i, 0⟩
def notK6 (i : Nat) : Ky := ⟨6, ⟨#[]⟩, i, 0⟩
theorem setK_ok {s : ByteArray} (h : s.size ≤ maxLen) : KyOK (setK s) := ⟨wf_0, h, wf_0, wf_0⟩
theorem starK_ok {i : Nat} (h : i ≤ LIM) : KyOK (starK i) := ⟨wf_3, no_len, wf_small h, wf_0⟩
theorem notK6_ok {i : Nat} (h : i ≤ LIM) : KyOK (notK6 i) := ⟨wf_6, no_len, wf_small h, wf_0⟩
def setP (T : List Te) (s : ByteArray) : List Te × Nat := keepP T (setK s)
def starP (T : List Te) (i : Nat) : List Te × Nat :=
  if i = 0 ∨ i = 1 then (T, 1) else match T[i]? with
    | some x => if x.1.kd = 3 then (T, i) else keepP T (starK i)
    | none => (T, 0)
def notP6 (T : List Te) (i : Nat) : List Te × Nat := match T[i]? with
  | some x => if x.1.kd = 6 then (T, x.1.fi.toNat) else keepP T (notK6 i)
  | none => (T, 0)
section
variable {w : World} {t : TB} {T : List Te} {N S C : List (Value × Value)}
theorem Tab.at (h : Tab w t T N S C) {i : Nat} {x : Te} (hi : T[i]? = some x) : ∃ g, w.cell? ⟨t.tb, 22, none⟩ = some (.slice (some ⟨g, 0, none⟩) T.length t.tc) ∧ w.cell? ⟨g, i * 5, none⟩ = some (.int .i64 x.1.kd) ∧ w.cell? ⟨g, i * 5 + 1, none⟩ = some (.string x.1.st) ∧ w.cell? ⟨g, i * 5 + 2, none⟩ = some (.int .i64 x.1.fi) ∧ w.cell? ⟨g, i * 5 + 3, none⟩ = some (.int .i64 x.1.se) ∧ w.cell? ⟨g, i * 5 + 4, none⟩ = some (.bool x.2) := by
  obtain ⟨g, ea, en, c⟩ := h.term hi
  have q := h.cells.2.1
  rw [ea, en] at q
  exact ⟨g, q, c⟩

set_option maxRecDepth 100000 in
set_option maxHeartbeats 4000000 in
theorem set_any {s : ByteArray} (h : Hid (Tab w t T (numPairs T) S C)) (hs : s.size ≤ maxLen) (hl : (setP T s).1.length ≤ LIM) : Calls Tryz.prog 55 #[.pointer (some ⟨t.tb, 0, none⟩), .string s] w (TOut (setP T s) w t S C) := by
  have HK := hide (keep_any h (setK_ok hs) (.inl rfl) hl)
  unfold vKy setK at HK
  dsimp only at HK
  clear hl h
  go_enter Tryz.func55, Tryz.ntmps55
  go_wp2_with (go_at_call 46; refine (unhide HK).mono ?_; clear HK; rintro x w1 ⟨rfl, t1, H1, H2⟩)
  go_ret
  exact ⟨rfl, t1, H1, H2⟩

set_option maxRecDepth 100000 in
set_option maxHeartbeats 4000000 in
theorem star_any {i : Nat} (h : Hid (Tab w t T (numPairs T) S C)) (hi : i < T.length) (hl : (starP T i).1.length ≤ LIM) : Calls Tryz.prog 92 #[.pointer (some ⟨t.tb, 0, none⟩), .int .i64 i] w (TOut (starP T i) w t S C) := by
  by_cases h01 : i = 0 ∨ i = 1
  · unfold starP
    rw [if_pos h01]
    have HT := h
    clear hl h
    rcases h01 with rfl | rfl
    all_goals
      go_enter Tryz.func92, Tryz.ntmps92
      go_wp2_with fail
      go_ret
      exact ⟨rfl, t, HT, TFr.refl _ _⟩
  · obtain ⟨x, hx⟩ : ∃ x, T[i]? = some x := ⟨_, List.getElem?_eq_getElem hi⟩
    have e : starP T i = if x.1.kd = 3 then (T, i) else keepP T (starK i) := by unfold starP; rw [if_neg h01, hx]
    rw [e] at hl ⊢
    obtain ⟨g, q2, c0, -⟩ := (unhide h).at hx
    have hiI : (i : Int) < (T.length : Int) := by omega
    have hi0 : (0 : Int) ≤ (i : Int) := by omega
    have n0 : ((i : Int) == 0) = false := by simp; omega
    have n1 : ((i : Int) == 1) = false := by simp; omega
    by_cases h3 : x.1.kd = 3
    · rw [if_pos h3]
      rw [h3] at c0
      have HT := h
      clear hl h
      go_enter Tryz.func92, Tryz.ntmps92
      go_wp2_with fail
      go_ret
      exact ⟨rfl, t, HT, TFr.refl _ _⟩
    · rw [if_neg h3] at hl ⊢
      have hn3 : (x.1.kd == 3) = false := by simpa using h3
      have hlen : T.length ≤ LIM := by
        obtain ⟨X, hX⟩ := keepP_sub T (starK i)
        rw [hX, List.length_append] at hl
        omega
      have HK := hide (keep_any h (starK_ok (by omega)) (.inr (.inr (.inr ⟨.inl rfl, i, hi, rfl⟩))) hl)
      unfold vKy starK at HK
      dsimp only at HK
      clear hl h
      generalize x.1.kd = xk at *
      go_enter Tryz.func92, Tryz.ntmps92
      go_wp2_with (go_at_call 46; refine (unhide HK).mono ?_; clear HK; rintro x w1 ⟨rfl, t1, H1, H2⟩)
      go_ret
      exact ⟨rfl, t1, H1, H2⟩

set_option maxRecDepth 100000 in
set_option maxHeartbeats 4000000 in
theorem not_any {i : Nat} (h : Hid (Tab w t T (numPairs T) S C)) (hi : i < T.length) (hp : ∀ x, T[i]? = some x → 0 ≤ x.1.fi) (hl : (notP6 T i).1.length ≤ LIM) : Calls Tryz.prog 53 #[.pointer (some ⟨t.tb, 0, none⟩), .int .i64 i] w (TOut (notP6 T i) w t S C) := by
  obtain ⟨x, hx⟩ : ∃ x, T[i]? = some x := ⟨_, List.getElem?_eq_getElem hi⟩
  have hfi := hp x hx
  have e : notP6 T i = if x.1.kd = 6 then (T, x.1.fi.toNat) else keepP T (notK6 i) := by unfold notP6; rw [hx]
  rw [e] at hl ⊢
  obtain ⟨g, q2, c0, c1, c2, c3, -⟩ := (unhide h).at hx
  have hiI : (i : Int) < (T.length : Int) := by omega
  have hi0 : (0 : Int) ≤ (i : Int) := by omega
  by_cases h6 : x.1.kd = 6
  · rw [if_pos h6]
    have HF : Hid (((x.1.fi.toNat : Nat) : Int) = x.1.fi) := by show _ = _; omega
    rw [h6] at c0
    have HT := h
    clear hl h e hfi hp hx h6
    generalize x.1.st = xs at *
    generalize x.1.se = xe at *
    go_enter Tryz.func53, Tryz.ntmps53
    go_wp2_with fail
    go_ret
    exact ⟨by show Ending.returned (.int .i64 x.1.fi) = .returned (.int .i64 ((x.1.fi.toNat : Nat) : Int)); rw [unhide HF], t, Tab.alloc HT _, TFr.below ((Below.refl _ _).alloc (Nat.le_refl _) _)⟩
  · rw [if_neg h6] at hl ⊢
    have hn6 : (x.1.kd == 6) = false := by simpa using h6
    have hlen : T.length ≤ LIM := by
      obtain ⟨X, hX⟩ := keepP_sub T (notK6 i)
      rw [hX, List.length_append] at hl
      omega
    have HK := hide (keep_any (Tab.alloc h (.cells #[.int .i64 x.1.kd, .string x.1.st, .int .i64 x.1.fi, .int .i64 x.1.se] 99)) (notK6_ok (by omega)) (.inr (.inr (.inr ⟨.inr rfl, i, hi, rfl⟩))) hl)
    unfold vKy notK6 at HK
    dsimp only at HK
    clear hl h e hfi hp hx h6
    generalize x.1.kd = xk at *
    generalize x.1.st = xs at *
    generalize x.1.fi = xf at *
    generalize x.1.se = xe at *
    go_enter Tryz.func53, Tryz.ntmps53
    go_wp2_with (go_at_call 46; refine (unhide HK).mono ?_; clear HK; rintro x w1 ⟨rfl, t1, H1, H2⟩)
    go_ret
    exact ⟨rfl, t1, H1, (TFr.below ((Below.refl _ _).alloc (Nat.le_refl _) _)).trans (unhide H2)⟩
end
end Go.Proofs.YtfolanohokflkabGreatDoor

namespace Go.Proofs.YtfolanohokflkabGreatDoor

theorem get_data (s : ByteArray) (k : Nat) : s.get! k = s.data[k]! := by cases s; rfl
theorem get_extract (s : ByteArray) (p k : Nat) : (s.extract p s.size).get! k = s.get! (p + k) := by
  rw [get_data, get_data, ByteArray.data_extract]
  have hs : s.size = s.data.size := rfl
  by_cases h : p + k < s.data.size
  · have h1 : k < (s.data.extract p s.size).size := by simp; omega
    rw [getElem!_pos (s.data.extract p s.size) k h1, getElem!_pos s.data (p + k) h]; simp
  · have h1 : ¬ k < (s.data.extract p s.size).size := by simp; omega
    rw [getElem!_neg (s.data.extract p s.size) k h1, getElem!_neg s.data (p + k) h]

theorem decode_extract (s : ByteArray) (p : Nat) : Utf8.decode (s.extract p s.size) 0 = Utf8.decode s p := by
  rw [Lib.decode_at, Lib.decode_at]
  simp only [get_extract, Nat.add_zero, Nat.zero_add, Nat.sub_zero]
  have : (s.extract p s.size).size = s.size - p := by simp
  rw [this]
theorem decodeGo_at (s : ByteArray) (p : Nat) (h : p < s.size) : Lib.decodeGo (s.extract p s.size) = Utf8.decode s p := by
  have : (s.extract p s.size).size = s.size - p := by simp
  rw [Lib.decodeGo, if_neg (by omega), decode_extract]
theorem decodeGo_end (s : ByteArray) : Lib.decodeGo (s.extract s.size s.size) = (65533, 0) := by
  have : (s.extract s.size s.size).size = 0 := by simp
  rw [Lib.decodeGo, if_pos this]
end Go.Proofs.YtfolanohokflkabGreatDoor
