import Derived.Test.YtfolanohokflkabGreatDoorSrC
import Derived.Test.YtfolanohokflkabGreatDoorRefD
import Derived.WalkKit
import Derived.WalkSpells
import Derived.WalkLawsBesides
import Derived.WalkMore
import Derived.Test.YtfolanohokflkabGreatDoorHexA
import Derived.Test.YtfolanohokflkabGreatDoorSvF
import Derived.Deep.QuietTactic
import Derived.BigQuiet
/-
  The table in good order; what is kept beside it: maps from numbers to states, rows of the call's own.
-/
namespace Go.Proofs.YtfolanohokflkabGreatDoor
open Go.RowKit
/-- the table, with what is known of its terms. -/
def TS (w : World) (t : TB) (T : List Te) : Prop := ∃ S C, Tab w t T (numPairs T) S C ∧ CV w t T C ∧ SV T S
section
variable {w w' : World} {t t' : TB} {T : List Te}
theorem TS.foot (h : TS w t T) {k : Nat} (hk : TF t k) : k < w.heap.size := by
  obtain ⟨S, C, h1, _⟩ := h
  exact h1.foot hk
theorem TS.below (h : Hid (TS w t T)) (hb : Below w.heap.size w w') : Hid (TS w' t T) := by
  obtain ⟨S, C, h1, h2, h3⟩ := unhide h
  exact ⟨S, C, unhide (Tab.below (hide h1) hb), unhide (CV.move (hide h2) (fun k hk _ => hb.block k hk)), h3⟩
theorem TS.alloc (h : Hid (TS w t T)) (o : Obj) : Hid (TS (w.alloc o) t T) := TS.below h ((Below.refl _ _).alloc (Nat.le_refl _) o)
/-- one block has changed that is none of the table's. -/
theorem TS.besides (h : Hid (TS w t T)) {k0 : Nat} (h0 : ¬ TF t k0) (h1 : ∀ cur, w.heap[k0]? ≠ some (.cells cur 21 (0, 0))) (hb : ∀ k, k < w.heap.size → k ≠ k0 → w'.heap[k]? = w.heap[k]?) : Hid (TS w' t T) := by
  obtain ⟨S, C, a, b, c⟩ := unhide h
  refine ⟨S, C, a.move (fun k hk hl => hb k hl (fun e => h0 (e ▸ hk))), ⟨b.1, fun p hp => ?_⟩, c⟩
  obtain ⟨n, g, cap, l, e, q1, q2, q3⟩ := b.2 p hp
  obtain ⟨cur, hg⟩ := q3.block
  exact ⟨n, g, cap, l, e, q1, q2, q3.move (hb g q3.lt (fun e => h1 cur (e ▸ hg)))⟩
theorem TS.at (h : TS w t T) {i : Nat} {x : Te} (hi : T[i]? = some x) : ∃ g cap, w.cell? ⟨t.tb, 22, none⟩ = some (.slice (some ⟨g, 0, none⟩) T.length cap) ∧ w.cell? ⟨g, i * 5 + 4, none⟩ = some (.bool x.2) := by
  obtain ⟨S, C, a, _⟩ := h
  obtain ⟨g, d0, -, -, -, -, d5⟩ := a.at hi
  exact ⟨g, _, d0, d5⟩
theorem TFr.kept (h : TFr t t' w w') {k : Nat} (hk : k < w.heap.size) (hn : ¬ TF t k) : k < w'.heap.size ∧ ¬ TF t' k ∧ w'.heap[k]? = w.heap[k]? :=
  ⟨Nat.lt_of_lt_of_le hk h.size, fun e => (h.foot e).elim hn (fun hl => by omega), h.block k hk hn⟩
theorem RowAt.fr {g cap : Nat} {lows : List Int} (h : Hid (RowAt w t g cap lows)) (f : Hid (TFr t t' w w')) : Hid (RowAt w' t' g cap lows) := by
  have k := (unhide f).kept (unhide h).lt (unhide h).apart
  exact ⟨((unhide h).move k.2.2).own, k.2.1⟩
theorem RowAt.cell {g cap : Nat} {lows : List Int} (h : RowAt w t g cap lows) {i : Nat} (hi : i < lows.length) : w.cell? ⟨g, i, none⟩ = some (.int .i32 (lows.getD i 0)) := by
  rw [h.own.cellAt i (by omega)]
  simp [runeCells, List.getD, hi]
theorem ClsR.uniq {n : Nat} {l l' : Spans} (h : ClsR T n l) (h' : ClsR T n l') : l = l' := by
  obtain ⟨x, hx, h⟩ := h
  obtain ⟨x', hx', h'⟩ := h'
  obtain rfl : x = x' := by rw [hx] at hx'; exact Option.some.inj hx'
  rcases h with ⟨a1, a2⟩ | ⟨a1, a2⟩ | ⟨a1, i, y, a2, a3, a4, a5, a6, a7⟩ <;> rcases h' with ⟨b1, b2⟩ | ⟨b1, b2⟩ | ⟨b1, j, z, b2, b3, b4, b5, b6, b7⟩
  · exact a2.uniq b2
  · omega
  · omega
  · omega
  · rw [a2, b2]
  · omega
  · omega
  · omega
  · obtain rfl : i = j := by omega
    obtain rfl : y = z := by rw [a3] at b3; exact Option.some.inj b3
    exact a7.uniq b7
/-- the symbols that a term tells apart. -/
theorem cls_ts {n : Nat} {l : Spans} (h : Hid (TS w t T)) (hn : n ≤ LIM) (hcl : ClsR T n l) :
    Calls Tryz.prog 80 #[.pointer (some ⟨t.tb, 0, none⟩), .int .i64 n] w fun e w' => ∃ g cap, e = .returned (.slice (some ⟨g, 0, none⟩) (bordersP l).length cap) ∧ Hid (RowAt w' t g cap (bordersP l)) ∧ Hid (TS w' t T) ∧ Hid (TFr t t w w') := by
  obtain ⟨S, C, h1, h2, h3⟩ := unhide h
  refine (clsOf_any (hide h1) (hide h2) hn hcl).mono ?_
  rintro e w1 ⟨l', g, cap, C', rfl, hc, hr, hT, hC, hF, -⟩
  obtain rfl := hcl.uniq hc
  exact ⟨g, cap, rfl, hr, ⟨S, C', unhide hT, unhide hC, h3⟩, hF⟩
/-- what a term becomes. -/
theorem bec_ts {n : Nat} {c : Int} (h : Hid (TS w t T)) (hw : Wf1 T) (hT : 2 < T.length) (hTL : T.length ≤ LIM) (hr : Row T n) (hs : isSym c = true) :
    Calls Tryz.prog 58 #[.pointer (some ⟨t.tb, 0, none⟩), .int .i64 n, .int .i32 c] w fun e w' => ∃ t', e = .returned (.int .i64 (stpT T n c : Int)) ∧ Hid (TS w' t' T) ∧ Hid (TFr t t' w w') := by
  obtain ⟨S, C, h1, h2, h3⟩ := unhide h
  refine (Row.becomes hw hT hTL n c w t S C hr hs (hide h1) (hide h2) (hide h3)).mono ?_
  rintro e w1 ⟨r, t', S', C', rfl, hb, hT', hC, hS, hF, -⟩
  rw [stpT_eq hb]
  exact ⟨t', rfl, ⟨S', C', unhide hT', unhide hC, unhide hS⟩, hF⟩
end
/-! a map from numbers to states -/
def stPairs (G : List (Nat × Nat)) : List (Value × Value) := G.map fun p => (.int .i64 (p.1 : Int), .int .i64 (p.2 : Int))
structure StM (w : World) (mb : Nat) (G : List (Nat × Nat)) : Prop where
  at_ : w.heap[mb]? = some (mkMap (stPairs G))
  le : ∀ p ∈ G, p.1 ≤ LIM
  nd : (G.map (·.1)).Nodup
def stG (G : List (Nat × Nat)) (n : Nat) : Nat := match G.find? (fun p => p.1 == n) with
  | some p => p.2
  | none => 0
theorem StM.lt {w : World} {mb : Nat} {G : List (Nat × Nat)} (h : StM w mb G) : mb < w.heap.size := (Array.getElem?_eq_some_iff.1 h.at_).1
theorem StM.move {w w' : World} {mb : Nat} {G : List (Nat × Nat)} (h : StM w mb G) (e : w'.heap[mb]? = w.heap[mb]?) : StM w' mb G := ⟨e.trans h.at_, h.le, h.nd⟩
theorem StM.keys {w : World} {mb : Nat} {G : List (Nat × Nat)} (h : StM w mb G) : ∀ p ∈ stPairs G, ∃ x, keyOf Tryz.prog 3 p.1 = some x := fun p hp => by
  obtain ⟨q, hq, rfl⟩ := List.mem_map.1 hp
  exact intKey (h.le q hq)
theorem stPairs_nodup {G : List (Nat × Nat)} (h : (G.map (·.1)).Nodup) : ((stPairs G).map (·.1)).Nodup := by
  have e : (stPairs G).map (·.1) = (G.map (·.1)).map fun (n : Nat) => Value.int .i64 (n : Int) := by simp [stPairs]
  rw [e]
  refine List.Pairwise.map _ (fun a b hab e => hab ?_) h
  injection e with _ e
  omega
section
variable {P : Program} {k t e : TypeId} {w : World} {b : Nat} {l : List (Value × Value)} {key v : Value}
theorem look_hit0 (K : Maps.Keyed P k) (ht : P.underlying t = some (.map k e)) (hb : w.heap[b]? = some (mkMap l)) (hl : ∀ p ∈ l, ∃ x, keyOf P k p.1 = some x) (hk : ∃ x, keyOf P k key = some x) (hn : (l.map (·.1)).Nodup) {j : Nat} (hj : l[j]? = some (key, v)) :
    (Instr.lookup t (.map (some b)) key false).run P w = .ok v w := by
  have hb' : w.heap[b]? = some (.map (entsOf l).toArray l.length) := hb
  have hf := find_hit K hl hk hn hj w
  obtain ⟨x, hx⟩ := hk
  simp [Instr.lookup, run_underlying ht, MapKept.run_getObj_map hb', K.check w _ hx, hf, Result.andThen]
theorem look_miss0 (K : Maps.Keyed P k) (ht : P.underlying t = some (.map k e)) (hb : w.heap[b]? = some (mkMap l)) (hl : ∀ p ∈ l, ∃ x, keyOf P k p.1 = some x) (hk : ∃ x, keyOf P k key = some x) (hm : ∀ p ∈ l, p.1 ≠ key) {z : Value} (hz : (zeroValue e).run P w = .ok z w) :
    (Instr.lookup t (.map (some b)) key false).run P w = .ok z w := by
  have hb' : w.heap[b]? = some (.map (entsOf l).toArray l.length) := hb
  have hf := find_miss K hl hk hm w
  obtain ⟨x, hx⟩ := hk
  simp [Instr.lookup, run_underlying ht, MapKept.run_getObj_map hb', K.check w _ hx, hf, hz, Result.andThen]
end
theorem StM.get {w : World} {mb : Nat} {G : List (Nat × Nat)} (h : StM w mb G) {n : Nat} (hn : n ≤ LIM) : (Instr.lookup 102 (.map (some mb)) (.int .i64 (n : Int)) false).run Tryz.prog w = .ok (.int .i64 (stG G n : Int)) w := by
  unfold stG
  split
  · rename_i p hp
    have hm := List.mem_of_find?_eq_some hp
    have hk : p.1 = n := by simpa using List.find?_some hp
    obtain ⟨j, hj⟩ := List.mem_iff_getElem?.1 hm
    refine look_hit0 intKeyed Tryz.underlying102 h.at_ h.keys (intKey hn) (stPairs_nodup h.nd) (j := j) ?_
    simp [stPairs, hj, hk]
  · rename_i hp
    have hnone := List.find?_eq_none.1 hp
    refine look_miss0 intKeyed Tryz.underlying102 h.at_ h.keys (intKey hn) (fun p hp' e => ?_) (by simp [go_sem])
    obtain ⟨q, hq, rfl⟩ := List.mem_map.1 hp'
    injection e with _ e
    have := hnone q hq
    simp at this
    omega
theorem StM.put {w : World} {mb : Nat} {G : List (Nat × Nat)} (h : StM w mb G) {n : Nat} (hn : n ≤ LIM) (hm : ∀ p ∈ G, p.1 ≠ n) (v : Nat) : ∃ w', (Instr.mapUpdate 102 (.map (some mb)) (.int .i64 n) (.int .i64 v)).run Tryz.prog w = .ok () w' ∧ StM w' mb (G ++ [(n, v)]) ∧ w'.heap.size = w.heap.size ∧ w'.os = w.os ∧ w'.tape = w.tape ∧ w'.output = w.output ∧ ∀ k, k ≠ mb → w'.heap[k]? = w.heap[k]? := by
  refine ⟨_, put_new intKeyed Tryz.underlying102 h.at_ h.keys (intKey hn) (fun p hp e => ?_) _, ⟨?_, ?_, ?_⟩, set_size, rfl, rfl, rfl, fun k hk => set_other hk⟩
  · obtain ⟨q, hq, rfl⟩ := List.mem_map.1 hp
    injection e with _ e
    exact hm q hq (by omega)
  · rw [set_same h.lt]
    simp [stPairs]
  · intro p hp
    rcases List.mem_append.1 hp with h1 | h1
    · exact h.le p h1
    · rw [List.mem_singleton] at h1; rw [h1]; exact hn
  · rw [List.map_append]
    refine List.nodup_append.2 ⟨h.nd, by simp, fun a ha c hc e => ?_⟩
    obtain ⟨q, hq, rfl⟩ := List.mem_map.1 ha
    simp at hc
    exact hm q hq (e.trans hc)
/-! an append of one element, of whatever type -/
structure GrV (w w' : World) (v : Value) : Prop where
  os : w'.os = w.os
  tape : w'.tape = w.tape
  output : w'.output = w.output
  size : w.heap.size ≤ w'.heap.size
  block : ∀ k, k < w.heap.size → v.ownBlock ≠ some k → w'.heap[k]? = w.heap[k]?
theorem app_gen {ts e : TypeId} {z : Value} {size bytes : Nat} (hu : Tryz.prog.underlying ts = some (.slice e)) (hinfo : (Tryz.prog.info? e).map (fun i => (i.zero, i.size, i.bytes)) = some (some z, size, bytes)) (hzs : z.cells.size = size) (hsz : 0 < size) (hby : bytes ≤ 1000)
    {ops : Array Oper} {rest : List Oper} {o : Oper} {a : Act} {Q : Exit → Act → World → Prop} (B : Nat) (wr : World) (n : Nat) (xs news : List Value) (v : Value) (s x : Operand) (hg : o.guard = none)
    (hop : o.op = .call { callee := .builtin .append, args := #[s, x], argTypes := #[ts, ts] }) (hs : a.eval s = v) (H : Nat) (hH : wr.heap.size = H) (hx : a.eval x = .slice (some ⟨H, 0, none⟩) 1 1)
    (ho : Hid (wr.ownsRow B e size v n xs)) (hB : B ≤ wr.heap.size) (hl : n ≤ 2000000) (hnl : news.length = size) (hn1 : ∀ u ∈ news, u.oneCell' = true)
    (K : ∀ g cap w', Hid (w'.ownsRow B e size (.slice (some ⟨g, 0, none⟩) (n + 1) cap) (n + 1) (xs ++ news)) → Hid (GrV wr w' v) → wpList Tryz.prog ops Q rest (a.put o.dst (.slice (some ⟨g, 0, none⟩) (n + 1) cap)) w') :
    wpList Tryz.prog ops Q (o :: rest) a (wr.alloc (.cells news.toArray e)) := by
  obtain ⟨i0, hi, hz0, hz1, hz2⟩ := info_parts hinfo
  subst hH
  refine wpList_append_own _ hg s x ts hop B e i0 z size bytes hu hi hz0 hz1 hz2 hzs hsz _ _ _ hs ((unhide ho).alloc _) ⟨wr.heap.size, 0, none⟩ 1 1 news hx (by rw [hnl]; omega) (cells_new wr news _) hn1 (by unfold maxLen; omega) (Nat.le_trans (Nat.mul_le_mul_left _ hby) (by omega)) (by simp; omega) ?_
  intro v' w' h1 h2 _
  obtain ⟨ao, cap, rfl, hv⟩ := own_view h1
  obtain ⟨g, rfl, -⟩ := hv (by omega)
  refine K g cap w' h1 ⟨h2.os, h2.tape, h2.output, Nat.le_trans (by simp) h2.size, fun k hk hne => (h2.block k (by simp; omega) (fun e => hne e.symm)).trans (Below.heap_alloc wr _ k hk)⟩
/-- where an owned row lies. -/
theorem own_blk {w : World} {B e size n : Nat} {v : Value} {xs : List Value} (h : w.ownsRow B e size v n xs) {k : Nat} (hk : v.ownBlock = some k) : B ≤ k ∧ k < w.heap.size ∧ ∃ cur, w.heap[k]? = some (.cells cur e (0, 0)) := by
  refine ⟨(h.lt k hk).1, (h.lt k hk).2, ?_⟩
  obtain ⟨_, hx | ⟨g, cap, cur, hv, hb', hg, rest⟩⟩ := h
  · rw [hx.1] at hk; cases hk
  · rw [hv] at hk
    have eg : g = k := by injection hk
    subst eg
    exact ⟨cur, hg⟩
/-- a block of other cells is none of the table's. -/
theorem TS.typed {w : World} {t : TB} {T : List Te} (h : TS w t T) {k : Nat} {cur : Array Value} {ty : TypeId} {z : Nat × Nat} (hk : w.heap[k]? = some (.cells cur ty z)) (h1 : ty ≠ 95) (h2 : ty ≠ 120) : ¬ TF t k := by
  obtain ⟨S, C, a, _⟩ := h
  intro hf
  rcases hf with rfl | rfl | rfl | rfl | e
  · rw [a.tb] at hk; injection hk with hk; injection hk with _ e; exact h1 e.symm
  · rw [a.nb] at hk; injection hk with hk; cases hk
  · rw [a.sb] at hk; injection hk with hk; cases hk
  · rw [a.cb] at hk; injection hk with hk; cases hk
  · obtain ⟨_, hx | ⟨g, cap, cur', hv, hb', hg', rest⟩⟩ := a.row
    · have : t.ta = none := by injection hx.1
      simp [TB.row, this] at e
    · injection hv with e1
      simp [TB.row, e1] at e
      subst e
      rw [hg'] at hk; injection hk with hk; injection hk with _ e; exact h2 e.symm
/-- the table behind such an append. -/
theorem TS.app {w w' : World} {t : TB} {T : List Te} {B e size n : Nat} {v : Value} {xs : List Value} (h : Hid (TS w t T)) (ho : w.ownsRow B e size v n xs) (hg : GrV w w' v) (he : e ≠ 21) (h1 : e ≠ 95) (h2 : e ≠ 120) : Hid (TS w' t T) := by
  cases hv : v.ownBlock with
  | none =>
    refine TS.below h ⟨hg.os, hg.tape, hg.output, hg.size, fun k hk => hg.block k hk (by rw [hv]; simp)⟩
  | some k0 =>
    obtain ⟨_, hk0, cur, hc⟩ := own_blk ho hv
    refine TS.besides h (k0 := k0) ((unhide h).typed hc h1 h2) (fun cur' e' => ?_) (fun k hk hne => hg.block k hk (by rw [hv]; simp; omega))
    rw [hc] at e'; injection e' with e'; injection e' with _ e'; exact he e'
end Go.Proofs.YtfolanohokflkabGreatDoor

/-
  spans: where one goes on to by all symbols.
-/
namespace Go.Proofs.YtfolanohokflkabGreatDoor
open Go.RowKit
def spCells : List Sp → List Value
  | [] => []
  | x :: l => [.int .i32 x.1, .int .i32 x.2.1, .int .i64 (x.2.2 : Int)] ++ spCells l
theorem spCells_append (a c : List Sp) : spCells (a ++ c) = spCells a ++ spCells c := by
  induction a with
  | nil => rfl
  | cons x l ih => simp [spCells, ih]
theorem spCells_length (a : List Sp) : (spCells a).length = a.length * 3 := by
  induction a with
  | nil => rfl
  | cons x l ih => simp [spCells, ih]; omega
theorem sp_get : ∀ (l : List Sp) (i : Nat) (x : Sp), l[i]? = some x → (spCells l)[i * 3]? = some (.int .i32 x.1) ∧ (spCells l)[i * 3 + 1]? = some (.int .i32 x.2.1) ∧ (spCells l)[i * 3 + 2]? = some (.int .i64 (x.2.2 : Int))
  | [], i, x, h => by simp at h
  | y :: l, 0, x, h => by
    simp at h
    subst h
    simp [spCells]
  | y :: l, i + 1, x, h => by
    have hh := sp_get l i x (by simpa using h)
    have e : ∀ j, (spCells (y :: l))[j + 3]? = (spCells l)[j]? := fun j => by
      show ([_, _, _] ++ spCells l)[j + 3]? = _
      simp
    rw [show (i + 1) * 3 = i * 3 + 3 from by omega, show i * 3 + 3 + 1 = (i * 3 + 1) + 3 from by omega, show i * 3 + 3 + 2 = (i * 3 + 2) + 3 from by omega, e, e, e]
    exact hh
theorem sp_set (a : List Sp) (x : Sp) (c : Int) : (spCells (a ++ [x])).set (a.length * 3 + 1) (.int .i32 c) = spCells (a ++ [(x.1, c, x.2.2)]) := by
  rw [spCells_append, spCells_append, List.set_append_right _ _ (by rw [spCells_length]; omega), spCells_length, show a.length * 3 + 1 - a.length * 3 = 1 from by omega]
  rfl
theorem infoSpn : (Tryz.prog.info? 201).map (fun i => (i.zero, i.size, i.bytes)) = some (some (.agg #[.int .i32 0, .int .i32 0, .int .i64 0]), 3, 16) := by kernel_rfl
/-- what a table wants for all that follows. -/
structure TOk (T : List Te) : Prop where
  wf : Wf1 T
  two : 2 < T.length
  lim : T.length ≤ LIM
  r0 : Row T 0
  r1 : Row T 1
theorem TOk.next {T : List Te} (h : TOk T) {n : Nat} {c : Int} (hr : Row T n) (hb : ∃ r, BecR T n c r) : Row T (stpT T n c) := by
  obtain ⟨r, hb⟩ := hb
  rw [← stpT_eq hb]
  exact hr.next h.r0 h.r1 hb
/-- an owned row, behind a call on the table. -/
theorem own_ts {w w' : World} {t t' : TB} {T : List Te} {B e size n : Nat} {v : Value} {xs : List Value} (h : w.ownsRow B e size v n xs) (ht : TS w t T) (f : TFr t t' w w') (h1 : e ≠ 95) (h2 : e ≠ 120) : w'.ownsRow B e size v n xs := by
  obtain ⟨hl, hx | ⟨g, cap, cur, hv, hb', hg, rest⟩⟩ := h
  · exact ⟨hl, .inl hx⟩
  · exact ⟨hl, .inr ⟨g, cap, cur, hv, hb', by rw [f.block g (Array.getElem?_eq_some_iff.1 hg).1 (ht.typed hg h1 h2)]; exact hg, rest⟩⟩
/-- on the way through the symbols. -/
structure SpI (w : World) (t : TB) (T : List Te) (mb g cap : Nat) (G : List (Nat × Nat)) (lows : List Int) (v : Value) (wr : World) (t' : TB) (sp : List Sp) : Prop where
  own : wr.ownsRow w.heap.size 201 3 v sp.length (spCells sp)
  ts : TS wr t' T
  fr : TFr t t' w wr
  row : RowAt wr t' g cap lows
  st : StM wr mb G
  mt : ¬ TF t' mb
section
variable {w : World} {t : TB} {T : List Te} {mb g cap : Nat} {G : List (Nat × Nat)} {lows : List Int} {v : Value} {wr : World} {t' : TB} {sp : List Sp}
theorem SpI.bec (h : SpI w t T mb g cap G lows v wr t' sp) {w1 : World} {t1 : TB} (hT : TS w1 t1 T) (hF : TFr t' t1 wr w1) : SpI w t T mb g cap G lows v w1 t1 sp := by
  have k := hF.kept h.st.lt h.mt
  exact ⟨own_ts h.own h.ts hF (by decide) (by decide), hT, h.fr.trans hF, unhide (RowAt.fr (hide h.row) (hide hF)), h.st.move k.2.2, k.2.1⟩
/-- one block of the call's own has changed. -/
theorem SpI.own' (h : SpI w t T mb g cap G lows v wr t' sp) {w1 : World} {v1 : Value} {sp1 : List Sp} (ho : w1.ownsRow w.heap.size 201 3 v1 sp1.length (spCells sp1)) (hg : GrV wr w1 v) : SpI w t T mb g cap G lows v1 w1 t' sp1 := by
  have hts := TS.app (hide h.ts) h.own hg (by decide) (by decide) (by decide)
  have hne : ∀ k, v.ownBlock = some k → w.heap.size ≤ k ∧ ∃ cur, wr.heap[k]? = some (.cells cur 201 (0, 0)) := fun k hk => ⟨(own_blk h.own hk).1, (own_blk h.own hk).2.2⟩
  have hgb : wr.heap[g]? = w1.heap[g]? := by
    refine (hg.block g h.row.lt (fun e => ?_)).symm
    obtain ⟨_, cur, hc⟩ := hne g e
    obtain ⟨cur', hc'⟩ := h.row.block
    rw [hc] at hc'; injection hc' with hc'; injection hc' with _ e'; exact absurd e' (by decide)
  have hmb : w1.heap[mb]? = wr.heap[mb]? := by
    refine hg.block mb h.st.lt (fun e => ?_)
    obtain ⟨_, cur, hc⟩ := hne mb e
    have := h.st.at_
    rw [hc] at this; cases this
  refine ⟨ho, unhide hts, ?_, h.row.move hgb.symm, h.st.move hmb, h.mt⟩
  exact ⟨hg.os.trans h.fr.os, hg.tape.trans h.fr.tape, hg.output.trans h.fr.output, Nat.le_trans h.fr.size hg.size, fun k hk hn => (hg.block k (Nat.lt_of_lt_of_le hk h.fr.size) (fun e => by have := (hne k e).1; omega)).trans (h.fr.block k hk hn), h.fr.tb, h.fr.nb, h.fr.sb, h.fr.cb, h.fr.row⟩
end
theorem lows_pos {st : ByteArray} {l : Spans} (hs : IsSet st l) {k : Nat} (h0 : 0 < k) (hk : k < (bordersP l).length) : 0 < (bordersP l).getD k 0 := by
  have hz := hs.zero
  have hl : 0 < (bordersP l).length := by omega
  have e0 : (bordersP l)[0] = 0 := by simpa [List.getD, hl] using hz
  have := List.pairwise_iff_getElem.1 hs.rise 0 k hl hk h0
  rw [e0] at this
  simpa [List.getD, hk] using this
theorem stepSp_nil (low : Int) (s : Nat) : stepSp [] low s = [(low, 1114111, s)] := rfl
theorem stepSp_same (a : List Sp) (x : Sp) (low : Int) : stepSp (a ++ [x]) low x.2.2 = a ++ [x] := by simp [stepSp]
theorem stepSp_other (a : List Sp) (x : Sp) (low : Int) (s : Nat) (h : x.2.2 ≠ s) : stepSp (a ++ [x]) low s = a ++ [(x.1, blw low, x.2.2)] ++ [(low, 1114111, s)] := by simp [stepSp, h]
theorem spans_len (cl : List Int) (st : Int → Nat) : (spansP cl st).length ≤ cl.length := by
  unfold spansP
  have : ∀ (cl : List Int) (acc : List Sp), (cl.foldl (fun acc low => stepSp acc low (st low)) acc).length ≤ acc.length + cl.length := by
    intro cl
    induction cl with
    | nil => intro acc; simp
    | cons c cl ih =>
      intro acc
      rw [List.foldl_cons]
      have h1 := ih (stepSp acc c (st c))
      have h2 : (stepSp acc c (st c)).length ≤ acc.length + 1 := by
        rcases List.eq_nil_or_concat acc with rfl | ⟨a, x, rfl⟩
        · simp [stepSp]
        · rw [List.concat_eq_append]
          by_cases h : x.2.2 = st c
          · rw [← h, stepSp_same]; omega
          · rw [stepSp_other _ _ _ _ h]; simp
      rw [List.length_cons]
      omega
  simpa using this cl []
theorem spans_next (cl : List Int) (st : Int → Nat) (k : Nat) (hk : k < cl.length) : spansP (cl.take (k + 1)) st = stepSp (spansP (cl.take k) st) (cl.getD k 0) (st (cl.getD k 0)) := by
  unfold spansP
  rw [List.take_succ_eq_append_getElem hk, List.foldl_append]
  simp [List.getD, hk]
end Go.Proofs.YtfolanohokflkabGreatDoor

/-
  spans, walked.
-/
namespace Go.Proofs.YtfolanohokflkabGreatDoor
open Go.RowKit
theorem GrV.refl (w : World) (v : Value) : GrV w w v := ⟨rfl, rfl, rfl, Nat.le_refl _, fun _ _ _ => rfl⟩
theorem GrV.set {w : World} {v : Value} {k j : Nat} (hv : v.ownBlock = some k) (u : Value) : GrV w (w.setCell ⟨k, j, none⟩ u) v :=
  ⟨rfl, rfl, rfl, by simp [World.setCell], fun i _ hne => Below.heap_setCell w ⟨k, j, none⟩ u i (fun e => hne (by rw [hv]; exact congrArg some e.symm))⟩
theorem bec_ok {w : World} {t : TB} {T : List Te} {n : Nat} {c : Int} (h : Hid (TS w t T)) (hO : TOk T) (hr : Row T n) (hs : isSym c = true) :
    Calls Tryz.prog 58 #[.pointer (some ⟨t.tb, 0, none⟩), .int .i64 n, .int .i32 c] w fun e w' => ∃ t', e = .returned (.int .i64 (stpT T n c : Int)) ∧ Row T (stpT T n c) ∧ Hid (TS w' t' T) ∧ Hid (TFr t t' w w') := by
  obtain ⟨S, C, h1, h2, h3⟩ := unhide h
  refine (Row.becomes hO.wf hO.two hO.lim n c w t S C hr hs (hide h1) (hide h2) (hide h3)).mono ?_
  rintro e w1 ⟨r, t', S', C', rfl, hb, hT', hC, hS, hF, -⟩
  have hn := hO.next hr ⟨r, hb⟩
  rw [stpT_eq hb]
  exact ⟨t', rfl, hn, ⟨S', C', unhide hT', unhide hC, unhide hS⟩, hF⟩
set_option maxRecDepth 100000 in
set_option maxHeartbeats 4000000 in
theorem spans_any {w : World} {t : TB} {T : List Te} {n mb : Nat} {G : List (Nat × Nat)} {l : Spans} (h : Hid (TS w t T)) (hO : TOk T) (hr : Row T n) (hcl : ClsR T n l) (hM : Hid (StM w mb G)) (hmt : ¬ TF t mb) :
    Calls Tryz.prog 141 #[.pointer (some ⟨t.tb, 0, none⟩), .int .i64 n, .map (some mb)] w fun e w' => ∃ (t' : TB) (ao : Option Addr) (cap : Nat), e = .returned (.slice ao (spansP (bordersP l) fun x => stG G (stpT T n x)).length cap) ∧ Hid (w'.ownsRow w.heap.size 201 3 (.slice ao (spansP (bordersP l) fun x => stG G (stpT T n x)).length cap) (spansP (bordersP l) fun x => stG G (stpT T n x)).length (spCells (spansP (bordersP l) fun x => stG G (stpT T n x)))) ∧ Hid (TS w' t' T) ∧ Hid (TFr t t' w w') := by
  obtain ⟨st, hs⟩ := hcl.set
  have hnl : n ≤ LIM := by have := hr.lt; have := hO.lim; omega
  have HC := hide (cls_ts h hnl hcl)
  have HPOS : Hid (∀ k, 0 < k → k < (bordersP l).length → 0 < (bordersP l).getD k 0) := fun k h0 hk => lows_pos hs h0 hk
  have HSY : Hid (∀ k, k < (bordersP l).length → isSym ((bordersP l).getD k 0) = true) := fun k hk => hs.sy _ (by simp [List.getD, hk])
  have hlen : (bordersP l).length ≤ 12 := by
    rw [lowsP_len]
    unfold lowsP
    rw [List.length_map]
    exact hs.few
  have HOO := hide hO
  have HRR := hide hr
  have HMT := hide hmt
  generalize bordersP l = lows at *
  have HLEN := hide (spans_len lows (fun x => stG G (stpT T n x)))
  clear hcl hs hO hr hmt
  go_enter Tryz.func141, Tryz.ntmps141
  go_wp2_with (go_at_call 80; refine (unhide HC).mono ?_; clear HC; rintro e w1 ⟨g, cap, rfl, HR1, HT1, HF1⟩)
  have HI1 : Hid (SpI w t T mb g cap G lows (.slice none 0 0) w1 t []) := by
    have k := (unhide HF1).kept (unhide hM).lt (unhide HMT)
    exact ⟨World.ownsRow_nil _ _ _ _, unhide HT1, unhide HF1, unhide HR1, (unhide hM).move k.2.2, k.2.1⟩
  clear HR1 HT1 HF1 h hM
  go_loopw [7, 16] (fun v i wr => ∃ (k m cv : Nat) (av : Option Addr) (t' : TB) (sp : List Sp), k ≤ lows.length ∧ i = .int .i64 (k : Int) ∧ v = .slice av m cv ∧ Hid (sp.length = m) ∧ Hid (sp = spansP (lows.take k) fun x => stG G (stpT T n x)) ∧ Hid (SpI w t T mb g cap G lows (.slice av m cv) wr t' sp)) (fun _ i _ => lows.length - (intOf i).toNat)
  case atStart => exact ⟨0, 0, 0, none, t, [], Nat.zero_le _, rfl, rfl, rfl, rfl, HI1⟩
  case round =>
    obtain ⟨k, m, cv, av, t', sp, hk, rfl, rfl, HM, HSP, HI⟩ := hrel
    clear HI1
    by_cases hlt : k < lows.length
    · have d0 := (unhide HI).row.cell hlt
      have HNX := hide (spans_next lows (fun x => stG G (stpT T n x)) k hlt)
      have HBC := hide (bec_ok (hide (unhide HI).ts) (unhide HOO) (unhide HRR) (unhide HSY k hlt))
      have HPK := hide (fun h0 => unhide HPOS k h0 hlt)
      rw [(unhide HI).fr.tb] at HBC
      have hsy := isSym_iff.1 (unhide HSY k hlt)
      have hkI : (k : Int) < (lows.length : Int) := by omega
      generalize lows.getD k 0 = low at *
      have hm12 : m ≤ 12 := by
        have h1 := spans_len (lows.take k) (fun x => stG G (stpT T n x))
        rw [← unhide HSP, unhide HM, List.length_take] at h1
        omega
      have HK0 : Hid (sp ≠ [] → 0 < k) := fun hne => by
        rcases Nat.eq_zero_or_pos k with h0 | h0
        · subst h0
          exact absurd (unhide HSP) hne
        · exact h0
      have HLK : Hid (∀ W : World, StM W mb G → stpT T n low < T.length → (Instr.lookup 102 (.map (some mb)) (.int .i64 (stpT T n low : Int)) false).run Tryz.prog W = .ok (.int .i64 (stG G (stpT T n low) : Int)) W) := fun W hW hl => hW.get (by have := (unhide HOO).lim; omega)
      generalize spansP (lows.take k) (fun x => stG G (stpT T n x)) = spk at *
      obtain rfl : sp = spk := unhide HSP
      rcases List.eq_nil_or_concat sp with rfl | ⟨a, ⟨x1, x2, x3⟩, rfl⟩
      · obtain rfl : m = 0 := (unhide HM).symm
        clear HSP HM HK0
        generalize stG G (stpT T n low) = s at *
        go_wp2_with (first
          | (go_at_call 58; refine (unhide HBC).mono ?_; clear HBC; rintro e w2 ⟨t2, rfl, hrow, HT2, HF2⟩; have HI2 := hide ((unhide HI).bec (unhide HT2) (unhide HF2)); have hlk := (unhide HLK) w2 (unhide HI2).st hrow.lt; have HO2 := hide (unhide HI2).own; have hs2 := (unhide HI2).fr.size)
          | (at_builtin; refine app_gen Tryz.underlying196 infoSpn rfl (by decide) (by decide) w.heap.size w2 0 [] [.int .i32 low, .int .i32 1114111, .int .i64 (s : Int)] (.slice av 0 cv) (.tmp 49) (.tmp 54) rfl rfl rfl w2.heap.size rfl rfl HO2 hs2 (by omega) rfl (by intro u hu; simp at hu; rcases hu with rfl | rfl | rfl <;> rfl) ?_; intro g3 cap3 w3 HO3 HG3))
        go_roundw
        case rel => exact ⟨k + 1, 1, cap3, some ⟨g3, 0, none⟩, t2, [(low, 1114111, s)], by omega, by go_num, rfl, rfl, (unhide HNX).symm, (unhide HI2).own' (unhide HO3) (unhide HG3)⟩
        case measure => simp [intOf]; omega
      · rw [List.concat_eq_append] at *
        have hm : m = a.length + 1 := by rw [← unhide HM]; simp
        subst hm
        have hk0 := unhide HK0 (by simp)
        obtain ⟨ao0, cp0, e0, hv0⟩ := own_view (unhide HI).own
        obtain ⟨gs, rfl, -⟩ := hv0 (by simp)
        injection e0 with e01 e02 e03
        subst e01
        subst e03
        clear e02
        have HBL : Hid (∀ W : World, Calls Tryz.prog 187 #[.int .i32 low] W fun e w' => e = .returned (.int .i32 (blw low)) ∧ w' = W) := fun W => (below_any low W (unhide HPK hk0) (by omega)).mono fun e w' hh => ⟨hh.1, hh.2.symm⟩
        have HCE : Hid (∀ (w2 : World) (t2 : TB), SpI w t T mb g cap G lows (.slice (some ⟨gs, 0, none⟩) (a.length + 1) cv) w2 t2 (a ++ [(x1, x2, x3)]) → w2.cell? ⟨gs, a.length * 3 + 1, none⟩ = some (.int .i32 x2) ∧ w2.cell? ⟨gs, a.length * 3 + 2, none⟩ = some (.int .i64 (x3 : Int)) ∧ w2.frozen? ⟨gs, a.length * 3 + 1, none⟩ = false ∧ (w2.setCell ⟨gs, a.length * 3 + 1, none⟩ (.int .i32 (blw low))).ownsRow w.heap.size 201 3 (.slice (some ⟨gs, 0, none⟩) (a.length + 1) cv) (a.length + 1) (spCells (a ++ [(x1, blw low, x3)]))) := fun w2 t2 hi => by
          have ho := hi.own
          have hl1 : (a ++ [(x1, x2, x3)]).length = a.length + 1 := by simp
          rw [hl1] at ho
          obtain ⟨_, q1, q2⟩ := sp_get (a ++ [(x1, x2, x3)]) a.length (x1, x2, x3) (by simp)
          obtain ⟨cur, hcur⟩ := (own_blk ho (k := gs) rfl).2.2
          refine ⟨by rw [ho.cellAt _ (by omega)]; exact q1, by rw [ho.cellAt _ (by omega)]; exact q2, by simp [World.frozen?, hcur], ?_⟩
          have h2 := own_set ho (g := gs) (j := a.length * 3 + 1) rfl (by omega) (.int .i32 (blw low))
          rw [sp_set] at h2
          exact h2
        have hal : a.length ≤ 12 := by omega
        clear HK0 hv0 HM HSP
        by_cases hst : x3 = stG G (stpT T n low)
        · have HSM := hide (stepSp_same a (x1, x2, x3) low)
          generalize stG G (stpT T n low) = s at *
          subst hst
          go_wp2_with (go_at_call 58; refine (unhide HBC).mono ?_; clear HBC; rintro e w2 ⟨t2, rfl, hrow, HT2, HF2⟩; have HI2 := hide ((unhide HI).bec (unhide HT2) (unhide HF2)); have hlk := (unhide HLK) w2 (unhide HI2).st hrow.lt; obtain ⟨q1, q2, q3, -⟩ := unhide HCE w2 t2 (unhide HI2))
          refine ⟨⟨k + 1, a.length + 1, cv, some ⟨gs, 0, none⟩, t2, a ++ [(x1, x2, x3)], by omega, by go_num, rfl, List.length_append, ((unhide HNX).trans (unhide HSM)).symm, HI2⟩, ?_⟩
          simp [intOf]
          omega
        · have HSM := hide (stepSp_other a (x1, x2, x3) low _ hst)
          have hstI : ¬ ((x3 : Nat) : Int) = (stG G (stpT T n low) : Int) := by omega
          clear hst
          generalize stG G (stpT T n low) = s at *
          go_wp2_with (first
            | (go_at_call 58; refine (unhide HBC).mono ?_; clear HBC; rintro e w2 ⟨t2, rfl, hrow, HT2, HF2⟩; have HI2 := hide ((unhide HI).bec (unhide HT2) (unhide HF2)); have hlk := (unhide HLK) w2 (unhide HI2).st hrow.lt; obtain ⟨q1, q2, q3, q4⟩ := unhide HCE w2 t2 (unhide HI2); have HO2 := hide q4; clear q4; have hs2 : w.heap.size ≤ (w2.setCell ⟨gs, a.length * 3 + 1, none⟩ (.int .i32 (blw low))).heap.size := (by rw [show (w2.setCell ⟨gs, a.length * 3 + 1, none⟩ (.int .i32 (blw low))).heap.size = w2.heap.size from by simp [World.setCell]]; exact (unhide HI2).fr.size))
            | (go_at_call 187; refine (unhide HBL _).mono ?_; clear HBL; rintro e w9 ⟨rfl, rfl⟩)
            | (at_builtin; refine app_gen Tryz.underlying196 infoSpn rfl (by decide) (by decide) w.heap.size (w9.setCell ⟨gs, a.length * 3 + 1, none⟩ (.int .i32 (blw low))) (a.length + 1) (spCells (a ++ [(x1, blw low, x3)])) [.int .i32 low, .int .i32 1114111, .int .i64 (s : Int)] (.slice (some ⟨gs, 0, none⟩) (a.length + 1) cv) (.tmp 49) (.tmp 54) rfl rfl rfl w9.heap.size (by simp [World.setCell]) rfl HO2 hs2 (by omega) rfl (by intro u hu; simp at hu; rcases hu with rfl | rfl | rfl <;> rfl) ?_; intro g3 cap3 w3 HO3 HG3))
          refine ⟨⟨k + 1, a.length + 1 + 1, cap3, some ⟨g3, 0, none⟩, t2, a ++ [(x1, blw low, x3)] ++ [(low, 1114111, s)], by omega, by go_num, rfl, by simp [Hid], ((unhide HNX).trans (unhide HSM)).symm, ?_⟩, ?_⟩
          · have h1 := (unhide HI2).own' (sp1 := a ++ [(x1, blw low, x3)]) (by have e : (a ++ [(x1, blw low, x3)]).length = a.length + 1 := List.length_append; rw [e]; exact unhide HO2) (GrV.set (k := gs) (j := a.length * 3 + 1) rfl (.int .i32 (blw low)))
            have h2 := h1.own' (sp1 := a ++ [(x1, blw low, x3)] ++ [(low, 1114111, s)]) (v1 := .slice (some ⟨g3, 0, none⟩) (a.length + 1 + 1) cap3) (by have e : (a ++ [(x1, blw low, x3)] ++ [(low, 1114111, s)]).length = a.length + 1 + 1 := (by simp); rw [e, spCells_append]; exact unhide HO3) (unhide HG3)
            exact h2
          · simp [intOf]
            omega
    · have hkl : k = lows.length := by omega
      subst hkl
      rw [List.take_length] at HSP
      have hsp := unhide HSP
      subst hsp
      have hm := unhide HM
      subst hm
      clear HSP HM
      go_wp2_with fail
      go_ret
      exact ⟨t', av, cv, rfl, (unhide HI).own, (unhide HI).ts, (unhide HI).fr⟩
end Go.Proofs.YtfolanohokflkabGreatDoor
