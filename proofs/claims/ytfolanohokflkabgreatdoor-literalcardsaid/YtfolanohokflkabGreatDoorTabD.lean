import Derived.Test.YtfolanohokflkabGreatDoorTabC
import Derived.Test.YtfolanohokflkabGreatDoorLastA
import Derived.WalkKit
import Derived.WalkSpells
import Derived.WalkLawsBesides
import Derived.WalkMore
import Derived.Deep.QuietTactic
import Derived.BigQuiet
import Derived.BigRegion
import Derived.Deep.RegionHeld3
import Derived.Deep.AppendLies
namespace Go.Proofs.YtfolanohokflkabGreatDoor
open Go.RowKit
/-! keep: a new term -/
/-- what a key is made of is in the table, and whether its term has the empty word. -/
def KyWF (T : List Te) (k : Ky) (b : Bool) : Prop :=
  (k.kd = 0 ∧ b = false) ∨ (k.kd = 1 ∧ b = true) ∨
  (k.kd = 2 ∧ ∃ (i j : Nat) (x y : Te), T[i]? = some x ∧ T[j]? = some y ∧ k.fi = (i : Int) ∧ k.se = (j : Int) ∧ b = (x.2 && y.2)) ∨
  (k.kd = 3 ∧ (∃ (i : Nat) (x : Te), T[i]? = some x ∧ k.fi = (i : Int)) ∧ b = true) ∨
  (k.kd = 4 ∧ ∃ (i j : Nat) (x y : Te), T[i]? = some x ∧ T[j]? = some y ∧ k.fi = (i : Int) ∧ k.se = (j : Int) ∧ b = (x.2 || y.2)) ∨
  (k.kd = 5 ∧ ∃ (i j : Nat) (x y : Te), T[i]? = some x ∧ T[j]? = some y ∧ k.fi = (i : Int) ∧ k.se = (j : Int) ∧ b = (x.2 && y.2)) ∨
  (k.kd = 6 ∧ ∃ (i : Nat) (x : Te), T[i]? = some x ∧ k.fi = (i : Int) ∧ b = !x.2)
theorem callFunc_enter {f : FuncId} {fn : Func} (hf : Tryz.prog.funcs[f]? = some fn) (hn : (fn.name == "runtime.NumGoroutine") = false) (hb : fn.body.isNone = false) (args : Array Value) (w : World) : (callFunc f args).run Tryz.prog w = .ok (.enter f args) w := by
  have hn' : ¬ fn.name = "runtime.NumGoroutine" := by simpa using hn
  have hb' : ¬ fn.body = none := fun e => by rw [e] at hb; cases hb
  simp [callFunc, hf, hn', hb', Result.andThen]
theorem he_of {T : List Te} {k : Ky} {b : Bool} (h : KyWF T k b) : ∃ n f : Nat, k.kd = (n : Int) ∧ n < 7 ∧ kindCells[n * 3]? = some (fv f) ∧ (∀ (args : Array Value) (w : World), (callFunc f args).run Tryz.prog w = .ok (.enter f args) w) ∧
    ∀ (w : World) (t : TB) (N S C : List (Value × Value)), Hid (Tab w t T N S C) → Calls Tryz.prog f #[.pointer (some ⟨t.tb, 0, none⟩), vKy k] w fun e w' => e = .returned (.bool b) ∧ Hid (Below w.heap.size w w') := by
  rcases h with ⟨e, rfl⟩ | ⟨e, rfl⟩ | ⟨e, i, j, x, y, h1, h2, h3, h4, rfl⟩ | ⟨e, -, rfl⟩ | ⟨e, i, j, x, y, h1, h2, h3, h4, rfl⟩ | ⟨e, i, j, x, y, h1, h2, h3, h4, rfl⟩ | ⟨e, i, x, h1, h3, rfl⟩
  · exact ⟨0, _, e, by omega, rfl, callFunc_enter Tryz.func115 (by kernel_rfl) (by kernel_rfl), fun w t N S C H => he_set⟩
  · exact ⟨1, _, e, by omega, rfl, callFunc_enter Tryz.func120 (by kernel_rfl) (by kernel_rfl), fun w t N S C H => he_empty⟩
  · exact ⟨2, _, e, by omega, rfl, callFunc_enter Tryz.func123 (by kernel_rfl) (by kernel_rfl), fun w t N S C H => he_chain H h1 h2 h3 h4⟩
  · exact ⟨3, _, e, by omega, rfl, callFunc_enter Tryz.func127 (by kernel_rfl) (by kernel_rfl), fun w t N S C H => he_star⟩
  · exact ⟨4, _, e, by omega, rfl, callFunc_enter Tryz.func130 (by kernel_rfl) (by kernel_rfl), fun w t N S C H => he_any H h1 h2 h3 h4⟩
  · exact ⟨5, _, e, by omega, rfl, callFunc_enter Tryz.func135 (by kernel_rfl) (by kernel_rfl), fun w t N S C H => he_all H h1 h2 h3 h4⟩
  · exact ⟨6, _, e, by omega, rfl, callFunc_enter Tryz.func138 (by kernel_rfl) (by kernel_rfl), fun w t N S C H => he_not H h1 h3⟩
section
variable {w w' : World} {t : TB} {T : List Te} {N S C : List (Value × Value)} {k : Ky} {b : Bool}
theorem miss_of (hn : ∀ x ∈ T, x.1 ≠ k) : ∀ p ∈ numPairs T, p.1 ≠ vKy k := fun p hp e => by
  obtain ⟨x, hx, e'⟩ := numPairs_mem hp
  exact hn x hx (vKy_inj (e'.symm.trans e))
theorem Tab.unknown (h : Tab w t T (numPairs T) S C) (hk : KyOK k) (hn : ∀ x ∈ T, x.1 ≠ k) : (Instr.lookup 90 (.map (some t.nb)) (vKy k) true).run Tryz.prog w = .ok (.tuple #[.int .i64 0, .bool false]) w :=
  look_miss kyKeyed Tryz.underlying90 h.nb h.keys (kyOf hk) (miss_of hn) (by simp [go_sem])
theorem Tab.enter (h : Tab w t T (numPairs T) S C) (hk : KyOK k) (hn : ∀ x ∈ T, x.1 ≠ k) : (Instr.mapUpdate 90 (.map (some t.nb)) (vKy k) (.int .i64 T.length)).run Tryz.prog w = .ok () (ChangeMaps.setBlock w t.nb (mkMap (numPairs (T ++ [(k, b)])))) := by
  rw [numPairs_snoc]
  exact put_new kyKeyed Tryz.underlying90 h.nb h.keys (kyOf hk) (miss_of hn) _
theorem set_other {r i : Nat} {o : Obj} (h : i ≠ r) : (ChangeMaps.setBlock w r o).heap[i]? = w.heap[i]? := by
  show (w.heap.setIfInBounds r o)[i]? = _
  rw [Array.getElem?_setIfInBounds_ne (Ne.symm h)]
theorem set_same {r : Nat} {o : Obj} (h : r < w.heap.size) : (ChangeMaps.setBlock w r o).heap[r]? = some o := by
  show (w.heap.setIfInBounds r o)[r]? = _
  rw [Array.getElem?_setIfInBounds_self, if_pos h]
theorem set_size {r : Nat} {o : Obj} : (ChangeMaps.setBlock w r o).heap.size = w.heap.size := by simp [ChangeMaps.setBlock]
theorem Tab.numbered (h : Tab w t T N S C) (N' : List (Value × Value)) : Tab (ChangeMaps.setBlock w t.nb (mkMap N')) t T N' S C := by
  obtain ⟨n1, n2, n3, n4, n5, n6⟩ := h.ne
  refine ⟨(set_other n1).trans h.tb, set_same (h.foot (.inr (.inl rfl))), (set_other (Ne.symm n4)).trans h.sb, (set_other (Ne.symm n5)).trans h.cb, ?_, h.ne, h.nr, h.ok, h.nd⟩
  obtain ⟨hl, hx | ⟨g, cap, cur, hv, hb', hg, rest⟩⟩ := h.row
  · exact ⟨hl, .inl hx⟩
  · refine ⟨hl, .inr ⟨g, cap, cur, hv, hb', ?_, rest⟩⟩
    have hne : g ≠ t.nb := by injection hv with e; exact (h.nr _ e).2.1
    exact (set_other hne).trans hg

theorem ky_cells {r : Nat} {a c d e : Value} {ty : TypeId} (h : w.heap[r]? = some (.cells #[a, c, d, e] ty)) : w.cell? ⟨r, 0, none⟩ = some a ∧ w.cell? ⟨r, 1, none⟩ = some c ∧ w.cell? ⟨r, 2, none⟩ = some d ∧ w.cell? ⟨r, 3, none⟩ = some e := by
  refine ⟨?_, ?_, ?_, ?_⟩ <;> simp [World.cell?, h]
theorem infoTe : (Tryz.prog.info? 120).map (fun i => (i.zero, i.size, i.bytes)) = some (some (.agg #[.int .i64 0, .string ⟨#[]⟩, .int .i64 0, .int .i64 0, .bool false]), 5, 48) := by kernel_rfl
theorem row_len (h : Tab w t T N S C) (e : t.tn = T.length) : w.ownsRow 0 120 5 (.slice t.ta T.length t.tc) T.length (teCells T) := by
  have := h.row
  rw [e] at this
  exact this
/-- the table behind keep. -/
def TB.grown (t : TB) (gg n cap : Nat) : TB := ⟨t.tb, t.nb, t.sb, t.cb, some ⟨gg, 0, none⟩, n, cap⟩
theorem row_own (t : TB) (n : Nat) : (Value.slice t.ta n t.tc).ownBlock = t.row := by
  unfold Value.ownBlock TB.row
  cases t.ta <;> rfl
theorem keep_tab {w6 w7 : World} {o : Obj} {gg cap : Nat} (h : Tab w6 t T (numPairs (T ++ [(k, b)])) S C) (hk : KyOK k) (hn : ∀ x ∈ T, x.1 ≠ k)
    (ho : w7.ownsRow 0 120 5 (.slice (some ⟨gg, 0, none⟩) (T.length + 1) cap) (T.length + 1) (teCells T ++ [.int .i64 k.kd, .string k.st, .int .i64 k.fi, .int .i64 k.se, .bool b]))
    (hg : (w6.alloc o).grownBy w7 t.row) (hat : t.row = some gg ∨ gg = w6.heap.size + 1) :
    Tab (w7.setCell ⟨t.tb, 22, none⟩ (.slice (some ⟨gg, 0, none⟩) (T.length + 1) cap)) (t.grown gg (T.length + 1) cap) (T ++ [(k, b)]) (numPairs (T ++ [(k, b)])) S C := by
  obtain ⟨n1, n2, n3, n4, n5, n6⟩ := h.ne
  have hnr : ∀ k, t.row = some k → k ≠ t.tb ∧ k ≠ t.nb ∧ k ≠ t.sb ∧ k ≠ t.cb := fun k hk => by
    simp only [TB.row, Option.map_eq_some_iff] at hk
    obtain ⟨a, ha, rfl⟩ := hk
    exact h.nr a ha
  have hbl : ∀ k, k < w6.heap.size → t.row ≠ some k → w7.heap[k]? = w6.heap[k]? := fun k hk hr => (hg.block k (by simp; omega) (Ne.symm hr)).trans (Below.heap_alloc w6 o k hk)
  have lt1 := h.lt
  have lt2 : t.nb < w6.heap.size := h.foot (.inr (.inl rfl))
  have lt3 : t.sb < w6.heap.size := h.foot (.inr (.inr (.inl rfl)))
  have lt4 : t.cb < w6.heap.size := h.foot (.inr (.inr (.inr (.inl rfl))))
  have hgg : gg ≠ t.tb ∧ gg ≠ t.nb ∧ gg ≠ t.sb ∧ gg ≠ t.cb := by
    rcases hat with e | e
    · exact hnr gg e
    · omega
  have e1 : w7.heap[t.tb]? = some (.cells (tbCells t).toArray 95 (0, 0)) := (hbl _ lt1 (fun e => (hnr _ e).1 rfl)).trans h.tb
  refine ⟨?_, ?_, ?_, ?_, ?_, h.ne, ?_, ?_, ?_⟩
  · have e2 := heap_setCell_same w7 t.tb 22 _ _ (.slice (some ⟨gg, 0, none⟩) (T.length + 1) cap) e1
    refine e2.trans ?_
    simp [tbCells, kindCells, TB.grown]
  · exact (Below.heap_setCell _ ⟨t.tb, 22, none⟩ _ t.nb (Ne.symm n1)).trans ((hbl _ lt2 (fun e => (hnr _ e).2.1 rfl)).trans h.nb)
  · exact (Below.heap_setCell _ ⟨t.tb, 22, none⟩ _ t.sb (Ne.symm n2)).trans ((hbl _ lt3 (fun e => (hnr _ e).2.2.1 rfl)).trans h.sb)
  · exact (Below.heap_setCell _ ⟨t.tb, 22, none⟩ _ t.cb (Ne.symm n3)).trans ((hbl _ lt4 (fun e => (hnr _ e).2.2.2 rfl)).trans h.cb)
  · have hx : teCells (T ++ [(k, b)]) = teCells T ++ [.int .i64 k.kd, .string k.st, .int .i64 k.fi, .int .i64 k.se, .bool b] := by rw [teCells_append]; rfl
    rw [List.length_append, hx]
    obtain ⟨hl, ⟨hv, h0⟩ | ⟨g, cap', cur, hv, hb', hgc, rest⟩⟩ := ho
    · cases hv
    · refine ⟨hl, .inr ⟨g, cap', cur, hv, hb', ?_, rest⟩⟩
      have hg' : g = gg := by injection hv with e; injection e with e; injection e with e; exact e.symm
      rw [hg'] at hgc ⊢
      exact (Below.heap_setCell _ ⟨t.tb, 22, none⟩ _ gg hgg.1).trans hgc
  · intro a ha
    have : a = ⟨gg, 0, none⟩ := by
      simp only [TB.grown, Option.some.injEq] at ha
      exact ha.symm
    subst this
    exact hgg
  · intro x hx
    rcases List.mem_append.1 hx with hx | hx
    · exact h.ok x hx
    · rw [List.mem_singleton] at hx
      subst hx
      exact hk
  · rw [List.map_append]
    refine List.nodup_append.2 ⟨h.nd, by simp, fun a ha c hc e => ?_⟩
    obtain ⟨x, hx, rfl⟩ := List.mem_map.1 ha
    simp at hc
    exact hn x hx (e.trans hc)
theorem keep_fr {w w6 w7 : World} {o : Obj} {u : Value} {gg n cap : Nat} (h : TFr t t w w6) (hg : (w6.alloc o).grownBy w7 t.row) (hat : t.row = some gg ∨ gg = w6.heap.size + 1) : TFr t (t.grown gg n cap) w (w7.setCell ⟨t.tb, 22, none⟩ u) := by
  have hs := hg.size
  have hs6 := h.size
  simp only [World.alloc, Array.size_push] at hs
  refine ⟨hg.os.trans h.os, hg.tape.trans h.tape, hg.output.trans h.output, by simp [World.setCell]; omega, fun k hk hf => ?_, rfl, rfl, rfl, rfl, fun k hk => ?_⟩
  · have k1 : k ≠ t.tb := fun e => hf (.inl e)
    have k2 : t.row ≠ some k := fun e => hf (.inr (.inr (.inr (.inr e))))
    exact (Below.heap_setCell _ ⟨t.tb, 22, none⟩ _ k k1).trans ((hg.block k (by simp; omega) (Ne.symm k2)).trans ((Below.heap_alloc w6 o k (by omega)).trans (h.block k hk hf)))
  · have : gg = k := by simpa [TB.row, TB.grown] using hk
    subst this
    rcases hat with e | e
    · exact .inl e
    · exact .inr (by omega)
theorem TFr.set (h : TFr t t w w') {r : Nat} (hr : TF t r) (o : Obj) : TFr t t w (ChangeMaps.setBlock w' r o) :=
  ⟨h.os, h.tape, h.output, by rw [set_size]; exact h.size, fun k hk hf => (set_other (fun (e : k = r) => hf (by rw [e]; exact hr))).trans (h.block k hk hf), rfl, rfl, rfl, rfl, fun _ e => .inl e⟩

set_option maxRecDepth 100000 in
set_option maxHeartbeats 4000000 in
theorem keep_new (h : Hid (Tab w t T (numPairs T) S C)) (hk : KyOK k) (hw : KyWF T k b) (hn : ∀ x ∈ T, x.1 ≠ k) (hl : T.length < 1000000000000) : Calls Tryz.prog 46 #[.pointer (some ⟨t.tb, 0, none⟩), vKy k] w fun e w' => e = .returned (.int .i64 T.length) ∧ ∃ t', Hid (Tab w' t' (T ++ [(k, b)]) (numPairs (T ++ [(k, b)])) S C) ∧ Hid (TFr t t' w w') := by
  obtain ⟨n, f, hkd, hn7, hcell, hcf, HF⟩ := he_of hw
  obtain ⟨kd, st, fi, se⟩ := k
  dsimp only at hkd
  subst hkd
  have HT1 := Tab.alloc h (.cells #[.int .i64 n, .string st, .int .i64 fi, .int .i64 se] 99)
  have H1 := unhide HT1
  obtain ⟨q1, q2, q3, q4⟩ := H1.cells
  have hlk := fun m => (H1.drew m).unknown hk hn
  have hl0 := H1.unknown hk hn
  have hup := fun m => (H1.drew m).enter (b := b) hk hn
  have hup' := fun m => ((H1.drew m).drew 1).enter (b := b) hk hn
  have htn : t.tn = T.length := by
    obtain ⟨hl, ⟨hv, hn⟩ | ⟨g, cap, cur, hv, -⟩⟩ := H1.row
    · injection hv with e1 e2 e3; omega
    · injection hv with e1 e2 e3
  rw [htn] at q2
  unfold vKy at hlk hl0 ⊢
  dsimp only at hlk hl0 ⊢
  have HNB : Hid (t.nb < w.heap.size) := (unhide h).foot (.inr (.inl rfl))
  have HTB : Hid (t.tb < w.heap.size) := (unhide h).lt
  have HRW : Hid (∀ k, t.row = some k → k < w.heap.size) := fun k e => (unhide h).foot (.inr (.inr (.inr (.inr e))))
  clear H1 h hup hup'
  go_enter Tryz.func46, Tryz.ntmps46
  go_wp2_with fail
  go_quiet (fail)
  go_wp2_with fail
  have HTq := hide ((unhide HT1).drew nq)
  have HKq := hide (heap_alloc_new w (.cells #[.int .i64 n, .string st, .int .i64 fi, .int .i64 se] 99))
  have HKq' : Hid (((w.alloc (.cells #[.int .i64 n, .string st, .int .i64 fi, .int .i64 se] 99)).drewN nq).heap[w.heap.size]? = some (.cells #[.int .i64 n, .string st, .int .i64 fi, .int .i64 se] 99)) := unhide HKq
  have HBq := kyBelow w (.cells #[.int .i64 n, .string st, .int .i64 fi, .int .i64 se] 99) nq
  clear HT1 HKq q1 q2 q3 q4 hlk hl0
  generalize (w.alloc (.cells #[.int .i64 n, .string st, .int .i64 fi, .int .i64 se] 99)).drewN nq = Wq at *
  have HTq' : Hid (Tab Wq.drew t T (numPairs T) S C) := (unhide HTq).drew 1
  obtain ⟨q1, q2, q3, q4⟩ := (unhide HTq).cells
  obtain ⟨k0, k1, k2, k3⟩ := ky_cells (unhide HKq')
  have hup := (unhide HTq').enter (b := b) hk hn
  unfold vKy at hup
  dsimp only at hup
  go_region
  have HT5 := hide ((unhide HTq').numbered (numPairs (T ++ [(⟨n, st, fi, se⟩, b)])))
  have hnlt : t.nb < w.heap.size := unhide HNB
  have HK5 : Hid ((ChangeMaps.setBlock Wq.drew t.nb (mkMap (numPairs (T ++ [(⟨n, st, fi, se⟩, b)])))).heap[w.heap.size]? = some (.cells #[.int .i64 n, .string st, .int .i64 fi, .int .i64 se] 99)) := (set_other (by omega)).trans (unhide HKq')
  have HF5 : Hid (TFr t t w (ChangeMaps.setBlock Wq.drew t.nb (mkMap (numPairs (T ++ [(⟨n, st, fi, se⟩, b)]))))) := TFr.set (TFr.below (unhide HBq).drew) (.inr (.inl rfl)) _
  clear HTq HTq' HKq' HBq q1 q2 q3 q4 k0 k1 k2 k3 hup
  generalize ChangeMaps.setBlock Wq.drew t.nb (mkMap (numPairs (T ++ [(⟨n, st, fi, se⟩, b)]))) = W5 at *
  obtain ⟨q1, q2, q3, q4⟩ := (unhide HT5).cells
  rw [htn] at q2
  have qf := (unhide HT5).fz 22
  have qk := (unhide HT5).kind hcell
  obtain ⟨k0, k1, k2, k3⟩ := ky_cells (unhide HK5)
  have HC : Hid (∀ (m : Nat), Calls Tryz.prog f #[.pointer (some ⟨t.tb, 0, none⟩), .agg #[.int .i64 n, .string st, .int .i64 fi, .int .i64 se]] (W5.drewN m) fun e w' => e = .returned (.bool b) ∧ Hid (Below (W5.drewN m).heap.size (W5.drewN m) w')) := fun m => HF _ t _ S C (hide ((unhide HT5).drew m))
  go_wp2_with fail
  have hn0 : (0 : Int) ≤ (n : Int) := by omega
  have hn7' : (n : Int) < 7 := by omega
  have hkb : w.heap.size < W5.heap.size := (Array.getElem?_eq_some_iff.1 (unhide HK5)).1
  have htb : t.tb < W5.heap.size := (unhide HT5).lt
  have htw : t.tb < w.heap.size := unhide HTB
  obtain ⟨i0, hi0, hz0, hz1, hz2⟩ := info_parts infoTe
  have hr1 : t.row ≠ some w.heap.size := fun e => by have := unhide HRW _ e; omega
  have hr2 : t.row ≠ some t.tb := fun e => by
    simp only [TB.row, Option.map_eq_some_iff] at e
    obtain ⟨a, ha, e⟩ := e
    exact ((unhide HT5).nr a ha).1 e
  generalize hkbw : w.heap.size = kb at *
  have e1 : kb ≠ t.tb := by omega
  have e2 : t.tb ≠ kb := by omega
  have e3 : n * 3 ≠ 22 := by omega
  refine region_end (S := fun w' => w'.cell? ⟨kb, 0, none⟩ = some (.int .i64 n) ∧ w'.cell? ⟨kb, 1, none⟩ = some (.string st) ∧ w'.cell? ⟨kb, 2, none⟩ = some (.int .i64 fi) ∧ w'.cell? ⟨kb, 3, none⟩ = some (.int .i64 se) ∧ w'.cell? ⟨t.tb, n * 3, none⟩ = some (fv f) ∧ w'.cell? ⟨t.tb, 22, none⟩ = some (.slice t.ta T.length t.tc)) rfl (by kernel_rfl) (by kernel_rfl) ⟨k0, k1, k2, k3, qk, q2⟩ (fun hHeld => ?_)
  simp only [List.pop_toArray, List.dropLast, List.size_toArray, List.length_cons, List.length_nil, Nat.reduceAdd]
  refine wpAnyH_take (i := 0) (v := ?_) rfl (by kernel_rfl) (by kernel_rfl) (by kernel_rfl) (fun _ _ _ h => h) (Or.inl ⟨by rfl, ?_⟩) (by assumption) ?_
  rotate_left
  · intro W hW; (try dsimp only at hW); go_simp; (try with_reducible rfl)
  refine wpAnyH_take (i := 1) (v := ?_) rfl (by kernel_rfl) (by kernel_rfl) (by kernel_rfl) (fun _ _ _ h => h) (Or.inl ⟨by rfl, ?_⟩) (by assumption) ?_
  rotate_left
  · intro W hW; (try dsimp only at hW); go_simp; (try with_reducible rfl)
  refine wpAnyH_take (i := 2) (v := ?_) rfl (by kernel_rfl) (by kernel_rfl) (by kernel_rfl) (fun _ _ _ h => h) (Or.inl ⟨by rfl, ?_⟩) (by assumption) ?_
  rotate_left
  · intro W hW; (try dsimp only at hW); go_simp; (try with_reducible rfl)
  refine wpAnyH_take (i := 3) (v := ?_) rfl (by kernel_rfl) (by kernel_rfl) (by kernel_rfl) (fun _ _ _ h => h) (Or.inl ⟨by rfl, ?_⟩) (by assumption) ?_
  rotate_left
  · intro W hW; (try dsimp only at hW); go_simp; (try with_reducible rfl)
  refine wpAnyH_take (i := 4) (v := ?_) rfl (by kernel_rfl) (by kernel_rfl) (by kernel_rfl) (fun _ _ _ h => h) (Or.inl ⟨by rfl, ?_⟩) (by assumption) ?_
  rotate_left
  · intro W hW; (try dsimp only at hW); go_simp; (try with_reducible rfl)
  refine wpAnyH_take (i := 5) (v := ?_) rfl (by kernel_rfl) (by kernel_rfl) (by kernel_rfl) (fun _ _ _ h => h) (Or.inl ⟨by rfl, ?_⟩) (by assumption) ?_
  rotate_left
  · intro W hW; (try dsimp only at hW); go_simp; (try with_reducible rfl)
  refine wpAnyH_take (i := 6) (v := ?_) rfl (by kernel_rfl) (by kernel_rfl) (by kernel_rfl) (fun _ _ _ h => h) (Or.inl ⟨by rfl, ?_⟩) (by assumption) ?_
  rotate_left
  · intro W hW; (try dsimp only at hW); go_simp; (try with_reducible rfl)
  refine wpAnyH_take (i := 7) (v := ?_) rfl (by kernel_rfl) (by kernel_rfl) (by kernel_rfl) (fun _ _ _ h => h) (Or.inl ⟨by rfl, ?_⟩) (by assumption) ?_
  rotate_left
  · intro W hW; (try dsimp only at hW); go_simp; (try with_reducible rfl)
  refine wpAnyH_take (i := 8) (v := ?_) rfl (by kernel_rfl) (by kernel_rfl) (by kernel_rfl) (fun _ _ _ h => h) (Or.inl ⟨by rfl, ?_⟩) (by assumption) ?_
  rotate_left
  · intro W hW; (try dsimp only at hW); go_simp; (try with_reducible rfl)
  refine wpAnyH_take (i := 9) (v := ?_) rfl (by kernel_rfl) (by kernel_rfl) (by kernel_rfl) (fun _ _ _ h => h) (Or.inl ⟨by rfl, ?_⟩) (by assumption) ?_
  rotate_left
  · intro W hW; (try dsimp only at hW); go_simp; (try with_reducible rfl)
  refine wpAnyH_take (i := 10) (v := ?_) rfl (by kernel_rfl) (by kernel_rfl) (by kernel_rfl) (fun _ _ _ h => h) (Or.inl ⟨by rfl, ?_⟩) (by assumption) ?_
  rotate_left
  · intro W hW; (try dsimp only at hW); go_simp; (try with_reducible rfl)
  refine wpAnyH_take (i := 11) (v := ?_) rfl (by kernel_rfl) (by kernel_rfl) (by kernel_rfl) (fun _ _ _ h => h) (Or.inl ⟨by rfl, ?_⟩) (by assumption) ?_
  rotate_left
  · intro W hW; (try dsimp only at hW); go_simp; (try with_reducible rfl)
  refine wpAnyH_take (i := 12) (v := ?_) rfl (by kernel_rfl) (by kernel_rfl) (by kernel_rfl) (fun _ _ _ h => h) (Or.inl ⟨by rfl, ?_⟩) (by assumption) ?_
  rotate_left
  · intro W hW; (try dsimp only at hW); go_simp; (try with_reducible rfl)
  refine wpAnyH_take (i := 13) (v := ?_) rfl (by kernel_rfl) (by kernel_rfl) (by kernel_rfl) (fun _ _ _ h => h) (Or.inl ⟨by rfl, ?_⟩) (by assumption) ?_
  rotate_left
  · intro W hW; (try dsimp only at hW); go_simp; (try with_reducible rfl)
  refine wpAnyH_take (i := 14) (v := ?_) rfl (by kernel_rfl) (by kernel_rfl) (by kernel_rfl) (fun _ _ _ h => h) (Or.inl ⟨by rfl, ?_⟩) (by assumption) ?_
  rotate_left
  · intro W hW; (try dsimp only at hW); go_simp; (try with_reducible rfl)
  refine wpAnyH_take (i := 15) (v := ?_) rfl (by kernel_rfl) (by kernel_rfl) (by kernel_rfl) (fun _ _ _ h => h) (Or.inl ⟨by rfl, ?_⟩) (by assumption) ?_
  rotate_left
  · intro W hW; (try dsimp only at hW); go_simp; (try with_reducible rfl)
  refine wpAnyH_ready (rs := [16]) (by kernel_rfl) (by simp) ?_
  refine AllReadyH.cons rfl (fun K hK => ?_) AllReadyH.nil
  go_simp
  refine Calls.mono (unhide HC 1) ?_
  rintro x w6 ⟨rfl, HB6⟩
  dsimp only
  have hw6 := (unhide HB6).size
  have hc6 : ∀ (a i : Nat) (u : Value), a < W5.heap.size → W5.cell? ⟨a, i, none⟩ = some u → w6.cell? ⟨a, i, none⟩ = some u := fun a i u ha hu => by rw [(unhide HB6).cell (p := ⟨a, i, none⟩) ha]; exact hu
  have r0 := hc6 _ _ _ hkb k0
  have r1 := hc6 _ _ _ hkb k1
  have r2 := hc6 _ _ _ hkb k2
  have r3 := hc6 _ _ _ hkb k3
  have rk := hc6 _ _ _ htb qk
  have r22 := hc6 _ _ _ htb q2
  have HT6 := Tab.below (hide ((unhide HT5).drew 1)) (unhide HB6)
  have HO6 := hide (row_len (unhide HT6) htn)
  have hkb6 : kb < w6.heap.size := World.block_lt_of_cell? w6 _ r0
  have htb6 : t.tb < w6.heap.size := World.block_lt_of_cell? w6 _ rk
  have rf := (unhide HT6).fz 22
  clear hc6 k0 k1 k2 k3 qk q1 q2 q3 q4 qf
  refine hK.out _ _ ⟨r0, r1, r2, r3, rk, r22⟩ (fun hHeld => ?_)
  clear hK K
  refine wpAnyH_take (i := 17) (v := ?_) rfl (by kernel_rfl) (by kernel_rfl) (by kernel_rfl) (fun _ _ _ h => h) (Or.inl ⟨by rfl, ?_⟩) (by assumption) ?_
  rotate_left
  · intro W hW; (try dsimp only at hW); go_simp; (try with_reducible rfl)
  refine wpAnyH_ready (rs := [18]) (by kernel_rfl) (by simp) ?_
  refine AllReadyH.cons rfl (fun K hK => ?_) AllReadyH.nil
  go_simp
  refine hK.out _ _ ?_ (fun hHeld => ?_)
  · go_keep
  clear hK K
  refine wpAnyH_ready (rs := [19]) (by kernel_rfl) (by simp) ?_
  refine AllReadyH.cons rfl (fun K hK => ?_) AllReadyH.nil
  refine step_append_lies _ (by rfl) _ _ _ (by rfl) 0 120 i0 _ 5 48 Tryz.underlying93 hi0 hz0 hz1 hz2 rfl (by omega) (.slice t.ta T.length t.tc) T.length (teCells T) (by rfl) ((unhide HO6).alloc _) ⟨w6.heap.size, 0, none⟩ 1 1 [.int .i64 n, .string st, .int .i64 fi, .int .i64 se, .bool b] (by rfl) (by rfl) (World.news_of_block (cs := #[.int .i64 n, .string st, .int .i64 fi, .int .i64 se, .bool b]) (t := 120) (fr := (0, 0)) (heap_alloc_new w6 _)) (by intro u hu; simp at hu; rcases hu with rfl | rfl | rfl | rfl | rfl <;> rfl) (by omega) (by unfold maxLen; omega) (by omega) (Nat.zero_le _) (w6.heap.size + 1) (by simp) ?_
  intro gg cap w7 hown1 hgrow hat hlt1
  rw [row_own] at hgrow hat
  have HG := hide hgrow
  have HO7 := hide hown1
  have HAT := hide hat
  have hb7 : ∀ (a i : Nat) (u : Value), a < w6.heap.size → t.row ≠ some a → w6.cell? ⟨a, i, none⟩ = some u → w7.cell? ⟨a, i, none⟩ = some u := fun a i u ha hr hu => by rw [World.cell?_of_block (a := ⟨a, i, none⟩) ((hgrow.block a (by simp; omega) (Ne.symm hr)).trans (Below.heap_alloc w6 _ a ha))]; exact hu
  have u22 := hb7 _ _ _ htb6 hr2 r22
  have uf : w7.frozen? ⟨t.tb, 22, none⟩ = false := by rw [World.frozen?_of_block (a := ⟨t.tb, 22, none⟩) ((hgrow.block t.tb (by simp; omega) (Ne.symm hr2)).trans (Below.heap_alloc w6 _ t.tb htb6))]; exact rf
  refine hK.out _ _ ⟨hb7 _ _ _ hkb6 hr1 r0, hb7 _ _ _ hkb6 hr1 r1, hb7 _ _ _ hkb6 hr1 r2, hb7 _ _ _ hkb6 hr1 r3, hb7 _ _ _ htb6 hr2 rk, u22⟩ (fun hHeld => ?_)
  clear hK K hgrow hown1 hat hb7
  refine wpAnyH_take (i := 20) (v := ?_) rfl (by kernel_rfl) (by kernel_rfl) (by kernel_rfl) (fun _ _ _ h => h) (Or.inl ⟨by rfl, ?_⟩) (by assumption) ?_
  rotate_left
  · intro W hW; (try dsimp only at hW); go_simp; (try with_reducible rfl)
  refine wpAnyH_take (i := 21) (v := ?_) rfl (by kernel_rfl) (by kernel_rfl) (by kernel_rfl) (fun _ _ _ h => h) (Or.inl ⟨by rfl, ?_⟩) (by assumption) ?_
  rotate_left
  · intro W hW; (try dsimp only at hW); go_simp; (try with_reducible rfl)
  refine wpAnyH_done (by kernel_rfl) ?_ _
  show Oper.wp _ _ _ _ _ _
  go_simp
  go_wp2_with fail
  go_ret
  have hb := unhide HB6
  have hf6 : TFr t t w w6 := (unhide HF5).trans (TFr.below ⟨hb.os, hb.tape, hb.output, hb.size, hb.block⟩)
  exact ⟨rfl, _, keep_tab (unhide HT6) hk hn (unhide HO7) (unhide HG) (unhide HAT), keep_fr hf6 (unhide HG) (unhide HAT)⟩
end
end Go.Proofs.YtfolanohokflkabGreatDoor
