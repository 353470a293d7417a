import Derived.Test.YtfolanohokflkabGreatDoorSvB
import Derived.Test.YtfolanohokflkabGreatDoorMrgA
import Derived.Test.YtfolanohokflkabGreatDoorShelfG
import Derived.Shelf.SlSortCmp.WholeK
import Derived.Shelf.SlSortCmp.NoneTotal
import Derived.Sort.OwnSorted
import Derived.Test.YtfolanohokflkabGreatDoorHexA
import Derived.Deep.QuietTactic
import Derived.BigQuiet
import Derived.BigRegion
import Derived.WalkKit
import Derived.WalkSpells
import Derived.WalkLawsBesides
import Derived.Deep.AppendLies
import Derived.Deep.RegionLaw
/-
  slices.SortedFunc at pieces, by their first symbols.
-/
namespace Go.Proofs.YtfolanohokflkabGreatDoor
open Go.RowKit Go.Shelf Go.Sort Go.Lib

def encPc (x : Int × Int) : List Value := [.int .i32 x.1, .int .i32 x.2]
def cmpI (a b : Int) : Int := if a < b then -1 else if b < a then 1 else 0

set_option maxHeartbeats 1000000 in
theorem isNaN_rune (x : Int) (w : World) : Calls Tryz.prog 199 #[.int .i32 x] w fun e w' => e = .returned (.bool false) ∧ w = w' := by
  go_enter Tryz.func199, Tryz.ntmps199
  go_wp2
  go_ret
  exact ⟨rfl, rfl⟩
set_option maxHeartbeats 1000000 in
theorem compare_rune (x y : Int) (w : World) : Calls Tryz.prog 195 #[.int .i32 x, .int .i32 y] w fun e w' => e = .returned (.int .i64 (cmpI x y)) ∧ w = w' := by
  by_cases h1 : x < y
  · go_enter Tryz.func195, Tryz.ntmps195
    go_wp2_with (go_at_call 199; refine (isNaN_rune _ _).mono ?_; rintro e w' ⟨rfl, rfl⟩)
    go_ret
    exact ⟨by simp [cmpI, h1], rfl⟩
  · by_cases h2 : y < x
    · go_enter Tryz.func195, Tryz.ntmps195
      go_wp2_with (go_at_call 199; refine (isNaN_rune _ _).mono ?_; rintro e w' ⟨rfl, rfl⟩)
      go_ret
      exact ⟨by simp [cmpI, h1, h2], rfl⟩
    · go_enter Tryz.func195, Tryz.ntmps195
      go_wp2_with (go_at_call 199; refine (isNaN_rune _ _).mono ?_; rintro e w' ⟨rfl, rfl⟩)
      go_ret
      exact ⟨by rw [cmpI, if_neg (by omega), if_neg (by omega)]; rfl, rfl⟩
set_option maxHeartbeats 1000000 in
theorem setOf_less (x y : Int × Int) (W : World) : Calls Tryz.prog 194 #[.agg #[.int .i32 x.1, .int .i32 x.2], .agg #[.int .i32 y.1, .int .i32 y.2]] W fun e w' => e = .returned (.int .i64 (cmpI x.1 y.1)) ∧ ∃ q os', w' = grow (W.drewN q) os' := by
  have hcon := fun W' => compare_rune x.1 y.1 W'
  generalize cmpI x.1 y.1 = r at hcon ⊢
  go_enter Tryz.func194, Tryz.ntmps194
  go_wp2_with (go_at_call 195; refine (hcon _).mono ?_; rintro e w' ⟨rfl, rfl⟩)
  go_ret
  exact ⟨rfl, 0, _, by rw [alloc_eq_grow, alloc_eq_grow, grow_grow]; rfl⟩
theorem cmpLays_pc (blk off size : Nat) (w : World) : CmpLays Tryz.prog 194 #[] encPc 2 (fun x y => cmpI x.1 y.1) blk off size w :=
  fun _ _ _ _ x y => setOf_less x y _
theorem ltPc (x y : Int × Int) : ltOf (fun x y : Int × Int => cmpI x.1 y.1) x y = decide (x.1 < y.1) := by
  unfold ltOf cmpI
  by_cases h1 : x.1 < y.1
  · simp [h1]
  · by_cases h2 : y.1 < x.1 <;> simp [h1, h2]
theorem swoPc : SWO (ltOf fun x y : Int × Int => cmpI x.1 y.1) where
  irrefl x := by rw [ltPc]; simp
  trans x y z h1 h2 := by rw [ltPc] at *; simp at *; omega
  ntrans x y z h1 h2 := by rw [ltPc] at *; simp at *; omega

theorem pcCells_get : ∀ (l : List (Int × Int)) (i : Nat) (h : i < l.length), (pcCells l)[i * 2]? = some (.int .i32 l[i].1) ∧ (pcCells l)[i * 2 + 1]? = some (.int .i32 l[i].2)
  | [], _, h => by simp at h
  | x :: l, 0, _ => ⟨rfl, rfl⟩
  | x :: l, i + 1, h => by
    have ih := pcCells_get l i (by simpa using h)
    rw [show (i + 1) * 2 = i * 2 + 1 + 1 from by omega]
    simpa [pcCells] using ih
theorem flat_pc (d : Array (Int × Int)) : flatK encPc 2 d = (pcCells d.toList).toArray := by
  apply Array.ext
  · simp [pcCells_length]
  · intro t h1 h2
    rw [size_flatK] at h1
    have hlt : t / 2 < d.toList.length := by simp; omega
    have hd : d[t / 2]! = d.toList[t / 2] := by
      rw [getElem!_pos d (t / 2) (by simpa using hlt)]; simp
    have hg := pcCells_get d.toList (t / 2) hlt
    have e1 : (flatK encPc 2 d)[t] = (encPc d[t / 2]!)[t % 2]! := by rw [← get_flatK encPc 2 d t h1, getElem!_pos _ t (by simpa using h1)]
    rw [e1, hd]
    have e2 : (pcCells d.toList).toArray[t] = ((pcCells d.toList)[t]?).getD default := by
      rw [List.getElem?_eq_getElem (by simpa using h2)]; simp
    rw [e2]
    rcases Nat.mod_two_eq_zero_or_one t with h | h
    · have e3 : (pcCells d.toList)[t]? = some (.int .i32 d.toList[t / 2].1) := by
        have := hg.1
        rwa [show t / 2 * 2 = t from by omega] at this
      rw [h, e3]; rfl
    · have e3 : (pcCells d.toList)[t]? = some (.int .i32 d.toList[t / 2].2) := by
        have := hg.2
        rwa [show t / 2 * 2 + 1 = t from by omega] at this
      rw [h, e3]; rfl
theorem holds_pc {w : World} {g : Nat} {cur : Array Value} {e : TypeId} {zs : List (Int × Int)} (hb : w.heap[g]? = some (.cells cur e (0, 0))) (ht : cur.toList.take (zs.length * 2) = pcCells zs) : HoldsK encPc 2 w g 0 zs.toArray := by
  unfold HoldsK
  rw [flat_pc]
  intro j hj
  have hj' : j < (pcCells zs).length := by simpa using hj
  have hj2 : j < zs.length * 2 := by rw [← pcCells_length]; exact hj'
  refine ⟨?_, by simp [World.frozen?, hb]⟩
  have h1 : (cur.toList.take (zs.length * 2))[j]? = (pcCells zs)[j]? := by rw [ht]
  rw [List.getElem?_take_of_lt hj2] at h1
  simp only [World.cell?, hb, Nat.zero_add]
  simp only [Option.isSome_none, Bool.false_eq_true, if_false]
  rw [← Array.getElem?_toList, h1]
  simp [hj']
theorem heap_sortedK {w : World} {g n : Nat} {os : Array Obj} {cur : Array Value} {e : TypeId} {fr : Nat × Nat} (d : Array (Int × Int)) (hb : w.heap[g]? = some (.cells cur e fr)) :
    (sortWorldK encPc 2 w g 0 n d os).heap[g]? = some (.cells (putCells id 0 (flatK encPc 2 d) cur) e fr) := by
  have hg : g < w.heap.size := (Array.getElem?_eq_some_iff.1 hb).1
  unfold sortWorldK putRowK
  rw [heap_grow_old _ _ (by simpa using hg)]
  simp [putRow, mapBlock, Sort.ahead, Array.getElem?_modify, hb, onCells]
theorem grown_sortedK {w : World} {g n : Nat} {os : Array Obj} (d : Array (Int × Int)) : w.grownBy (sortWorldK encPc 2 w g 0 n d os) (some g) := by
  unfold sortWorldK putRowK
  refine ⟨rfl, rfl, rfl, by simp, fun k hk hne => ?_⟩
  rw [heap_grow_old _ _ (by simpa using hk)]
  have : g ≠ k := fun e => hne (by rw [e])
  simp [putRow, mapBlock, Sort.ahead, Array.getElem?_modify, this]
theorem owns_sortedK {w : World} {base g cap n : Nat} {e : TypeId} {os : Array Obj} {cur : Array Value} {ts : List (Int × Int)} {m : Nat} (hl : ts.length = m) (hbase : base ≤ g) (hb : w.heap[g]? = some (.cells cur e (0, 0)))
    (h1 : m ≤ cap) (h2 : cap ≤ maxLen) (h3 : cur.size = cap * 2) :
    (sortWorldK encPc 2 w g 0 n ts.toArray os).ownsRow base e 2 (.slice (some ⟨g, 0, none⟩) m cap) m (pcCells ts) := by
  refine ⟨by rw [pcCells_length, hl], .inr ⟨g, cap, _, rfl, hbase, heap_sortedK _ hb, h1, h2, by simp [putCells, h3], ?_⟩⟩
  rw [flat_pc]
  apply List.ext_getElem?
  intro j
  have hlen := pcCells_length ts
  by_cases hj : j < m * 2
  · rw [List.getElem?_take_of_lt hj, Array.getElem?_toList]
    have hj2 : j < (pcCells ts).length := by omega
    have hj3 : j < cur.size := by omega
    simp [putCells, hj2, hj3]
  · rw [List.getElem?_take_eq_none (by omega), List.getElem?_eq_none (by omega)]
theorem srt_of {d : Array (Int × Int)} (h : SortedIn (ltOf fun x y : Int × Int => cmpI x.1 y.1) 0 d.size d) : SrtPc d.toList := by
  rw [SrtPc, List.pairwise_iff_getElem]
  intro i j hi hj hij
  have := h i j (Nat.zero_le _) hij (by simpa using hj)
  rw [ltPc, getElem!_pos d j (by simpa using hj), getElem!_pos d i (by simpa using hi)] at this
  simp at this ⊢
  omega
theorem perm_of {d d' : Array (Int × Int)} (h : PermIn 0 d.size d d') : d'.toList.Perm d.toList := by
  have := h.2.2
  have e1 : d'.extract 0 d.size = d' := by rw [← h.1]; simp
  have e2 : d.extract 0 d.size = d := by simp
  rwa [e1, e2] at this

set_option maxRecDepth 100000 in
set_option maxHeartbeats 2000000 in
theorem sortedFunc (lb : Array Value) (zs : List (Int × Int)) (hz : zs.length ≤ 100000) (w : World)
    (hseq : SeqStopsK Fence.wide 5 Tryz.prog 248 lb (fun x : Int × Int => #[vPiece x]) (Below w.heap.size) (fun ys => ys = zs) (fun pre => pre <+: zs) zs.length w) :
    Calls Tryz.prog 192 #[.func (.func 248) #[] lb, .func (.func 194) #[] #[]] w fun e w' =>
      ∃ v ts, e = .returned v ∧ ts.Perm zs ∧ SrtPc ts ∧ w'.ownsRow w.heap.size 199 2 v zs.length (pcCells ts) ∧ Below w.heap.size w w' := by
  have hC := callsIn_wide.1 (collect_in 7 (by omega) lb zs hz w hseq)
  have eg : ∀ args w, (callFunc 194 args).run Tryz.prog w = .ok (.enter 194 args) w := enters_of Tryz.func194 (by kernel_rfl) rfl
  clear hseq
  go_enter Tryz.func192, Tryz.ntmps192
  go_wp2_with (go_at_call 246; refine hC.mono ?_; rintro e W ⟨v, rfl, hrow, hb⟩)
  rcases hrow.2 with ⟨rfl, hz0⟩ | ⟨gb, cap, cur, rfl, hbase, hgb, r1, r2, r3, r4⟩
  · have hss : zs = [] := List.eq_nil_of_length_eq_zero hz0
    subst hss
    have hN : Calls Tryz.prog 247 #[.slice none 0 0, .func (.func 194) #[] #[]] W fun e w' => e = .returned (.tuple #[]) ∧ w' = W := AnyF.slices_SortFunc_none Tryz.sortPc none 0 _ W
    go_wp2_with (go_at_call 247; refine hN.mono ?_; rintro e w' ⟨rfl, rfl⟩)
    go_ret
    exact ⟨_, [], rfl, List.Perm.refl _, List.Pairwise.nil, hrow, hb⟩
  · have hgl : gb < W.heap.size := (Array.getElem?_eq_some_iff.1 hgb).1
    have hS : Calls Tryz.prog 247 #[.slice (some ⟨gb, 0, none⟩) zs.length cap, .func (.func 194) #[] #[]] W fun e w' => e = .returned (.tuple #[]) ∧ ∃ d' n os, PermIn 0 zs.toArray.size zs.toArray d' ∧ SortedIn (ltOf fun x y : Int × Int => cmpI x.1 y.1) 0 zs.toArray.size d' ∧ w' = sortWorldK encPc 2 W gb 0 n d' os :=
      AnyQ.slices_SortFunc Tryz.sortPc 2 Tryz.isAgg199 Tryz.sizeOf199 encPc (fun _ => rfl) (fun x v hv => by simp [encPc] at hv; rcases hv with rfl | rfl <;> rfl) (fun x y => cmpI x.1 y.1) swoPc 194 #[] gb 0 cap zs.toArray W eg (cmpLays_pc gb 0 _ W) (holds_pc hgb r4) hgl (by simp; omega)
    have HR := hide hrow
    have HB := hide hb
    have HS := hide hS
    clear hrow hb hS
    go_wp2_with (go_at_call 247; refine (unhide HS).mono ?_; rintro e w' ⟨rfl, d', n, os, hp, hs, rfl⟩)
    go_ret
    have hsz : d'.toList.length = zs.length := by have := hp.1; simpa using this
    refine ⟨_, d'.toList, rfl, by simpa using perm_of hp, srt_of (by have := hp.1; rw [this]; exact hs), ?_, ?_⟩
    · have := owns_sortedK (n := n) (os := os) (ts := d'.toList) hsz hbase hgb r1 r2 r3
      simpa using this
    · exact (unhide HB).grown (grown_sortedK d') (unhide HB).size (fun j hj => by cases hj; exact hbase)
end Go.Proofs.YtfolanohokflkabGreatDoor

/-
  setOf.
-/
namespace Go.Proofs.YtfolanohokflkabGreatDoor
open Go.RowKit

set_option maxHeartbeats 1000000 in
theorem above_any (c : Int) (w : World) (h0 : 0 ≤ c) (h1 : c ≤ 1114112) : Calls Tryz.prog 196 #[.int .i32 c] w fun e w' => e = .returned (.int .i32 (abv c)) ∧ w = w' := by
  by_cases h : c = 55295
  · subst h
    go_enter Tryz.func196, Tryz.ntmps196
    go_wp2
    go_ret
    exact ⟨rfl, rfl⟩
  · have hne : (c == (55295 : Int)) = false := by simp [h]
    have hw : IntKind.i32.wrap (c + 1) = c + 1 := by simp [IntKind.wrap, IntKind.bits, IntKind.signed]; omega
    have ha : abv c = c + 1 := by rw [abv, if_neg h]
    rw [ha]
    clear h ha
    go_enter Tryz.func196, Tryz.ntmps196
    go_wp2
    go_ret
    exact ⟨rfl, rfl⟩
set_option maxHeartbeats 1000000 in
theorem below_any (c : Int) (w : World) (h0 : 0 < c) (h1 : c ≤ 1114111) : Calls Tryz.prog 187 #[.int .i32 c] w fun e w' => e = .returned (.int .i32 (if c = 57344 then 55295 else c - 1)) ∧ w = w' := by
  by_cases h : c = 57344
  · subst h
    go_enter Tryz.func187, Tryz.ntmps187
    go_wp2
    go_ret
    exact ⟨rfl, rfl⟩
  · have hne : (c == (57344 : Int)) = false := by simp [h]
    have hw : IntKind.i32.wrap (c - 1) = c - 1 := by simp [IntKind.wrap, IntKind.bits, IntKind.signed]; omega
    rw [if_neg h]
    clear h
    go_enter Tryz.func187, Tryz.ntmps187
    go_wp2
    go_ret
    exact ⟨rfl, rfl⟩
def runesV (zs : List Int) : List Value := zs.map (Value.int .i32)
theorem infoRune : (Tryz.prog.info? 21).map (fun i => (i.zero, i.size, i.bytes)) = some (some (.int .i32 0), 1, 4) := by kernel_rfl
/-- setOf's loop: the limits so far. -/
def EndsRel (w wr : World) (v : Value) (acc : Spans) : Prop := wr.ownsRow w.heap.size 21 1 v (flatE acc).length (runesV (flatE acc)) ∧ Below w.heap.size w wr

theorem EndsRel.drewN {w wr : World} {v : Value} {acc : Spans} (h : EndsRel w wr v acc) (q : Nat) : EndsRel w (wr.drewN q) v acc := ⟨h.1, ⟨h.2.os, h.2.tape, h.2.output, h.2.size, h.2.block⟩⟩
theorem ends_app {w w' : World} {v' : Value} {acc : Spans} {lo hi : Int} (ho : Hid (w'.ownsRow w.heap.size 21 1 v' ((flatE acc).length + 2) (runesV (flatE acc) ++ [.int .i32 lo, .int .i32 hi]))) (hb : Hid (Below w.heap.size w w')) : Hid (EndsRel w w' v' (acc ++ [(lo, hi)])) := by
  refine ⟨?_, hb⟩
  rw [flatE_append, List.length_append]
  have e : runesV (flatE acc ++ flatE [(lo, hi)]) = runesV (flatE acc) ++ [.int .i32 lo, .int .i32 hi] := by simp [runesV, flatE]
  rw [e]
  exact ho
/-- 'ends = append(ends, lo, hi)'. -/
theorem app_ends {ops : Array Oper} {rest : List Oper} {o : Oper} {a : Act} {Q : Exit → Act → World → Prop} (w wr : World) (acc : Spans) (v : Value) (lo hi : Int) (s x : Operand) (hg : o.guard = none)
    (hop : o.op = .call { callee := .builtin .append, args := #[s, x], argTypes := #[114, 114] }) (hs : a.eval s = v) (hx : a.eval x = .slice (some ⟨wr.heap.size, 0, none⟩) 2 2)
    (ho : Hid (EndsRel w wr v acc)) (hl : acc.length ≤ 2000)
    (K : ∀ ae ce w', Hid (EndsRel w w' (.slice ae ((flatE acc).length + 2) ce) (acc ++ [(lo, hi)])) → wpList Tryz.prog ops Q rest (a.put o.dst (.slice ae ((flatE acc).length + 2) ce)) w') :
    wpList Tryz.prog ops Q (o :: rest) a (wr.alloc (.cells #[.int .i32 lo, .int .i32 hi] 21)) := by
  obtain ⟨i0, hi0, hz0, hz1, hz2⟩ := info_parts infoRune
  obtain ⟨hown, hb'⟩ := unhide ho
  have := hb'.size
  have hfl := flatE_length acc
  refine wpList_append_own _ hg s x 114 hop w.heap.size 21 i0 (.int .i32 0) 1 4 Tryz.underlying114 hi0 hz0 hz1 hz2 rfl (by decide) _ _ _ hs (hown.alloc _) ⟨wr.heap.size, 0, none⟩ 2 2 [.int .i32 lo, .int .i32 hi] hx rfl (cells_new wr [.int .i32 lo, .int .i32 hi] _) (by intro u hu; simp at hu; rcases hu with rfl | rfl <;> rfl) (by unfold maxLen; omega) (by omega) (by simp; omega) ?_
  intro v' w' h1 h2 _
  obtain ⟨ae, ce, rfl, -⟩ := own_view h1
  exact K ae ce w' (ends_app h1 (below_append hb' hown h2 hb'.size))

theorem runesV_set : ∀ (L : Spans) (x : Int × Int) (h : Int), (runesV (flatE (L ++ [x]))).set (L.length * 2 + 1) (.int .i32 h) = runesV (flatE (L ++ [(x.1, h)]))
  | [], _, _ => rfl
  | y :: L, x, h => by
    have := runesV_set L x h
    rw [show (y :: L).length * 2 + 1 = (L.length * 2 + 1) + 1 + 1 from by simp; omega]
    simp only [List.cons_append, flatE, runesV, List.map_cons, List.set_cons_succ]
    simp only [runesV] at this
    rw [this]
theorem ends_store {w wq : World} {ge m ce : Nat} {L : Spans} {x : Int × Int} {h : Int} (he : Hid (EndsRel w wq (.slice (some ⟨ge, 0, none⟩) (m + 1) ce) (L ++ [x]))) (hm : Hid (m = L.length * 2 + 1)) :
    Hid (EndsRel w ((wq.setCell ⟨ge, m, none⟩ (.int .i32 h)).drew) (.slice (some ⟨ge, 0, none⟩) (m + 1) ce) (L ++ [(x.1, h)])) := by
  obtain ⟨h1, h2⟩ := unhide he
  have hl : (flatE (L ++ [x])).length = m + 1 := by rw [flatE_length, unhide hm]; simp; omega
  have hl2 : (flatE (L ++ [(x.1, h)])).length = m + 1 := by rw [flatE_length, unhide hm]; simp; omega
  have hge : w.heap.size ≤ ge := by
    rcases h1.2 with ⟨e, _⟩ | ⟨g, cap, cur, e, hb, _⟩
    · cases e
    · have e1 := (Value.slice.inj e).1
      simp at e1
      rw [e1]; exact hb
  have h3 := own_set h1 (g := ge) (j := m) rfl (by omega) (.int .i32 h)
  rw [unhide hm, runesV_set, ← unhide hm, hl] at h3
  have h4 := h2.setCell (p := ⟨ge, m, none⟩) hge (.int .i32 h)
  refine ⟨?_, ⟨h4.os, h4.tape, h4.output, h4.size, h4.block⟩⟩
  rw [hl2]; exact h3
theorem ends_n {ts : Spans} {k m : Nat} {L : Spans} {x p : Int × Int} {h : Int} (hms : Hid (mergeS (ts.take (k + 1)) = stepS (L ++ [x]) p)) (hm : Hid (m = L.length * 2 + 1)) (he : stepS (L ++ [x]) p = L ++ [(x.1, h)]) : Hid (m + 1 = (flatE (mergeS (ts.take (k + 1)))).length) := by
  show m + 1 = _
  rw [unhide hms, he, flatE_length, unhide hm]; simp; omega
theorem ends_heap {w wr W : World} {v : Value} {acc : Spans} (h : EndsRel w wr v acc) (hh : W.heap = wr.heap) : W.ownsRow w.heap.size 21 1 v (flatE acc).length (runesV (flatE acc)) := by
  obtain ⟨hl, hx | ⟨g, cap, cur, hv, hb', hg, rest⟩⟩ := h.1
  · exact ⟨hl, .inl hx⟩
  · exact ⟨hl, .inr ⟨g, cap, cur, hv, hb', by rw [hh]; exact hg, rest⟩⟩
theorem ends_conv {W : World} {base n ce : Nat} {ae : Option Addr} {acc : Spans} (h : W.ownsRow base 21 1 (.slice ae n ce) (flatE acc).length (runesV (flatE acc))) (hn : n = (flatE acc).length) :
    (convert 114 49 (.slice ae n ce)).run Tryz.prog W = .ok (.string (encS acc)) W := by
  have hc := fun g (hg : (Value.slice ae n ce).ownBlock = some g) => h.cells hg
  rcases h.2 with ⟨e, hz⟩ | ⟨g, cap, cur, e, hb, hg, h1, h2, h3, h4⟩
  · cases e
    rw [run_convert_runes_nil W _ _ 21 0 0 Tryz.underlying114 Tryz.underlying21 Tryz.underlying49]
    rw [encS, List.eq_nil_of_length_eq_zero hz]; rfl
  · cases e
    have := run_convert_runes W 114 49 21 ⟨g, 0, none⟩ (flatE acc).length ce (flatE acc) (Nat.le_refl _) Tryz.underlying114 Tryz.underlying21 Tryz.underlying49 (fun j hj => hc g rfl j _ (by simp [runesV, hj]))
    rw [this, List.take_length]; rfl
theorem box_c0 (wr : World) (lo hi : Int) (q : Nat) : ((wr.alloc (.cells #[.int .i32 lo, .int .i32 hi] 199)).drewN q).cell? ⟨wr.heap.size, 0, none⟩ = some (.int .i32 lo) := (Box2.new wr (lo, hi)).c0
theorem box_c1 (wr : World) (lo hi : Int) (q : Nat) : ((wr.alloc (.cells #[.int .i32 lo, .int .i32 hi] 199)).drewN q).cell? ⟨wr.heap.size, 1, none⟩ = some (.int .i32 hi) := (Box2.new wr (lo, hi)).c1
set_option maxRecDepth 100000 in
set_option maxHeartbeats 4000000 in
theorem setOf_any (w : World) (sv : Value) (zs : List (Int × Int)) (hz : zs.length ≤ 1000) (hI : PcsAt w.heap.size w sv zs) (hg : ∀ p ∈ zs, GoodP p) :
    Calls Tryz.prog 148 #[sv] w fun e w' => e = .returned (.string (encS (canonS zs))) ∧ Below w.heap.size w w' := by
  obtain ⟨a, n0, cap, rfl⟩ : ∃ a n0 cap, sv = .slice a n0 cap := by
    rcases hI with ⟨rfl, _⟩ | ⟨b, off, cap, rfl, _⟩
    · exact ⟨_, _, _, rfl⟩
    · exact ⟨_, _, _, rfl⟩
  have hB0 : Below w.heap.size w (w.alloc (.cells #[.slice a n0 cap] 208)) := (Below.refl _ w).alloc (Nat.le_refl _) _
  have hI1 : PcsAt (w.alloc (.cells #[.slice a n0 cap] 208)).heap.size (w.alloc (.cells #[.slice a n0 cap] 208)) (.slice a n0 cap) zs := by
    rcases hI.below hB0 with h | ⟨b, off, cap', e, hb, hc⟩
    · exact .inl h
    · exact .inr ⟨b, off, cap', e, by simp; omega, hc⟩
  have hV := callsIn_wide.1 (vals_in 1 a n0 cap w)
  have hS := sortedFunc #[.pointer (some ⟨w.heap.size, 0, none⟩)] zs (by omega) _ (vals_stops 5 (by omega) w.heap.size _ _ zs (by omega) _ (by simp) (Nat.le_refl _) (Boxed.new w 208 (.slice a n0 cap)).cell hI1)
  generalize hW1 : w.alloc (.cells #[.slice a n0 cap] 208) = w1 at *
  have HV := hide hV
  have HS := hide hS
  have HB0 := hide hB0
  have HG := hide hg
  clear hV hS hB0 hI hI1 hg hW1
  go_enter Tryz.func148, Tryz.ntmps148
  go_wp2_with (first
    | (go_at_call 193; refine (unhide HV).mono ?_; clear HV; rintro e w' ⟨rfl, rfl⟩)
    | (go_at_call 192; refine (unhide HS).mono ?_; clear HS; rintro e w2 ⟨v, ts, rfl, hp, hs, hrow, hb⟩; have HP := hide hp; have HSR := hide hs; have HB := hide hb; obtain ⟨av, cv, rfl, hvw⟩ := own_view hrow; have HVW := hide hvw; clear hp hs hrow hb hvw))
  have hlen : ts.length = zs.length := (unhide HP).length_eq
  have HGT : Hid (∀ p ∈ ts, GoodP p) := fun p h => unhide HG p ((unhide HP).mem_iff.1 h)
  have HBW : Hid (Below w.heap.size w w2) := (unhide HB0).trans ((unhide HB).mono (unhide HB0).size)
  have hR0 : Hid (EndsRel w2 w2 (.slice none 0 0) (mergeS (ts.take 0))) := ⟨World.ownsRow_nil _ _ _ _, Below.refl _ _⟩
  go_loopw [4, 13] (fun v i wr => ∃ (k n : Nat) (ae : Option Addr) (ce : Nat), k ≤ zs.length ∧ i = .int .i64 k ∧ v = .slice ae n ce ∧ Hid (n = (flatE (mergeS (ts.take k))).length) ∧ Hid (EndsRel w2 wr (.slice ae n ce) (mergeS (ts.take k)))) (fun _ i _ => zs.length - (intOf i).toNat)
  case atStart => exact ⟨0, 0, none, 0, Nat.zero_le _, rfl, rfl, rfl, hR0⟩
  case round =>
    obtain ⟨k, n, ae, ce, hk, rfl, rfl, HN, HE⟩ := hrel
    obtain ⟨hown, hbel⟩ := unhide HE
    by_cases hlt : k < zs.length
    · obtain ⟨g, rfl, -, hg, hc, -⟩ := unhide HVW (by omega)
      have hkt : k < ts.length := by omega
      have hget := pcCells_get ts k hkt
      have c1 := hc (k * 2) (by omega)
      have c2 := hc (k * 2 + 1) (by omega)
      rw [hget.1, ← hbel.cell (p := ⟨g, k * 2, none⟩) hg] at c1
      rw [hget.2, ← hbel.cell (p := ⟨g, k * 2 + 1, none⟩) hg] at c2
      have htk : ts.take (k + 1) = ts.take k ++ [ts[k]] := List.take_succ_eq_append_getElem hkt
      have hgp := unhide HGT ts[k] (List.getElem_mem hkt)
      have hms : mergeS (ts.take (k + 1)) = stepS (mergeS (ts.take k)) ts[k] := by rw [htk, merge_snoc]
      have hml : (mergeS (ts.take k)).length ≤ 1000 := by have := merge_len (ts.take k); rw [List.length_take] at this; omega
      have HMS := hide hms
      have HGT2 := HGT
      have HSR2 := HSR
      clear hms htk hget hc HVW HP HSR HG HGT
      generalize hx1 : ts[k].1 = lo at c1
      generalize hx2 : ts[k].2 = hi at c2
      have hpe : ts[k] = (lo, hi) := Prod.ext hx1 hx2
      rw [hpe] at HMS hgp
      clear hx1 hx2 hpe
      obtain ⟨_, _, hvv, hve⟩ := own_view hown
      rw [← unhide HN] at hve
      obtain ⟨rfl, -, rfl⟩ := Value.slice.inj hvv
      clear hvv
      rcases List.eq_nil_or_concat (mergeS (ts.take k)) with hnil | ⟨L, x, hcon⟩
      · have hn0 : n = 0 := by rw [unhide HN, hnil]; rfl
        subst hn0
        rw [hnil] at HE HMS hml
        have HE' : Hid _ := hide (show EndsRel w2 (wr.alloc (.cells #[.int .i32 lo, .int .i32 hi] 199)) (.slice ae 0 ce) [] from ⟨(unhide HE).1.alloc _, (unhide HE).2.alloc (unhide HE).2.size _⟩)
        clear hown hbel hve hnil HE HN
        go_wp2_with fail
        go_quiet (fail)
        have q0 := box_c0 wr lo hi nq
        have q1 := box_c1 wr lo hi nq
        have HEq := hide ((unhide HE').drewN nq)
        clear HE'
        generalize (wr.alloc (.cells #[.int .i32 lo, .int .i32 hi] 199)).drewN nq = wq at *
        go_wp2_with (at_builtin; refine app_ends w2 wq [] _ lo hi (.tmp 42) (.tmp 47) rfl rfl rfl rfl HEq (by simp) ?_; intro ae1 ce1 w1 HE1)
        go_roundw
        case rel => exact ⟨k + 1, _, ae1, ce1, by omega, by go_num, rfl, (by show _ = _; rw [unhide HMS]; rfl), (by rw [unhide HMS, stepS_nil]; exact HE1)⟩
        case measure => simp [intOf]; omega
      · simp only [List.concat_eq_append] at hcon
        obtain ⟨m, hm⟩ : ∃ m, m = L.length * 2 + 1 := ⟨_, rfl⟩
        have hn2 : n = m + 1 := by rw [unhide HN, hcon, flatE_append, List.length_append, flatE_length, hm]; rfl
        subst hn2
        rw [hcon] at HE HMS hml
        have hxg : GoodP x := by
          have := tidy_good (fold_ok (ts.take k) (acc := []) trivial (fun p hp => unhide HGT2 p (List.mem_of_mem_take hp)) ((unhide HSR2).sublist (List.take_sublist _ _)) (by simp)).1 x
          exact this (by show x ∈ mergeS (ts.take k); rw [hcon]; simp)
        have HE' : Hid _ := hide (show EndsRel w2 (wr.alloc (.cells #[.int .i32 lo, .int .i32 hi] 199)) (.slice ae (m + 1) ce) (L ++ [x]) from ⟨(unhide HE).1.alloc _, (unhide HE).2.alloc (unhide HE).2.size _⟩)
        obtain ⟨ge, rfl, hge, hge2, hce, hfe⟩ := hve (by omega)
        have ce1 := hce m (by omega)
        have fe1 := hfe m
        have hml2 : L.length ≤ 1000 := by simp at hml; omega
        have hat : (runesV (flatE (mergeS (ts.take k))))[m]? = some (.int .i32 x.2) := by
          rw [hcon, flatE_append, hm]
          have hl := flatE_length L
          simp [runesV, flatE, hl]
        rw [hat] at ce1
        have hx2 := isSym_iff.1 hxg.2.1
        have HM := hide hm
        have hmb : m ≤ 2001 := by omega
        have hm1 : 1 ≤ m := by omega
        have hd0 : decide (0 < m) = true := by simp; omega
        clear hown hbel hve hcon HE HN hce hfe hat hm HGT2 HSR2
        have hbl := (unhide HE').2
        have cq : ∀ q, ((wr.alloc (.cells #[.int .i32 lo, .int .i32 hi] 199)).drewN q).cell? ⟨ge, m, none⟩ = some (.int .i32 x.2) := fun q => ((Below.refl wr.heap.size wr).alloc (Nat.le_refl _) _).cell (p := ⟨ge, m, none⟩) hge2 |>.trans ce1
        have fq : ∀ q, ((wr.alloc (.cells #[.int .i32 lo, .int .i32 hi] 199)).drewN q).frozen? ⟨ge, m, none⟩ = false := fun q => ((Below.refl wr.heap.size wr).alloc (Nat.le_refl _) _).frozen (p := ⟨ge, m, none⟩) hge2 |>.trans fe1
        have q0 := fun q => box_c0 wr lo hi q
        have q1 := fun q => box_c1 wr lo hi q
        by_cases hle : lo ≤ abv x.2
        · have hA : ∀ W : World, Calls Tryz.prog 196 #[.int .i32 x.2] W fun e w' => e = .returned (.int .i32 (abv x.2)) ∧ w' = W := fun W => (above_any x.2 W (by omega) (by omega)).mono fun e w' hh => ⟨hh.1, hh.2.symm⟩
          obtain ⟨av, hav⟩ : ∃ av, abv x.2 = av := ⟨_, rfl⟩
          rw [hav] at hle hA
          have HA := hide hA
          have HAV := hide hav
          clear hA hav
          go_wp2_with fail
          go_quiet ((go_at_call 196; exact Calls.quiet_of_same (unhide HA _)))
          have q0' := q0 nq
          have q1' := q1 nq
          have cq' := cq nq
          have fq' := fq nq
          have HEq := hide ((unhide HE').drewN nq)
          clear HE' q0 q1 cq fq HA hbl c1 c2 ce1 fe1
          generalize (wr.alloc (.cells #[.int .i32 lo, .int .i32 hi] 199)).drewN nq = wq at *
          go_wp2_with fail
          go_region
          go_wp2_with fail
          go_roundw
          case rel => exact ⟨k + 1, m + 1, _, _, by omega, by go_num, rfl, ends_n HMS HM (by rw [stepS_snoc, if_pos (by rw [unhide HAV]; exact hle)]), (by rw [unhide HMS, stepS_snoc, if_pos (by rw [unhide HAV]; exact hle)]; exact ends_store HEq HM)⟩
          case measure => simp [intOf]; omega
        · have hA : ∀ W : World, Calls Tryz.prog 196 #[.int .i32 x.2] W fun e w' => e = .returned (.int .i32 (abv x.2)) ∧ w' = W := fun W => (above_any x.2 W (by omega) (by omega)).mono fun e w' hh => ⟨hh.1, hh.2.symm⟩
          have hdl : decide (lo ≤ abv x.2) = false := by simpa using hle
          obtain ⟨av, hav⟩ : ∃ av, abv x.2 = av := ⟨_, rfl⟩
          rw [hav] at hle hA hdl
          have HA := hide hA
          have HAV := hide hav
          clear hA hav
          go_wp2_with fail
          go_quiet ((go_at_call 196; exact Calls.quiet_of_same (unhide HA _)))
          have q0' := q0 nq
          have q1' := q1 nq
          have HEq := hide ((unhide HE').drewN nq)
          clear HE' q0 q1 cq fq HA hbl c1 c2 ce1 fe1
          generalize (wr.alloc (.cells #[.int .i32 lo, .int .i32 hi] 199)).drewN nq = wq at *
          go_wp2_with (at_builtin; refine app_ends w2 wq (L ++ [x]) _ lo hi (.tmp 42) (.tmp 47) rfl rfl rfl rfl HEq (by simp; omega) ?_; intro ae1 ce2 w1 HE1)
          go_roundw
          case rel => exact ⟨k + 1, _, ae1, ce2, by omega, by go_num, rfl, (by show _ = _; rw [unhide HMS, stepS_snoc, if_neg (by rw [unhide HAV]; show ¬ lo ≤ av; omega), flatE_append (L ++ [x]), List.length_append]; rfl), (by rw [unhide HMS, stepS_snoc, if_neg (by rw [unhide HAV]; show ¬ lo ≤ av; omega)]; exact HE1)⟩
          case measure => simp [intOf]; omega
    · have hkz : k = ts.length := by omega
      have hcv : ∀ (W : World), W.heap = wr.heap → (convert 114 49 (.slice ae n ce)).run Tryz.prog W = .ok (.string (encS (mergeS ts))) W := by
        intro W hW
        rw [hkz, List.take_length] at HE HN
        exact ends_conv (ends_heap (unhide HE) hW) (unhide HN)
      have hfin : mergeS ts = canonS zs := merge_canon (unhide HG) (unhide HP) (unhide HSR)
      rw [hfin] at hcv
      have hc0 := hcv wr rfl
      have HBF := hide ((unhide HBW).trans (hbel.mono (unhide HBW).size))
      clear hfin hcv HG HP HSR HGT HVW HE HN hown hbel
      go_wp2_with fail
      go_ret
      exact ⟨rfl, unhide HBF⟩
end Go.Proofs.YtfolanohokflkabGreatDoor

/-
  The pieces of a set.
-/
namespace Go.Proofs.YtfolanohokflkabGreatDoor
open Go.RowKit

theorem conv_runes (w : World) (l : Spans) (hl : l.length ≤ 1000) (hg : ∀ p ∈ l, GoodP p) : ∃ cap w1, (convert 49 114 (.string (encS l))).run Tryz.prog w = .ok (.slice (some ⟨w.heap.size, 0, none⟩) (l.length * 2) cap) w1 ∧ Below w.heap.size w w1 ∧ w.heap.size < w1.heap.size ∧ ∀ (j : Nat) (u : Value), (runesV (flatE l))[j]? = some u → w1.cell? ⟨w.heap.size, j, none⟩ = some u := by
  have hr := runes_encS hg
  have hfl := flatE_length l
  have hsz : (Conv.runesFrom (encS l) (encS l).size 0 #[]).size = l.length * 2 := by rw [hr, List.size_toArray, List.length_map, hfl]
  have h := run_runes_of_string (P := Tryz.prog) w 49 114 21 (encS l) Tryz.underlying49 Tryz.underlying114 Tryz.underlying21 (by rw [hsz]; omega)
  rw [hsz, hr] at h
  refine ⟨_, _, h, ?_, by rw [World.size_alloc]; exact Nat.lt_succ_self _, fun j u hu => ?_⟩
  · have hb := (Below.refl w.heap.size w).alloc (Nat.le_refl _) (.cells (((flatE l).map (Value.int .i32)).toArray ++ Array.replicate (grownCap w (l.length * 2) 0 21 - l.length * 2) (.int .i32 0)) 21)
    exact ⟨hb.os, hb.tape, hb.output, hb.size, hb.block⟩
  · have hn := heap_alloc_new w.drew (.cells (((flatE l).map (Value.int .i32)).toArray ++ Array.replicate (grownCap w (l.length * 2) 0 21 - l.length * 2) (.int .i32 0)) 21)
    have hn' : (w.drew.alloc (.cells (((flatE l).map (Value.int .i32)).toArray ++ Array.replicate (grownCap w (l.length * 2) 0 21 - l.length * 2) (.int .i32 0)) 21)).heap[w.heap.size]? = _ := hn
    have hj : j < (runesV (flatE l)).length := by
      rcases Nat.lt_or_ge j (runesV (flatE l)).length with h | h
      · exact h
      · rw [List.getElem?_eq_none h] at hu; cases hu
    simp only [World.cell?, hn']
    simp only [Option.isSome_none, Bool.false_eq_true, if_false]
    rw [Array.getElem?_append_left (by simpa [runesV] using hj)]
    simpa [runesV] using hu

theorem heap_one (w : World) (o : Obj) : (w.alloc o).drew.heap[w.heap.size]? = some o := heap_alloc_new w o
theorem size_one (w : World) (o : Obj) : (w.alloc o).drew.heap.size = w.heap.size + 1 := by
  show (w.alloc o).heap.size = _
  simp
theorem pcs_next {w1 w' : World} {g cap k : Nat} {l : Spans} (hk : k < l.length) (ho : Hid (w'.ownsRow w1.heap.size 199 2 (.slice (some ⟨g, 0, none⟩) (k + 1) cap) (k + 1) (pcCells (l.take k) ++ [.int .i32 l[k].1, .int .i32 l[k].2]))) :
    w'.ownsRow w1.heap.size 199 2 (.slice (some ⟨g, 0, none⟩) (k + 1) cap) (k + 1) (pcCells (l.take (k + 1))) := by
  rw [List.take_succ_eq_append_getElem hk, pcCells_append]; exact ho
theorem pcs_below {w1 wr w3 : World} {o : Obj} {v : Value} {n : Nat} {xs : List Value} (hb : Hid (Below w1.heap.size w1 wr)) (ho : Hid (wr.ownsRow w1.heap.size 199 2 v n xs)) (hg : Hid ((wr.alloc o).drew.grownBy w3 v.ownBlock)) : Hid (Below w1.heap.size w1 w3) := by
  have h := unhide hg
  exact below_append (unhide hb) (unhide ho) (show (wr.alloc o).grownBy w3 v.ownBlock from ⟨h.os, h.tape, h.output, h.size, h.block⟩) (unhide hb).size
theorem flat_get : ∀ (l : Spans) (k : Nat) (h : k < l.length), (runesV (flatE l))[k * 2]? = some (.int .i32 l[k].1) ∧ (runesV (flatE l))[k * 2 + 1]? = some (.int .i32 l[k].2)
  | [], _, h => by simp at h
  | x :: l, 0, _ => ⟨rfl, rfl⟩
  | x :: l, i + 1, h => by
    have ih := flat_get l i (by simpa using h)
    rw [show (i + 1) * 2 = i * 2 + 1 + 1 from by omega]
    simpa [flatE, runesV] using ih
set_option maxRecDepth 100000 in
set_option maxHeartbeats 4000000 in
theorem pieces_any (w : World) (l : Spans) (hl : l.length ≤ 1000) (hg : ∀ p ∈ l, GoodP p) :
    Calls Tryz.prog 149 #[.string (encS l)] w fun e w' => ∃ v, e = .returned v ∧ w'.ownsRow w.heap.size 199 2 v l.length (pcCells l) ∧ Below w.heap.size w w' := by
  obtain ⟨i0, hi0, hz0, hz1, hz2⟩ := info_parts infoPiece
  obtain ⟨cap, w1, hconv, hb1, hlt1, hc1⟩ := conv_runes w l hl hg
  have HB1 := hide hb1
  have HC1 := hide hc1
  clear hb1 hc1
  generalize encS l = s at hconv
  obtain ⟨N, hN⟩ : ∃ N, l.length * 2 = N := ⟨_, rfl⟩
  rw [hN] at hconv
  have hN2 : N ≤ 2000 := by omega
  have HNN := hide hN
  clear hN
  go_enter Tryz.func149, Tryz.ntmps149
  go_wp2_with fail
  go_loopw [4, 5] (fun v i wr => ∃ (k m : Nat) (av : Option Addr) (cv : Nat), k ≤ l.length ∧ i = .int .i64 m ∧ v = .slice av k cv ∧ Hid (k * 2 = m) ∧ Hid (wr.ownsRow w1.heap.size 199 2 (.slice av k cv) k (pcCells (l.take k))) ∧ Hid (Below w1.heap.size w1 wr)) (fun _ i _ => N - (intOf i).toNat)
  case atStart => exact ⟨0, 0, none, 0, Nat.zero_le _, rfl, rfl, rfl, World.ownsRow_nil _ _ _ _, Below.refl _ _⟩
  case round =>
    obtain ⟨k, m, av, cv, hk, rfl, rfl, HM, HO, HB⟩ := hrel
    have hmm := unhide HM
    have hnn := unhide HNN
    by_cases hlt : k < l.length
    · have hf := flat_get l k hlt
      have c1 := ((unhide HB).cell (p := ⟨w.heap.size, k * 2, none⟩) hlt1).trans (unhide HC1 _ _ hf.1)
      have c2 := ((unhide HB).cell (p := ⟨w.heap.size, k * 2 + 1, none⟩) hlt1).trans (unhide HC1 _ _ hf.2)
      clear hf HC1
      have HX := HO
      have hown := unhide HO
      have hsz := (unhide HB).size
      clear HO
      generalize hlo : l[k].1 = lo at c1
      generalize hhi : l[k].2 = hi at c2
      rw [hmm] at c1 c2
      have hmN : m + 1 < N := by omega
      have hmI : (m : Int) + 1 < (N : Int) := by omega
      have hmJ : (m : Int) < (N : Int) := by omega
      have hm0 : (0 : Int) ≤ (m : Int) + 1 := by omega
      have hwr : IntKind.i64.wrap ((m : Int) + 1) = ((m + 1 : Nat) : Int) := by simp [IntKind.wrap, IntKind.bits, IntKind.signed]; omega
      clear hmm hnn
      go_wp2_with fail
      go_region_law
        ((refine step_append_lies _ (by rfl) _ _ _ (by rfl) w1.heap.size 199 i0 _ 2 8 Tryz.underlying208 hi0 hz0 hz1 hz2 rfl (by omega) (.slice av k cv) k (pcCells (l.take k)) (by rfl) ((hown.alloc _).drew)
              ⟨wr.heap.size, 0, none⟩ 1 1 [.int .i32 lo, .int .i32 hi] (by rfl) (by rfl) (World.news_of_block (cs := #[.int .i32 lo, .int .i32 hi]) (t := 199) (fr := (0, 0)) (heap_one wr _)) (by intro u hu; simp at hu; rcases hu with rfl | rfl <;> rfl)
              (by omega) (by unfold maxLen; omega) (by omega) (by show w1.heap.size ≤ (wr.alloc _).heap.size; simp; omega) (wr.heap.size + 1) (size_one wr _) ?_; intro gg cap2 w3 hown1 hgrow hat hlt3))
      all_goals have HG := hide hgrow
      all_goals have HO1 := hide hown1
      all_goals clear hgrow hown1 hown
      all_goals go_wp2_with fail
      all_goals go_roundw
      case rel => exact ⟨k + 1, m + 2, some ⟨gg, 0, none⟩, cap2, by omega, by go_num, rfl, (by show (k + 1) * 2 = m + 2; have := unhide HM; omega), pcs_next hlt (by rw [hlo, hhi]; exact HO1), pcs_below HB HX HG⟩
      case measure => simp [intOf]; omega
      case rel => exact ⟨k + 1, m + 2, some ⟨gg, 0, none⟩, cap2, by omega, by go_num, rfl, (by show (k + 1) * 2 = m + 2; have := unhide HM; omega), pcs_next hlt (by rw [hlo, hhi]; exact HO1), pcs_below HB HX HG⟩
      case measure => simp [intOf]; omega
    · have hkl : k = l.length := by omega
      have hmN : m = N := by omega
      subst hmN
      subst hkl
      rw [List.take_length] at HO
      clear HC1 hmm hnn
      go_wp2_with fail
      go_ret
      exact ⟨_, rfl, own_base (unhide HO) (unhide HB1).size, (unhide HB1).trans ((unhide HB).mono (unhide HB1).size)⟩
end Go.Proofs.YtfolanohokflkabGreatDoor

/-
  The other symbols of a set.
-/
namespace Go.Proofs.YtfolanohokflkabGreatDoor
open Go.RowKit

/-- 'm = append(m, piece{lo, hi})', m a slice of pieces of the call's own. -/
theorem app_pc {ops : Array Oper} {rest : List Oper} {o : Oper} {a : Act} {Q : Exit → Act → World → Prop} (w wr : World) (zs : List (Int × Int)) (v : Value) (lo hi : Int) (s x : Operand) (hg : o.guard = none)
    (hop : o.op = .call { callee := .builtin .append, args := #[s, x], argTypes := #[208, 208] }) (hs : a.eval s = v) (hx : a.eval x = .slice (some ⟨wr.heap.size, 0, none⟩) 1 1)
    (ho : Hid (wr.ownsRow w.heap.size 199 2 v zs.length (pcCells zs))) (hb : Hid (Below w.heap.size w wr)) (hl : zs.length ≤ 2000000)
    (K : ∀ ao cap w', Hid (w'.ownsRow w.heap.size 199 2 (.slice ao (zs.length + 1) cap) (zs ++ [(lo, hi)]).length (pcCells (zs ++ [(lo, hi)]))) → Hid (Below w.heap.size w w') → Hid ((wr.alloc (.cells #[.int .i32 lo, .int .i32 hi] 199)).grownBy w' v.ownBlock) → wpList Tryz.prog ops Q rest (a.put o.dst (.slice ao (zs.length + 1) cap)) w') :
    wpList Tryz.prog ops Q (o :: rest) a (wr.alloc (.cells #[.int .i32 lo, .int .i32 hi] 199)) := by
  obtain ⟨i0, hi0, hz0, hz1, hz2⟩ := info_parts infoPiece
  have hb' : Below w.heap.size w wr := hb
  have := hb'.size
  refine wpList_append_own _ hg s x 208 hop w.heap.size 199 i0 (.agg #[.int .i32 0, .int .i32 0]) 2 8 Tryz.underlying208 hi0 hz0 hz1 hz2 rfl (by decide) _ _ _ hs ((unhide ho).alloc _) ⟨wr.heap.size, 0, none⟩ 1 1 [.int .i32 lo, .int .i32 hi] hx rfl (cells_new wr [.int .i32 lo, .int .i32 hi] _) (by intro u hu; simp at hu; rcases hu with rfl | rfl <;> rfl) (by unfold maxLen; omega) (by omega) (by simp; omega) ?_
  intro v' w' h1 h2 _
  have h3 : w'.ownsRow w.heap.size 199 2 v' (zs ++ [(lo, hi)]).length (pcCells (zs ++ [(lo, hi)])) := by
    rw [pcCells_append, List.length_append]; exact h1
  obtain ⟨ao, cap, rfl, -⟩ := own_view h3
  have e : (zs ++ [(lo, hi)]).length = zs.length + 1 := by simp
  rw [e] at h3 ⊢
  exact K ao cap w' (by rw [e]; exact h3) (below_append hb ho h2 hb'.size) h2
theorem pcs_of_own {w' : World} {v : Value} {zs : List (Int × Int)} {base : Nat} (ho : w'.ownsRow base 199 2 v zs.length (pcCells zs)) : PcsAt w'.heap.size w' v zs := by
  rcases ho.2 with ⟨rfl, hz⟩ | ⟨g, cap, cur, rfl, hb, hg, h1, h2, h3, h4⟩
  · exact .inl ⟨rfl, List.eq_nil_of_length_eq_zero hz⟩
  · refine .inr ⟨g, 0, cap, rfl, (Array.getElem?_eq_some_iff.1 hg).1, fun j hj => ?_⟩
    have hc := ho.cells (g := g) rfl
    have hgt := pcCells_get zs j hj
    have e0 : (⟨g, 0, none⟩ : Addr).add (j * 2) = ⟨g, 0 + j * 2, none⟩ := by unfold Addr.add; split <;> simp_all
    have e1 : (⟨g, 0, none⟩ : Addr).add (j * 2 + 1) = ⟨g, 0 + j * 2 + 1, none⟩ := by unfold Addr.add; split <;> simp_all
    have c0 := hc _ _ hgt.1
    have c1 := hc _ _ hgt.2
    rw [e0] at c0
    rw [e1] at c1
    exact ⟨c0, c1⟩
def GapRel (w1 wr : World) (v : Value) (zs : Spans) : Prop := wr.ownsRow w1.heap.size 199 2 v zs.length (pcCells zs) ∧ Below w1.heap.size w1 wr
theorem GapRel.alloc {w1 wr : World} {v : Value} {zs : Spans} (h : GapRel w1 wr v zs) (o : Obj) : GapRel w1 (wr.alloc o) v zs := ⟨h.1.alloc o, h.2.alloc h.2.size o⟩
theorem run_b {l : Spans} (h : Tidy l) : ∀ k, k ≤ l.length → 0 ≤ (gapsRun (l.take k)).2 ∧ (gapsRun (l.take k)).2 ≤ 1114112 ∧ (gapsRun (l.take k)).1.length ≤ k
  | 0, _ => by simp [gapsRun]
  | k + 1, hk => by
    have ih := run_b h k (by omega)
    have hg := tidy_good h l[k] (List.getElem_mem (by omega))
    have s2 := isSym_iff.1 hg.2.1
    rw [List.take_succ_eq_append_getElem (by omega), gapsRun_snoc]
    simp only [gapStep]
    refine ⟨by unfold abv; split <;> omega, by unfold abv; split <;> omega, ?_⟩
    rw [List.length_append]
    split <;> simp <;> omega

theorem cell_grown1 {wq w3 : World} {o : Obj} {row : Option Nat} {b j : Nat} {u : Value} (hg : Hid ((wq.alloc o).grownBy w3 row)) (hlt : b < wq.heap.size) (hne : some b ≠ row) (hc : wq.cell? ⟨b, j, none⟩ = some u) : w3.cell? ⟨b, j, none⟩ = some u := by
  have h1 : w3.heap[b]? = wq.heap[b]? := ((unhide hg).block b (by simp; omega) hne).trans (Below.heap_alloc wq o b hlt)
  rw [World.cell?_of_block h1]; exact hc
theorem gap_n0 {l : Spans} {k n : Nat} {low lo hi : Int} (hr : Hid (gapsRun (l.take (k + 1)) = gapStep (gapsRun (l.take k)) (lo, hi))) (hl : Hid (low = (gapsRun (l.take k)).2)) (hn : Hid (n = (gapsRun (l.take k)).1.length)) (h : ¬ low < lo) : Hid (n = (gapsRun (l.take (k + 1))).1.length) := by
  show n = _
  rw [unhide hr, gapStep, ← unhide hl, if_neg h, List.append_nil]; exact unhide hn
theorem gap_0 {w1 wr : World} {v : Value} {l : Spans} {k : Nat} {low lo hi : Int} (hr : Hid (gapsRun (l.take (k + 1)) = gapStep (gapsRun (l.take k)) (lo, hi))) (hl : Hid (low = (gapsRun (l.take k)).2)) (h : ¬ low < lo) (hg : Hid (GapRel w1 wr v (gapsRun (l.take k)).1)) : Hid (GapRel w1 wr v (gapsRun (l.take (k + 1))).1) := by
  rw [unhide hr, gapStep, ← unhide hl, if_neg h, List.append_nil]; exact hg
theorem gap_n1 {l : Spans} {k : Nat} {low lo hi : Int} (hr : Hid (gapsRun (l.take (k + 1)) = gapStep (gapsRun (l.take k)) (lo, hi))) (hl : Hid (low = (gapsRun (l.take k)).2)) (h : low < lo) : Hid ((gapsRun (l.take k)).1.length + 1 = (gapsRun (l.take (k + 1))).1.length) := by
  show _ = _
  rw [unhide hr, gapStep, ← unhide hl, if_pos h, List.length_append]; rfl
theorem gap_1 {w1 w3 : World} {ao : Option Addr} {cap : Nat} {l : Spans} {k : Nat} {low lo hi : Int} (hr : Hid (gapsRun (l.take (k + 1)) = gapStep (gapsRun (l.take k)) (lo, hi))) (hl : Hid (low = (gapsRun (l.take k)).2)) (h : low < lo)
    (ho : Hid (w3.ownsRow w1.heap.size 199 2 (.slice ao ((gapsRun (l.take k)).1.length + 1) cap) ((gapsRun (l.take k)).1 ++ [(low, belo lo)]).length (pcCells ((gapsRun (l.take k)).1 ++ [(low, belo lo)])))) (hb : Hid (Below w1.heap.size w1 w3)) :
    Hid (GapRel w1 w3 (.slice ao ((gapsRun (l.take k)).1.length + 1) cap) (gapsRun (l.take (k + 1))).1) := by
  rw [unhide hr, gapStep, ← unhide hl, if_pos h]; exact ⟨ho, hb⟩
theorem slice_len {w3 w1 : World} {ao : Option Addr} {cap : Nat} {zs : Spans} {p : Int × Int} (h : Hid (w3.ownsRow w1.heap.size 199 2 (.slice ao (zs.length + 1) cap) (zs ++ [p]).length (pcCells (zs ++ [p])))) : w3.ownsRow w1.heap.size 199 2 (.slice ao (zs.length + 1) cap) (zs ++ [p]).length (pcCells (zs ++ [p])) := h
set_option maxRecDepth 100000 in
set_option maxHeartbeats 4000000 in
theorem others_any (w : World) (l : Spans) (hl : l.length ≤ 900) (ht : Tidy l) :
    Calls Tryz.prog 153 #[.string (encS l)] w fun e w' => e = .returned (.string (encS (othS l))) ∧ Below w.heap.size w w' := by
  have hP := pieces_any w l (by omega) (tidy_good ht)
  have HP := hide hP
  have HT := hide ht
  clear hP ht
  generalize encS l = s at HP
  go_enter Tryz.func153, Tryz.ntmps153
  go_wp2_with (go_at_call 149; refine (unhide HP).mono ?_; clear HP; rintro e w1 ⟨v, rfl, hrow, hb⟩; have HB1 := hide hb; obtain ⟨av, cv, rfl, hvw⟩ := own_view hrow; have HVW := hide hvw; clear hrow hb hvw)
  go_loopw [3, 4, 10] (fun v lw i wr => ∃ (k : Nat) (ag : Option Addr) (n cg : Nat) (low : Int), k ≤ l.length ∧ i = .int .i64 k ∧ lw = .int .i32 low ∧ v = .slice ag n cg ∧ Hid (low = (gapsRun (l.take k)).2) ∧ Hid (n = (gapsRun (l.take k)).1.length) ∧ Hid (GapRel w1 wr (.slice ag n cg) (gapsRun (l.take k)).1)) (fun _ _ i _ => l.length - (intOf i).toNat)
  case atStart => exact ⟨0, none, 0, 0, 0, Nat.zero_le _, rfl, rfl, rfl, rfl, rfl, ⟨World.ownsRow_nil _ _ _ _, Below.refl _ _⟩⟩
  case round =>
    obtain ⟨k, ag, n, cg, low, hk, rfl, rfl, rfl, HL, HN, HG⟩ := hrel
    have hrb := run_b (unhide HT) k hk
    rw [← unhide HL] at hrb
    have hgl2 : (gapsRun (l.take k)).1.length ≤ 2000 := by omega
    by_cases hlt : k < l.length
    · obtain ⟨g, rfl, -, hg, hc, -⟩ := unhide HVW (by omega)
      have hget := pcCells_get l k hlt
      have c1 := hc (k * 2) (by omega)
      have c2 := hc (k * 2 + 1) (by omega)
      rw [hget.1, ← (unhide HG).2.cell (p := ⟨g, k * 2, none⟩) hg] at c1
      rw [hget.2, ← (unhide HG).2.cell (p := ⟨g, k * 2 + 1, none⟩) hg] at c2
      have hgp := tidy_good (unhide HT) l[k] (List.getElem_mem hlt)
      have hrun : gapsRun (l.take (k + 1)) = gapStep (gapsRun (l.take k)) l[k] := by rw [List.take_succ_eq_append_getElem hlt, gapsRun_snoc]
      have HRUN := hide hrun
      clear hget hc hrun HVW
      generalize hx1 : l[k].1 = lo at c1
      generalize hx2 : l[k].2 = hi at c2
      have hpe : l[k] = (lo, hi) := Prod.ext hx1 hx2
      rw [hpe] at HRUN hgp
      have s1 := isSym_iff.1 hgp.1
      have s2 := isSym_iff.1 hgp.2.1
      simp only [] at s1 s2
      clear hx1 hx2 hpe hgp
      have HG' := hide ((unhide HG).alloc (.cells #[.int .i32 lo, .int .i32 hi] 199))
      have q0 := box_c0 wr lo hi 0
      have q1 := box_c1 wr lo hi 0
      have hA : ∀ W : World, Calls Tryz.prog 196 #[.int .i32 hi] W fun e w' => e = .returned (.int .i32 (abv hi)) ∧ w' = W := fun W => (above_any hi W (by omega) (by omega)).mono fun e w' hh => ⟨hh.1, hh.2.symm⟩
      have HA := hide hA
      have HGo := HG
      clear hA HG
      by_cases hlow : low < lo
      · have hBl : ∀ W : World, Calls Tryz.prog 187 #[.int .i32 lo] W fun e w' => e = .returned (.int .i32 (belo lo)) ∧ w' = W := fun W => (below_any lo W (by omega) (by omega)).mono fun e w' hh => ⟨hh.1, hh.2.symm⟩
        have HBl := hide hBl
        clear hBl
        have hne : some wr.heap.size ≠ (Value.slice ag n cg).ownBlock := fun e => by have := ((unhide HGo).1.lt _ e.symm).2; omega
        have hlt2 : wr.heap.size < (wr.alloc (.cells #[.int .i32 lo, .int .i32 hi] 199)).heap.size := by simp
        have q1' : (wr.alloc (.cells #[.int .i32 lo, .int .i32 hi] 199)).cell? ⟨wr.heap.size, 1, none⟩ = some (.int .i32 hi) := q1
        have HG2 : Hid (GapRel w1 (wr.alloc (.cells #[.int .i32 lo, .int .i32 hi] 199)) (.slice ag n cg) (gapsRun (l.take k)).1) := HG'
        clear HG' q1 q0 HGo
        go_wp2_with (first
          | (go_at_call 187; refine (unhide HBl _).mono ?_; clear HBl; rintro e w' ⟨rfl, rfl⟩; generalize wr.alloc (.cells #[.int .i32 lo, .int .i32 hi] 199) = wq at *)
          | (at_builtin; refine app_pc w1 wq (gapsRun (l.take k)).1 _ low (belo lo) (.tmp 18) (.tmp 24) rfl rfl rfl rfl (unhide HG2).1 (unhide HG2).2 (by omega) ?_; intro ao1 cap1 w3 HO3 HB3 HGR; have q3 : w3.cell? ⟨wr.heap.size, 1, none⟩ = some (.int .i32 hi) := cell_grown1 HGR hlt2 hne q1'; clear q1' HG2 HGR)
          | (go_at_call 196; refine (unhide HA _).mono ?_; rintro e w' ⟨rfl, rfl⟩))
        go_roundw
        case rel => exact ⟨k + 1, ao1, _, cap1, _, by omega, by go_num, rfl, rfl, (by show _ = _; rw [unhide HRUN]; rfl), gap_n1 HRUN HL hlow, gap_1 HRUN HL hlow HO3 HB3⟩
        case measure => simp [intOf]; omega
      · go_wp2_with (go_at_call 196; refine (unhide HA _).mono ?_; rintro e w' ⟨rfl, rfl⟩)
        go_roundw
        case rel => exact ⟨k + 1, ag, n, cg, _, by omega, by go_num, rfl, rfl, (by show _ = _; rw [unhide HRUN]; rfl), gap_n0 HRUN HL HN (by omega), gap_0 HRUN HL (by omega) HG'⟩
        case measure => simp [intOf]; omega
    · have hkl : k = l.length := by omega
      subst hkl
      rw [List.take_length] at HL HN HG hgl2
      have hall := gapsRun_all l
      have hgd := gaps_good (unhide HT)
      have hgl := gaps_len l 0
      have hcan := gaps_canon (unhide HT)
      have hb1 := (unhide HB1)
      by_cases hlow : low ≤ 1114111
      · rw [if_pos (by rw [← unhide HL]; exact hlow), ← unhide HL] at hall
        rw [hall] at hgd hgl hcan
        have HGD := hide hgd
        have HCAN := hide hcan
        have HGL := hide hgl
        clear hgd hcan hall hb1 hgl HVW HT
        go_wp2_with (first
          | (at_builtin; refine app_pc w1 wr (gapsRun l).1 _ low 1114111 (.tmp 32) (.tmp 35) rfl rfl rfl rfl (unhide HG).1 (unhide HG).2 (by omega) ?_; intro ao1 cap1 w3 HO3 HB3 _)
          | (go_at_call 148; refine (setOf_any w3 _ ((gapsRun l).1 ++ [(low, 1114111)]) (by have := unhide HGL; omega) (pcs_of_own (slice_len HO3)) (unhide HGD)).mono ?_; rintro e w4 ⟨rfl, hb4⟩; have HB4 := hide hb4; clear hb4))
        go_ret
        exact ⟨by rw [← unhide HCAN]; rfl, ((unhide HB1).trans ((unhide HB3).mono (unhide HB1).size)).trans ((unhide HB4).mono (Nat.le_trans (unhide HB1).size (unhide HB3).size))⟩
      · rw [if_neg (by rw [← unhide HL]; exact hlow), List.append_nil] at hall
        rw [hall] at hgd hgl hcan
        have HGD := hide hgd
        have HCAN := hide hcan
        have HGL := hide hgl
        have hpcs := pcs_of_own (unhide HG).1
        have HPC := hide hpcs
        clear hgd hcan hall hb1 hgl HVW HT hpcs
        go_wp2_with (go_at_call 148; refine (setOf_any wr _ (gapsRun l).1 (by have := unhide HGL; omega) (unhide HPC) (unhide HGD)).mono ?_; rintro e w4 ⟨rfl, hb4⟩; have HB4 := hide hb4; clear hb4)
        go_ret
        exact ⟨by rw [← unhide HCAN]; rfl, ((unhide HB1).trans ((unhide HG).2.mono (unhide HB1).size)).trans ((unhide HB4).mono (Nat.le_trans (unhide HB1).size (unhide HG).2.size))⟩
end Go.Proofs.YtfolanohokflkabGreatDoor
