import Derived.Test.YtfolanohokflkaaGreatDoorSvB
import Derived.Test.YtfolanohokflkaaGreatDoorMrgA
import Derived.Test.YtfolanohokflkaaGreatDoorShelfG
import Derived.Shelf.SlSortCmp.WholeK
import Derived.Shelf.SlSortCmp.NoneTotal
import Derived.Sort.OwnSorted
/-
  slices.SortedFunc at pieces, by their first symbols.
-/
namespace Go.Proofs.YtfolanohokflkaaGreatDoor
open Go.RowKit Go.Shelf Go.Sort Go.Lib

def encPc (x : Int × Int) : List Value := [.int .i32 x.1, .int .i32 x.2]
def cmpI (a b : Int) : Int := if a < b then -1 else if b < a then 1 else 0

set_option maxHeartbeats 1000000 in
theorem isNaN_rune (x : Int) (w : World) : Calls Tryz.prog 253 #[.int .i32 x] w fun e w' => e = .returned (.bool false) ∧ w = w' := by
  go_enter Tryz.func253, Tryz.ntmps253
  go_wp2
  go_ret
  exact ⟨rfl, rfl⟩
set_option maxHeartbeats 1000000 in
theorem compare_rune (x y : Int) (w : World) : Calls Tryz.prog 238 #[.int .i32 x, .int .i32 y] w fun e w' => e = .returned (.int .i64 (cmpI x y)) ∧ w = w' := by
  by_cases h1 : x < y
  · go_enter Tryz.func238, Tryz.ntmps238
    go_wp2_with (go_at_call 253; refine (isNaN_rune _ _).mono ?_; rintro e w' ⟨rfl, rfl⟩)
    go_ret
    exact ⟨by simp [cmpI, h1], rfl⟩
  · by_cases h2 : y < x
    · go_enter Tryz.func238, Tryz.ntmps238
      go_wp2_with (go_at_call 253; refine (isNaN_rune _ _).mono ?_; rintro e w' ⟨rfl, rfl⟩)
      go_ret
      exact ⟨by simp [cmpI, h1, h2], rfl⟩
    · go_enter Tryz.func238, Tryz.ntmps238
      go_wp2_with (go_at_call 253; refine (isNaN_rune _ _).mono ?_; rintro e w' ⟨rfl, rfl⟩)
      go_ret
      exact ⟨by rw [cmpI, if_neg (by omega), if_neg (by omega)]; rfl, rfl⟩
set_option maxHeartbeats 1000000 in
theorem setOf_less (x y : Int × Int) (W : World) : Calls Tryz.prog 237 #[.agg #[.int .i32 x.1, .int .i32 x.2], .agg #[.int .i32 y.1, .int .i32 y.2]] W fun e w' => e = .returned (.int .i64 (cmpI x.1 y.1)) ∧ ∃ q os', w' = grow (W.drewN q) os' := by
  have hcon := fun W' => compare_rune x.1 y.1 W'
  generalize cmpI x.1 y.1 = r at hcon ⊢
  go_enter Tryz.func237, Tryz.ntmps237
  go_wp2_with (go_at_call 238; refine (hcon _).mono ?_; rintro e w' ⟨rfl, rfl⟩)
  go_ret
  exact ⟨rfl, 0, _, by rw [alloc_eq_grow, alloc_eq_grow, grow_grow]; rfl⟩
theorem cmpLays_pc (blk off size : Nat) (w : World) : CmpLays Tryz.prog 237 #[] encPc 2 (fun x y => cmpI x.1 y.1) blk off size w :=
  fun _ _ _ _ x y => setOf_less x y _
theorem ltPc (x y : Int × Int) : ltOf (fun x y : Int × Int => cmpI x.1 y.1) x y = decide (x.1 < y.1) := by
  unfold ltOf cmpI
  by_cases h1 : x.1 < y.1
  · simp [h1]
  · by_cases h2 : y.1 < x.1 <;> simp [h1, h2]
theorem swoPc : SWO (ltOf fun x y : Int × Int => cmpI x.1 y.1) where
  irrefl x := by rw [ltPc]; simp
  trans x y z h1 h2 := by rw [ltPc] at *; simp at *; omega
  ntrans x y z h1 h2 := by rw [ltPc] at *; simp at *; omega

theorem pcCells_get : ∀ (l : List (Int × Int)) (i : Nat) (h : i < l.length), (pcCells l)[i * 2]? = some (.int .i32 l[i].1) ∧ (pcCells l)[i * 2 + 1]? = some (.int .i32 l[i].2)
  | [], _, h => by simp at h
  | x :: l, 0, _ => ⟨rfl, rfl⟩
  | x :: l, i + 1, h => by
    have ih := pcCells_get l i (by simpa using h)
    rw [show (i + 1) * 2 = i * 2 + 1 + 1 from by omega]
    simpa [pcCells] using ih
theorem flat_pc (d : Array (Int × Int)) : flatK encPc 2 d = (pcCells d.toList).toArray := by
  apply Array.ext
  · simp [pcCells_length]
  · intro t h1 h2
    rw [size_flatK] at h1
    have hlt : t / 2 < d.toList.length := by simp; omega
    have hd : d[t / 2]! = d.toList[t / 2] := by
      rw [getElem!_pos d (t / 2) (by simpa using hlt)]; simp
    have hg := pcCells_get d.toList (t / 2) hlt
    have e1 : (flatK encPc 2 d)[t] = (encPc d[t / 2]!)[t % 2]! := by rw [← get_flatK encPc 2 d t h1, getElem!_pos _ t (by simpa using h1)]
    rw [e1, hd]
    have e2 : (pcCells d.toList).toArray[t] = ((pcCells d.toList)[t]?).getD default := by
      rw [List.getElem?_eq_getElem (by simpa using h2)]; simp
    rw [e2]
    rcases Nat.mod_two_eq_zero_or_one t with h | h
    · have e3 : (pcCells d.toList)[t]? = some (.int .i32 d.toList[t / 2].1) := by
        have := hg.1
        rwa [show t / 2 * 2 = t from by omega] at this
      rw [h, e3]; rfl
    · have e3 : (pcCells d.toList)[t]? = some (.int .i32 d.toList[t / 2].2) := by
        have := hg.2
        rwa [show t / 2 * 2 + 1 = t from by omega] at this
      rw [h, e3]; rfl
theorem holds_pc {w : World} {g : Nat} {cur : Array Value} {e : TypeId} {zs : List (Int × Int)} (hb : w.heap[g]? = some (.cells cur e (0, 0))) (ht : cur.toList.take (zs.length * 2) = pcCells zs) : HoldsK encPc 2 w g 0 zs.toArray := by
  unfold HoldsK
  rw [flat_pc]
  intro j hj
  have hj' : j < (pcCells zs).length := by simpa using hj
  have hj2 : j < zs.length * 2 := by rw [← pcCells_length]; exact hj'
  refine ⟨?_, by simp [World.frozen?, hb]⟩
  have h1 : (cur.toList.take (zs.length * 2))[j]? = (pcCells zs)[j]? := by rw [ht]
  rw [List.getElem?_take_of_lt hj2] at h1
  simp only [World.cell?, hb, Nat.zero_add]
  simp only [Option.isSome_none, Bool.false_eq_true, if_false]
  rw [← Array.getElem?_toList, h1]
  simp [hj']
theorem heap_sortedK {w : World} {g n : Nat} {os : Array Obj} {cur : Array Value} {e : TypeId} {fr : Nat × Nat} (d : Array (Int × Int)) (hb : w.heap[g]? = some (.cells cur e fr)) :
    (sortWorldK encPc 2 w g 0 n d os).heap[g]? = some (.cells (putCells id 0 (flatK encPc 2 d) cur) e fr) := by
  have hg : g < w.heap.size := (Array.getElem?_eq_some_iff.1 hb).1
  unfold sortWorldK putRowK
  rw [heap_grow_old _ _ (by simpa using hg)]
  simp [putRow, mapBlock, Sort.ahead, Array.getElem?_modify, hb, onCells]
theorem grown_sortedK {w : World} {g n : Nat} {os : Array Obj} (d : Array (Int × Int)) : w.grownBy (sortWorldK encPc 2 w g 0 n d os) (some g) := by
  unfold sortWorldK putRowK
  refine ⟨rfl, rfl, rfl, by simp, fun k hk hne => ?_⟩
  rw [heap_grow_old _ _ (by simpa using hk)]
  have : g ≠ k := fun e => hne (by rw [e])
  simp [putRow, mapBlock, Sort.ahead, Array.getElem?_modify, this]
theorem owns_sortedK {w : World} {base g cap n : Nat} {e : TypeId} {os : Array Obj} {cur : Array Value} {ts : List (Int × Int)} {m : Nat} (hl : ts.length = m) (hbase : base ≤ g) (hb : w.heap[g]? = some (.cells cur e (0, 0)))
    (h1 : m ≤ cap) (h2 : cap ≤ maxLen) (h3 : cur.size = cap * 2) :
    (sortWorldK encPc 2 w g 0 n ts.toArray os).ownsRow base e 2 (.slice (some ⟨g, 0, none⟩) m cap) m (pcCells ts) := by
  refine ⟨by rw [pcCells_length, hl], .inr ⟨g, cap, _, rfl, hbase, heap_sortedK _ hb, h1, h2, by simp [putCells, h3], ?_⟩⟩
  rw [flat_pc]
  apply List.ext_getElem?
  intro j
  have hlen := pcCells_length ts
  by_cases hj : j < m * 2
  · rw [List.getElem?_take_of_lt hj, Array.getElem?_toList]
    have hj2 : j < (pcCells ts).length := by omega
    have hj3 : j < cur.size := by omega
    simp [putCells, hj2, hj3]
  · rw [List.getElem?_take_eq_none (by omega), List.getElem?_eq_none (by omega)]
theorem srt_of {d : Array (Int × Int)} (h : SortedIn (ltOf fun x y : Int × Int => cmpI x.1 y.1) 0 d.size d) : SrtPc d.toList := by
  rw [SrtPc, List.pairwise_iff_getElem]
  intro i j hi hj hij
  have := h i j (Nat.zero_le _) hij (by simpa using hj)
  rw [ltPc, getElem!_pos d j (by simpa using hj), getElem!_pos d i (by simpa using hi)] at this
  simp at this ⊢
  omega
theorem perm_of {d d' : Array (Int × Int)} (h : PermIn 0 d.size d d') : d'.toList.Perm d.toList := by
  have := h.2.2
  have e1 : d'.extract 0 d.size = d' := by rw [← h.1]; simp
  have e2 : d.extract 0 d.size = d := by simp
  rwa [e1, e2] at this

set_option maxRecDepth 100000 in
set_option maxHeartbeats 2000000 in
theorem sortedFunc (lb : Array Value) (zs : List (Int × Int)) (hz : zs.length ≤ 100000) (w : World)
    (hseq : SeqStopsK Fence.wide 5 Tryz.prog 270 lb (fun x : Int × Int => #[vPiece x]) (Below w.heap.size) (fun ys => ys = zs) (fun pre => pre <+: zs) zs.length w) :
    Calls Tryz.prog 235 #[.func (.func 270) #[] lb, .func (.func 237) #[] #[]] w fun e w' =>
      ∃ v ts, e = .returned v ∧ ts.Perm zs ∧ SrtPc ts ∧ w'.ownsRow w.heap.size 248 2 v zs.length (pcCells ts) ∧ Below w.heap.size w w' := by
  have hC := callsIn_wide.1 (collect_in 7 (by omega) lb zs hz w hseq)
  have eg : ∀ args w, (callFunc 237 args).run Tryz.prog w = .ok (.enter 237 args) w := enters_of Tryz.func237 (by kernel_rfl) rfl
  clear hseq
  go_enter Tryz.func235, Tryz.ntmps235
  go_wp2_with (go_at_call 268; refine hC.mono ?_; rintro e W ⟨v, rfl, hrow, hb⟩)
  rcases hrow.2 with ⟨rfl, hz0⟩ | ⟨gb, cap, cur, rfl, hbase, hgb, r1, r2, r3, r4⟩
  · have hss : zs = [] := List.eq_nil_of_length_eq_zero hz0
    subst hss
    have hN : Calls Tryz.prog 269 #[.slice none 0 0, .func (.func 237) #[] #[]] W fun e w' => e = .returned (.tuple #[]) ∧ w' = W := AnyF.slices_SortFunc_none Tryz.sortPc none 0 _ W
    go_wp2_with (go_at_call 269; refine hN.mono ?_; rintro e w' ⟨rfl, rfl⟩)
    go_ret
    exact ⟨_, [], rfl, List.Perm.refl _, List.Pairwise.nil, hrow, hb⟩
  · have hgl : gb < W.heap.size := (Array.getElem?_eq_some_iff.1 hgb).1
    have hS : Calls Tryz.prog 269 #[.slice (some ⟨gb, 0, none⟩) zs.length cap, .func (.func 237) #[] #[]] W fun e w' => e = .returned (.tuple #[]) ∧ ∃ d' n os, PermIn 0 zs.toArray.size zs.toArray d' ∧ SortedIn (ltOf fun x y : Int × Int => cmpI x.1 y.1) 0 zs.toArray.size d' ∧ w' = sortWorldK encPc 2 W gb 0 n d' os :=
      AnyQ.slices_SortFunc Tryz.sortPc 2 Tryz.isAgg248 Tryz.sizeOf248 encPc (fun _ => rfl) (fun x v hv => by simp [encPc] at hv; rcases hv with rfl | rfl <;> rfl) (fun x y => cmpI x.1 y.1) swoPc 237 #[] gb 0 cap zs.toArray W eg (cmpLays_pc gb 0 _ W) (holds_pc hgb r4) hgl (by simp; omega)
    have HR := hide hrow
    have HB := hide hb
    have HS := hide hS
    clear hrow hb hS
    go_wp2_with (go_at_call 269; refine (unhide HS).mono ?_; rintro e w' ⟨rfl, d', n, os, hp, hs, rfl⟩)
    go_ret
    have hsz : d'.toList.length = zs.length := by have := hp.1; simpa using this
    refine ⟨_, d'.toList, rfl, by simpa using perm_of hp, srt_of (by have := hp.1; rw [this]; exact hs), ?_, ?_⟩
    · have := owns_sortedK (n := n) (os := os) (ts := d'.toList) hsz hbase hgb r1 r2 r3
      simpa using this
    · exact (unhide HB).grown (grown_sortedK d') (unhide HB).size (fun j hj => by cases hj; exact hbase)
end Go.Proofs.YtfolanohokflkaaGreatDoor
