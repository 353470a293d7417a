import Derived.Test.YtihjfoldgnoolaaGreatDoorRefE
import Derived.WalkKit
import Derived.WalkSpells
import Derived.WalkLawsBesides
namespace Go.Proofs.YtihjfoldgnoolaaGreatDoor
open Go.RowKit

/-- a slice of numbers that can be read, no longer than told. -/
def IntsRel (w wr : World) (v : Value) (n : Nat) : Prop := ∃ zs : List Int, zs.length ≤ n ∧ wr.ownsRow 0 3 1 v zs.length (ints zs) ∧ Below w.heap.size w wr
theorem below_next {w wr w1 : World} (hb : Below w.heap.size w wr) (h : Below wr.heap.size wr w1) : Below w.heap.size w w1 := hb.trans (h.mono hb.size)
/-- placed, met where a slice of at most n numbers is known. -/
theorem placed_rel (w wr : World) (v : Value) (c : Int) (n : Nat) (h : Hid (IntsRel w wr v n)) (hn : n ≤ 1000000) :
    Calls Tryz.prog 127 #[v, .int .i64 c] wr fun e w' => ∃ v', e = .returned v' ∧ Hid (IntsRel w w' v' (n + 1)) := by
  obtain ⟨zs, h1, h2, h3⟩ := unhide h
  refine (refPlaced_any zs v c wr (by omega) h2).mono ?_
  rintro e w' ⟨v', zs', rfl, o, hl, hb⟩
  exact ⟨v', rfl, ⟨zs', by omega, o, below_next h3 hb⟩⟩

set_option maxRecDepth 100000 in
set_option maxHeartbeats 2000000 in
theorem refCuts_any (a b : List (Int × Int)) (va vb : Value) (w : World) (ha : a.length ≤ 1000) (hb : b.length ≤ 1000) (oa : w.ownsRow 0 207 2 va a.length (spanCells a)) (ob : w.ownsRow 0 207 2 vb b.length (spanCells b)) :
    Calls Tryz.prog 237 #[va, vb] w (IntsUpTo w (1 + 2 * (a.length + b.length))) := by
  obtain ⟨aa, ca, rfl, hva⟩ := own_view oa
  obtain ⟨ab, cb, rfl, hvb⟩ := own_view ob
  have HVA := hide hva
  have HVB := hide hvb
  clear hva hvb oa ob
  have HN : Hid (w.ownsRow w.heap.size 3 1 (.slice none 0 0) ([] : List Int).length (ints [])) := World.ownsRow_nil _ _ _ _
  have HBN : Hid (Below w.heap.size w w) := Below.refl _ _
  go_enter Tryz.func237, Tryz.ntmps237
  go_wp2_with (at_builtin; refine app_int w w [] _ 0 (.tmp 9) (.tmp 10) rfl rfl rfl rfl HN HBN (by simp) ?_; intro v1 w1 HW1 HB1)
  have HR : Hid (IntsRel w w1 v1 1) := ⟨[0], by simp, own_base (unhide HW1) (Nat.zero_le _), HB1⟩
  clear HN HBN HW1 HB1
  go_loopw [5, 6] (fun v i wr => ∃ (k : Int), (k = 0 ∨ k = 1 ∨ k = 2) ∧ i = .int .i64 k ∧ Hid (IntsRel w wr v (1 + (if 1 ≤ k then 2 * a.length else 0) + (if 2 ≤ k then 2 * b.length else 0)))) (fun _ i _ => 2 - (intOf i).toNat)
  case atStart => exact ⟨0, by omega, rfl, HR⟩
  case round =>
    clear HR
    obtain ⟨k, hk3, rfl, HR⟩ := hrel
    rcases hk3 with rfl | rfl | rfl
    · have HR0 : Hid (IntsRel w wr u5 (1)) := HR
      clear HR
      go_wp2_with fail
      go_loopw [5, 8] (fun v i wr => ∃ (j : Nat), j ≤ a.length ∧ i = .int .i64 j ∧ Hid (IntsRel w wr v (1 + 2 * j))) (fun _ i _ => a.length - (intOf i).toNat)
      case atStart => exact ⟨0, by omega, rfl, HR0⟩
      case round =>
        clear HR0
        obtain ⟨j, hj, rfl, HR⟩ := hrel
        by_cases hlt : j < a.length
        · obtain ⟨g, rfl, -, hg, hc, -⟩ := unhide HVA (by omega)
          have h1 := hc (j * 2) (by omega)
          have h2 := hc (j * 2 + 1) (by omega)
          rw [spanCells_lo a j hlt] at h1
          rw [spanCells_hi a j hlt] at h2
          clear hc HVA HVB
          generalize (a.getD j (0, 0)).1 = lo at h1
          generalize (a.getD j (0, 0)).2 = hi at h2
          obtain ⟨_, _, _, hbel⟩ := unhide HR
          rw [← hbel.cell (p := ⟨g, j * 2, none⟩) hg] at h1
          have H2 := hide h2
          clear h2 hbel
          go_wp2_with (first
            | (go_at_call 127; refine (placed_rel w _ _ _ _ HR (by omega)).mono ?_; clear HR; rintro e w1 ⟨v1, rfl, HR1⟩; have h2' : w1.cell? ⟨g, j * 2 + 1, none⟩ = some (.int .i64 hi) := (by obtain ⟨_, _, _, hbel⟩ := unhide HR1; rw [hbel.cell (p := ⟨g, j * 2 + 1, none⟩) hg]; exact unhide H2); clear h1)
            | (go_at_call 127; refine (placed_rel w _ _ _ _ HR1 (by omega)).mono ?_; clear HR1; rintro e w2 ⟨v2, rfl, HR2⟩))
          go_roundw
          case rel => exact ⟨j + 1, by omega, by go_num, HR2⟩
          case measure => simp [intOf]; omega
        · obtain rfl : j = a.length := by omega
          go_wp2_with fail
          go_roundw
          case rel => exact ⟨1, by omega, by go_num, by simpa using HR⟩
          case measure => simp [intOf]
    · have HR0 : Hid (IntsRel w wr u5 (1 + 2 * a.length)) := HR
      clear HR
      go_wp2_with fail
      go_loopw [5, 8] (fun v i wr => ∃ (j : Nat), j ≤ b.length ∧ i = .int .i64 j ∧ Hid (IntsRel w wr v (1 + 2 * a.length + 2 * j))) (fun _ i _ => b.length - (intOf i).toNat)
      case atStart => exact ⟨0, by omega, rfl, HR0⟩
      case round =>
        clear HR0
        obtain ⟨j, hj, rfl, HR⟩ := hrel
        by_cases hlt : j < b.length
        · obtain ⟨g, rfl, -, hg, hc, -⟩ := unhide HVB (by omega)
          have h1 := hc (j * 2) (by omega)
          have h2 := hc (j * 2 + 1) (by omega)
          rw [spanCells_lo b j hlt] at h1
          rw [spanCells_hi b j hlt] at h2
          clear hc HVA HVB
          generalize (b.getD j (0, 0)).1 = lo at h1
          generalize (b.getD j (0, 0)).2 = hi at h2
          obtain ⟨_, _, _, hbel⟩ := unhide HR
          rw [← hbel.cell (p := ⟨g, j * 2, none⟩) hg] at h1
          have H2 := hide h2
          clear h2 hbel
          go_wp2_with (first
            | (go_at_call 127; refine (placed_rel w _ _ _ _ HR (by omega)).mono ?_; clear HR; rintro e w1 ⟨v1, rfl, HR1⟩; have h2' : w1.cell? ⟨g, j * 2 + 1, none⟩ = some (.int .i64 hi) := (by obtain ⟨_, _, _, hbel⟩ := unhide HR1; rw [hbel.cell (p := ⟨g, j * 2 + 1, none⟩) hg]; exact unhide H2); clear h1)
            | (go_at_call 127; refine (placed_rel w _ _ _ _ HR1 (by omega)).mono ?_; clear HR1; rintro e w2 ⟨v2, rfl, HR2⟩))
          go_roundw
          case rel => exact ⟨j + 1, by omega, by go_num, HR2⟩
          case measure => simp [intOf]; omega
        · obtain rfl : j = b.length := by omega
          go_wp2_with fail
          go_roundw
          case rel => exact ⟨2, by omega, by go_num, by simpa using HR⟩
          case measure => simp [intOf]
    · have HR0 : Hid (IntsRel w wr u5 (1 + 2 * a.length + 2 * b.length)) := HR
      clear HR
      go_wp2_with fail
      go_ret
      obtain ⟨zs, z1, z2, z3⟩ := unhide HR0
      exact ⟨_, zs, rfl, z2, by omega, z3⟩
end Go.Proofs.YtihjfoldgnoolaaGreatDoor

namespace Go.Proofs.YtihjfoldgnoolaaGreatDoor
open Go.RowKit

def bools (bs : List Bool) : List Value := bs.map Value.bool
theorem bools_at (zs : List Bool) (i : Nat) (h : i < zs.length) : (bools zs)[i]? = some (.bool (zs.getD i false)) := by simp [bools, h]
theorem bools_snoc (zs : List Bool) (z : Bool) : bools (zs ++ [z]) = bools zs ++ [.bool z] := by simp [bools]
theorem infoBool : (Tryz.prog.info? 4).map (fun i => (i.zero, i.size, i.bytes)) = some (some (.bool false), 1, 1) := by kernel_rfl
theorem infoSpan : (Tryz.prog.info? 207).map (fun i => (i.zero, i.size, i.bytes)) = some (some (.agg #[.int .i64 0, .int .i64 0]), 2, 16) := by kernel_rfl

/-- 'm = append(m, b)', m a slice of bools of the call's own. -/
theorem app_bool {ops : Array Oper} {rest : List Oper} {o : Oper} {a : Act} {Q : Exit → Act → World → Prop} (w wr : World) (zs : List Bool) (v : Value) (z : Bool) (s x : Operand) (hg : o.guard = none)
    (hop : o.op = .call { callee := .builtin .append, args := #[s, x], argTypes := #[57, 57] }) (hs : a.eval s = v) (hx : a.eval x = .slice (some ⟨wr.heap.size, 0, none⟩) 1 1)
    (ho : Hid (wr.ownsRow w.heap.size 4 1 v zs.length (bools zs))) (hb : Hid (Below w.heap.size w wr)) (hl : zs.length ≤ 2000000)
    (K : ∀ v' w', Hid (w'.ownsRow w.heap.size 4 1 v' (zs ++ [z]).length (bools (zs ++ [z]))) → Hid (Below w.heap.size w w') → wpList Tryz.prog ops Q rest (a.put o.dst v') w') :
    wpList Tryz.prog ops Q (o :: rest) a (wr.alloc (.cells #[.bool z] 4)) := by
  obtain ⟨i0, hi, hz0, hz1, hz2⟩ := info_parts infoBool
  have hb' : Below w.heap.size w wr := hb
  have := hb'.size
  refine wpList_append_own _ hg s x 57 hop w.heap.size 4 i0 (.bool false) 1 1 Tryz.underlying57 hi hz0 hz1 hz2 rfl (by decide) _ _ _ hs ((unhide ho).alloc _) ⟨wr.heap.size, 0, none⟩ 1 1 [.bool z] hx rfl (cells_new wr [.bool z] _) (c_one _ rfl) (by unfold maxLen; omega) (by omega) (by simp; omega) ?_
  intro v' w' h1 h2 _
  refine K v' w' ?_ (below_append hb ho h2 hb'.size)
  show w'.ownsRow _ _ _ _ _ _
  rw [bools_snoc, List.length_append]; exact h1

/-- 'm = append(m, Span{lo, hi})', m a slice of spans of the call's own. -/
theorem app_span {ops : Array Oper} {rest : List Oper} {o : Oper} {a : Act} {Q : Exit → Act → World → Prop} (w wr : World) (zs : List (Int × Int)) (v : Value) (lo hi : Int) (s x : Operand) (hg : o.guard = none)
    (hop : o.op = .call { callee := .builtin .append, args := #[s, x], argTypes := #[202, 202] }) (hs : a.eval s = v) (hx : a.eval x = .slice (some ⟨wr.heap.size, 0, none⟩) 1 1)
    (ho : Hid (wr.ownsRow w.heap.size 207 2 v zs.length (spanCells zs))) (hb : Hid (Below w.heap.size w wr)) (hl : zs.length ≤ 2000000)
    (K : ∀ ao cap w', Hid (w'.ownsRow w.heap.size 207 2 (.slice ao (zs.length + 1) cap) (zs ++ [(lo, hi)]).length (spanCells (zs ++ [(lo, hi)]))) → Hid (Below w.heap.size w w') → wpList Tryz.prog ops Q rest (a.put o.dst (.slice ao (zs.length + 1) cap)) w') :
    wpList Tryz.prog ops Q (o :: rest) a (wr.alloc (.cells #[.int .i64 lo, .int .i64 hi] 207)) := by
  obtain ⟨i0, hi0, hz0, hz1, hz2⟩ := info_parts infoSpan
  have hb' : Below w.heap.size w wr := hb
  have := hb'.size
  refine wpList_append_own _ hg s x 202 hop w.heap.size 207 i0 (.agg #[.int .i64 0, .int .i64 0]) 2 16 Tryz.underlying202 hi0 hz0 hz1 hz2 rfl (by decide) _ _ _ hs ((unhide ho).alloc _) ⟨wr.heap.size, 0, none⟩ 1 1 [.int .i64 lo, .int .i64 hi] hx rfl (cells_new wr [.int .i64 lo, .int .i64 hi] _) (by intro u hu; simp at hu; rcases hu with rfl | rfl <;> rfl) (by unfold maxLen; omega) (by omega) (by simp; omega) ?_
  intro v' w' h1 h2 _
  have h3 : w'.ownsRow w.heap.size 207 2 v' (zs ++ [(lo, hi)]).length (spanCells (zs ++ [(lo, hi)])) := by
    rw [spanCells_append, List.length_append]; exact h1
  obtain ⟨ao, cap, rfl, -⟩ := own_view h3
  have e : (zs ++ [(lo, hi)]).length = zs.length + 1 := by simp
  rw [e] at h3 ⊢
  exact K ao cap w' (by rw [e]; exact h3) (below_append hb ho h2 hb'.size)

theorem spanCells_set : ∀ (L : List (Int × Int)) (x : Int × Int) (h : Int), (spanCells (L ++ [x])).set (L.length * 2 + 1) (.int .i64 h) = spanCells (L ++ [(x.1, h)])
  | [], _, _ => rfl
  | y :: L, x, h => by
    have := spanCells_set L x h
    rw [show (y :: L).length * 2 + 1 = (L.length * 2 + 1) + 1 + 1 from by simp; omega]
    simp [spanCells, this]

def TidyRel (w wr : World) (v : Value) (ys : List (Int × Int)) (k : Nat) (last : Bool) : Prop :=
  2 * ys.length ≤ k + 1 ∧ (last = false → 2 * ys.length ≤ k) ∧ wr.ownsRow w.heap.size 207 2 v ys.length (spanCells ys) ∧ Below w.heap.size w wr
/-- what the list functions of spans answer. -/
def SpansUpTo (w : World) (n : Nat) (e : Ending) (w' : World) : Prop := ∃ v' ys, e = .returned v' ∧ w'.ownsRow 0 207 2 v' (List.length ys) (spanCells ys) ∧ ys.length ≤ n ∧ Below w.heap.size w w' ∧ ∀ k, v'.ownBlock = some k → w.heap.size ≤ k

end Go.Proofs.YtihjfoldgnoolaaGreatDoor
