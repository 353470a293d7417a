import Derived.Test.YtfolanohokflkabGreatDoorRefC
import Derived.Test.YtfolanohokflkabGreatDoorHexA
import Derived.WalkKit
import Derived.WalkSpells
import Derived.WalkLawsBesides
namespace Go.Proofs.YtfolanohokflkabGreatDoor
open Go.RowKit

def IsBool (e : Ending) : Prop := ∃ b, e = .returned (.bool b)

set_option maxRecDepth 100000 in
set_option maxHeartbeats 1000000 in
theorem refIn_any (l : List (Int × Int)) (v : Value) (c : Int) (w : World) (hl : l.length ≤ 1000000) (ho : w.ownsRow 0 244 2 v l.length (spanCells l)) :
    Calls Tryz.prog 208 #[v, .int .i64 c] w fun e w' => IsBool e ∧ Below w.heap.size w w' := by
  obtain ⟨ao, cap, rfl, hv⟩ := own_view ho
  have HV := hide hv
  clear hv ho
  go_enter Tryz.func208, Tryz.ntmps208
  go_wp2_with fail
  go_loop [5] (fun i => ∃ k : Nat, k ≤ l.length ∧ i = .int .i64 k) (fun i => l.length - (intOf i).toNat)
  case atStart => exact ⟨0, Nat.zero_le _, rfl⟩
  case round =>
    obtain ⟨k, hk, rfl⟩ := hrel
    by_cases hlt : k < l.length
    · obtain ⟨g, rfl, -, hg, hc, -⟩ := unhide HV (by omega)
      have h1 := hc (k * 2) (by omega)
      have h2 := hc (k * 2 + 1) (by omega)
      rw [spanCells_lo l k hlt] at h1
      rw [spanCells_hi l k hlt] at h2
      clear hc HV
      generalize (l.getD k (0, 0)).1 = lo at h1
      generalize (l.getD k (0, 0)).2 = hi at h2
      go_wp2_with fail
      · go_ret
        exact ⟨⟨_, rfl⟩, Below.refl _ _⟩
      all_goals
        go_round
        case rel => exact ⟨k + 1, by omega, by go_num⟩
        case measure => simp [intOf]; omega
    · go_wp2_with fail
      go_ret
      exact ⟨⟨_, rfl⟩, Below.refl _ _⟩

def ints (zs : List Int) : List Value := zs.map (Value.int .i64)
theorem ints_length (zs : List Int) : (ints zs).length = zs.length * 1 := by simp [ints]
theorem ints_at (zs : List Int) (i : Nat) (h : i < zs.length) : (ints zs)[i]? = some (.int .i64 (zs.getD i 0)) := by simp [ints, h]
theorem ints_snoc (zs : List Int) (z : Int) : ints (zs ++ [z]) = ints zs ++ [.int .i64 z] := by simp [ints]
theorem infoInt : (Tryz.prog.info? 3).map (fun i => (i.zero, i.size, i.bytes)) = some (some (.int .i64 0), 1, 8) := by kernel_rfl
theorem c_one (z : Value) (h : z.oneCell' = true) : ∀ u ∈ [z], u.oneCell' = true := by intro u hu; simp at hu; subst hu; exact h

/-- 'm = append(m, z)', m a slice of numbers of the call's own. -/
theorem app_int {ops : Array Oper} {rest : List Oper} {o : Oper} {a : Act} {Q : Exit → Act → World → Prop} (w wr : World) (zs : List Int) (v : Value) (z : Int) (s x : Operand) (hg : o.guard = none)
    (hop : o.op = .call { callee := .builtin .append, args := #[s, x], argTypes := #[71, 71] }) (hs : a.eval s = v) (hx : a.eval x = .slice (some ⟨wr.heap.size, 0, none⟩) 1 1)
    (ho : Hid (wr.ownsRow w.heap.size 3 1 v zs.length (ints zs))) (hb : Hid (Below w.heap.size w wr)) (hl : zs.length ≤ 2000000)
    (K : ∀ v' w', Hid (w'.ownsRow w.heap.size 3 1 v' (zs ++ [z]).length (ints (zs ++ [z]))) → Hid (Below w.heap.size w w') → wpList Tryz.prog ops Q rest (a.put o.dst v') w') :
    wpList Tryz.prog ops Q (o :: rest) a (wr.alloc (.cells #[.int .i64 z] 3)) := by
  obtain ⟨i0, hi, hz0, hz1, hz2⟩ := info_parts infoInt
  have hb' : Below w.heap.size w wr := hb
  have := hb'.size
  refine wpList_append_own _ hg s x 71 hop w.heap.size 3 i0 (.int .i64 0) 1 8 Tryz.underlying71 hi hz0 hz1 hz2 rfl (by decide) _ _ _ hs ((unhide ho).alloc _) ⟨wr.heap.size, 0, none⟩ 1 1 [.int .i64 z] hx rfl (cells_new wr [.int .i64 z] _) (c_one _ rfl) (by unfold maxLen; omega) (by omega) (by simp; omega) ?_
  intro v' w' h1 h2 _
  refine K v' w' ?_ (below_append hb ho h2 hb'.size)
  show w'.ownsRow _ _ _ _ _ _
  rw [ints_snoc, List.length_append]; exact h1

/-- what the list functions of numbers answer: a slice of numbers, no longer than told; nothing below has turned. -/
def IntsUpTo (w : World) (n : Nat) (e : Ending) (w' : World) : Prop := ∃ v' zs', e = .returned v' ∧ w'.ownsRow 0 3 1 v' (List.length zs') (ints zs') ∧ zs'.length ≤ n ∧ Below w.heap.size w w'
/-- the relation of placed's loop. -/
def PlacedRel (w wr : World) (v : Value) (k : Nat) (b : Bool) : Prop := ∃ zs : List Int, zs.length ≤ k + b.toNat ∧ wr.ownsRow w.heap.size 3 1 v zs.length (ints zs) ∧ Below w.heap.size w wr
theorem PlacedRel.mk {w wr : World} {v : Value} {k : Nat} {b : Bool} {zs : List Int} (h : zs.length ≤ k + b.toNat) (ho : Hid (wr.ownsRow w.heap.size 3 1 v zs.length (ints zs))) (hb : Hid (Below w.heap.size w wr)) : Hid (PlacedRel w wr v k b) := ⟨zs, h, ho, hb⟩
end Go.Proofs.YtfolanohokflkabGreatDoor
