import Derived.Test.YtihjfoldgnoolaaGreatDoorRefB
import Derived.Test.YtihjfoldgnoolaaGreatDoorSpec
import Derived.WalkKit
import Derived.WalkSpells
import Derived.WalkLawsBesides
import Derived.Test.YtihjfoldgnoolaaGreatDoorOwn
namespace Go.Proofs.YtihjfoldgnoolaaGreatDoor
open Go.RowKit

def I (n : Int) : Value := .int .i64 n
def symCells : List Sy → List Value
  | [] => []
  | x :: r => .int .i64 x.c :: .int .i64 x.fr :: .int .i64 x.to :: symCells r
theorem symCells_append (a b : List Sy) : symCells (a ++ b) = symCells a ++ symCells b := by
  induction a with
  | nil => rfl
  | cons x a ih => simp [symCells, ih]
theorem symCells_length (a : List Sy) : (symCells a).length = a.length * 3 := by
  induction a with
  | nil => rfl
  | cons x a ih => simp [symCells, ih]; omega

theorem infoSym : (Tryz.prog.info? 235).map (fun i => (i.zero, i.size, i.bytes)) = some (some (.agg #[.int .i64 0, .int .i64 0, .int .i64 0]), 3, 24) := by kernel_rfl

/-- the cells of a block that was just laid. -/
theorem cells_new (wr : World) (cs : List Value) (t : TypeId) : ∀ (j : Nat) (u : Value), cs[j]? = some u → (wr.alloc (.cells cs.toArray t)).cell? ((⟨wr.heap.size, 0, none⟩ : Addr).add j) = some u := by
  intro j u hj
  rw [Addr.add_lit, World.cell?_alloc_at _ _ _ _ rfl]
  simpa using hj
/-- an append onto a slice of the call's own turns nothing below. -/
theorem below_append {B : Nat} {w wr w1 : World} {o : Obj} {e size n : Nat} {v : Value} {xs : List Value} (hb : Below B w wr) (ho : wr.ownsRow B e size v n xs) (hg : (wr.alloc o).grownBy w1 v.ownBlock) (hB : B ≤ wr.heap.size) : Below B w w1 :=
  (hb.alloc hB o).grown hg (by simp; omega) (fun k hk => (ho.lt k hk).1)

theorem oneCall (s : ByteArray) (p : Nat) (w : World) (hs : s.size ≤ 1000) (hi : p < s.size) :
    Calls Tryz.prog 157 #[.string s, .int .i64 p] w fun e w' => e = .returned (.tuple #[.int .i64 (Utf8.decode s p).1, .int .i64 (Utf8.decode s p).2]) ∧ w = w' := by
  have h := refOne_fn s p w hs hi
  rw [oneFn_decode] at h
  exact h

set_option maxRecDepth 100000 in
set_option maxHeartbeats 1000000 in
theorem refSymbols_any (s : ByteArray) (w : World) (hs : s.size ≤ 1000) :
    Calls Tryz.prog 113 #[.string s] w fun e w' => ∃ v, e = .returned v ∧
      w'.ownsRow w.heap.size 235 3 v (symsFrom s 0).length (symCells (symsFrom s 0)) ∧ Below w.heap.size w w' := by
  obtain ⟨i0, hi, hz0, hz1, hz2⟩ := info_parts infoSym
  go_enter Tryz.func113, Tryz.ntmps113
  go_wp2_with fail
  go_loopw [3, 4] (fun v i wr => ∃ (p : Nat) (L : List Sy), p ≤ s.size ∧ i = .int .i64 p ∧ Hid (L ++ symsFrom s p = symsFrom s 0) ∧ Hid (wr.ownsRow w.heap.size 235 3 v L.length (symCells L)) ∧ Hid (Below w.heap.size w wr))
    (fun _ i _ => s.size - (intOf i).toNat)
  case atStart => exact ⟨0, [], Nat.zero_le _, rfl, rfl, World.ownsRow_nil _ _ _ _, Below.refl _ _⟩
  case round =>
    obtain ⟨p, L, hp, rfl, HL, HO, HB⟩ := hrel
    by_cases hlt : p < s.size
    · obtain ⟨hw1, hw2⟩ := decode_width s p hlt
      have hc := decode_code s p
      have hcons := symsFrom_cons s p hlt
      have hlen : L.length ≤ 1000 := by
        have := congrArg List.length (unhide HL)
        have h2 := symsFrom_len s 0
        simp only [List.length_append] at this
        omega
      have HL2 : Hid ((L ++ [⟨(Utf8.decode s p).1, p, p + (Utf8.decode s p).2⟩]) ++ symsFrom s (p + (Utf8.decode s p).2) = symsFrom s 0) := by
        show _ = _
        rw [List.append_assoc, ← unhide HL, hcons]; rfl
      clear hcons
      have C := hide (oneCall s p)
      revert hw1 hw2 hc HL2 C
      generalize (Utf8.decode s p).1 = c
      generalize (Utf8.decode s p).2 = k
      intro hw1 hw2 hc HL2 C
      go_wp2_with (first
        | (go_at_call 157; refine (unhide C _ hs hlt).mono ?_; rintro e w' ⟨rfl, rfl⟩)
        | (at_builtin; refine wpList_append_own _ rfl _ _ 181 rfl w.heap.size 235 i0 (.agg #[.int .i64 0, .int .i64 0, .int .i64 0]) 3 24 Tryz.underlying181 hi hz0 hz1 hz2 rfl (by decide) _ _ _ rfl ((unhide HO).alloc _) ⟨wr.heap.size, 0, none⟩ 1 1 [.int .i64 c, .int .i64 p, .int .i64 (p + k)] rfl rfl ?c1 ?c2 ?c3 ?c4 ?c5 ?_))
      case c1 => exact cells_new _ _ _
      case c2 => intro u hu; simp at hu; rcases hu with rfl | rfl | rfl <;> rfl
      case c3 => unfold maxLen; omega
      case c4 => omega
      case c5 => have := (unhide HB).size; simp; omega
      intro v' w1 hown' hgrow _
      have HO2 : Hid (w1.ownsRow w.heap.size 235 3 v' (L ++ [(⟨c, p, p + k⟩ : Sy)]).length (symCells (L ++ [(⟨c, p, p + k⟩ : Sy)]))) := by
        show w1.ownsRow _ _ _ _ _ _
        rw [symCells_append, List.length_append]
        simpa [symCells] using hown'
      have HB2 : Hid (Below w.heap.size w w1) := below_append (unhide HB) (unhide HO) hgrow (unhide HB).size
      clear hown' hgrow HO HB C HL
      go_wp2_with fail
      go_roundw
      case rel => exact ⟨p + k, L ++ [⟨c, p, p + k⟩], by omega, by go_num, HL2, HO2, HB2⟩
      case measure => simp [intOf]; omega
    · have hfin : L = symsFrom s 0 := by rw [← unhide HL, symsFrom_nil s p (by omega), List.append_nil]
      have HF := hide hfin
      clear hfin
      go_wp2_with fail
      go_ret
      exact ⟨_, rfl, by rw [← unhide HF]; exact unhide HO, unhide HB⟩
end Go.Proofs.YtihjfoldgnoolaaGreatDoor

namespace Go.Proofs.YtihjfoldgnoolaaGreatDoor
open Go.RowKit

def IsBool (e : Ending) : Prop := ∃ b, e = .returned (.bool b)

set_option maxRecDepth 100000 in
set_option maxHeartbeats 1000000 in
theorem refIn_any (l : List (Int × Int)) (v : Value) (c : Int) (w : World) (hl : l.length ≤ 1000000) (ho : w.ownsRow 0 207 2 v l.length (spanCells l)) :
    Calls Tryz.prog 161 #[v, .int .i64 c] w fun e w' => IsBool e ∧ Below w.heap.size w w' := by
  obtain ⟨ao, cap, rfl, hv⟩ := own_view ho
  have HV := hide hv
  clear hv ho
  go_enter Tryz.func161, Tryz.ntmps161
  go_wp2_with fail
  go_loop [5] (fun i => ∃ k : Nat, k ≤ l.length ∧ i = .int .i64 k) (fun i => l.length - (intOf i).toNat)
  case atStart => exact ⟨0, Nat.zero_le _, rfl⟩
  case round =>
    obtain ⟨k, hk, rfl⟩ := hrel
    by_cases hlt : k < l.length
    · obtain ⟨g, rfl, -, hg, hc, -⟩ := unhide HV (by omega)
      have h1 := hc (k * 2) (by omega)
      have h2 := hc (k * 2 + 1) (by omega)
      rw [spanCells_lo l k hlt] at h1
      rw [spanCells_hi l k hlt] at h2
      clear hc HV
      generalize (l.getD k (0, 0)).1 = lo at h1
      generalize (l.getD k (0, 0)).2 = hi at h2
      go_wp2_with fail
      · go_ret
        exact ⟨⟨_, rfl⟩, Below.refl _ _⟩
      all_goals
        go_round
        case rel => exact ⟨k + 1, by omega, by go_num⟩
        case measure => simp [intOf]; omega
    · go_wp2_with fail
      go_ret
      exact ⟨⟨_, rfl⟩, Below.refl _ _⟩

def ints (zs : List Int) : List Value := zs.map (Value.int .i64)
theorem ints_length (zs : List Int) : (ints zs).length = zs.length * 1 := by simp [ints]
theorem ints_at (zs : List Int) (i : Nat) (h : i < zs.length) : (ints zs)[i]? = some (.int .i64 (zs.getD i 0)) := by simp [ints, h]
theorem ints_snoc (zs : List Int) (z : Int) : ints (zs ++ [z]) = ints zs ++ [.int .i64 z] := by simp [ints]
theorem infoInt : (Tryz.prog.info? 3).map (fun i => (i.zero, i.size, i.bytes)) = some (some (.int .i64 0), 1, 8) := by kernel_rfl
theorem c_one (z : Value) (h : z.oneCell' = true) : ∀ u ∈ [z], u.oneCell' = true := by intro u hu; simp at hu; subst hu; exact h

/-- 'm = append(m, z)', m a slice of numbers of the call's own. -/
theorem app_int {ops : Array Oper} {rest : List Oper} {o : Oper} {a : Act} {Q : Exit → Act → World → Prop} (w wr : World) (zs : List Int) (v : Value) (z : Int) (s x : Operand) (hg : o.guard = none)
    (hop : o.op = .call { callee := .builtin .append, args := #[s, x], argTypes := #[31, 31] }) (hs : a.eval s = v) (hx : a.eval x = .slice (some ⟨wr.heap.size, 0, none⟩) 1 1)
    (ho : Hid (wr.ownsRow w.heap.size 3 1 v zs.length (ints zs))) (hb : Hid (Below w.heap.size w wr)) (hl : zs.length ≤ 2000000)
    (K : ∀ v' w', Hid (w'.ownsRow w.heap.size 3 1 v' (zs ++ [z]).length (ints (zs ++ [z]))) → Hid (Below w.heap.size w w') → wpList Tryz.prog ops Q rest (a.put o.dst v') w') :
    wpList Tryz.prog ops Q (o :: rest) a (wr.alloc (.cells #[.int .i64 z] 3)) := by
  obtain ⟨i0, hi, hz0, hz1, hz2⟩ := info_parts infoInt
  have hb' : Below w.heap.size w wr := hb
  have := hb'.size
  refine wpList_append_own _ hg s x 31 hop w.heap.size 3 i0 (.int .i64 0) 1 8 Tryz.underlying31 hi hz0 hz1 hz2 rfl (by decide) _ _ _ hs ((unhide ho).alloc _) ⟨wr.heap.size, 0, none⟩ 1 1 [.int .i64 z] hx rfl (cells_new wr [.int .i64 z] _) (c_one _ rfl) (by unfold maxLen; omega) (by omega) (by simp; omega) ?_
  intro v' w' h1 h2 _
  refine K v' w' ?_ (below_append hb ho h2 hb'.size)
  show w'.ownsRow _ _ _ _ _ _
  rw [ints_snoc, List.length_append]; exact h1

/-- what the list functions of numbers answer: a slice of numbers, no longer than told; nothing below has turned. -/
def IntsUpTo (w : World) (n : Nat) (e : Ending) (w' : World) : Prop := ∃ v' zs', e = .returned v' ∧ w'.ownsRow 0 3 1 v' (List.length zs') (ints zs') ∧ zs'.length ≤ n ∧ Below w.heap.size w w'
/-- the relation of placed's loop. -/
def PlacedRel (w wr : World) (v : Value) (k : Nat) (b : Bool) : Prop := ∃ zs : List Int, zs.length ≤ k + b.toNat ∧ wr.ownsRow w.heap.size 3 1 v zs.length (ints zs) ∧ Below w.heap.size w wr
theorem PlacedRel.mk {w wr : World} {v : Value} {k : Nat} {b : Bool} {zs : List Int} (h : zs.length ≤ k + b.toNat) (ho : Hid (wr.ownsRow w.heap.size 3 1 v zs.length (ints zs))) (hb : Hid (Below w.heap.size w wr)) : Hid (PlacedRel w wr v k b) := ⟨zs, h, ho, hb⟩
end Go.Proofs.YtihjfoldgnoolaaGreatDoor
