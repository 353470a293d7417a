import Derived.Test.YtfolanohokflkabGreatDoorHexA
import Derived.Test.YtfolanohokflkabGreatDoorShelf
import Derived.Test.YtfolanohokflkabGreatDoorTabD
import Derived.WalkKit
import Derived.WalkSpells
import Derived.WalkLawsBesides
import Derived.WalkMore
import Derived.Deep.QuietTactic
import Derived.BigQuiet
import Derived.BigRegion
import Derived.Test.YtfolanohokflkabGreatDoorTabH
import Derived.Test.YtfolanohokflkabGreatDoorRefD
import Derived.Test.YtfolanohokflkabGreatDoorMeetA
import Derived.Test.YtfolanohokflkabGreatDoorRowB
/-
  The library's functions on a slice of one number.
-/
namespace Go.Proofs.YtfolanohokflkabGreatDoor
open Go.RowKit
set_option maxRecDepth 100000 in
set_option maxHeartbeats 4000000 in
theorem insSort_one (w : World) (ao : Option Addr) (cap : Nat) :
    Calls Tryz.prog 236 #[.slice ao 1 cap, .int .i64 0, .int .i64 1] w fun e w' => e = .returned (.tuple #[]) ∧ w = w' := by
  go_enter Tryz.func236, Tryz.ntmps236
  go_wp2_with fail
  go_loopw [6] (fun i wr => i = .int .i64 1 ∧ Hid (w = wr)) (fun i _ => 0)
  case atStart => exact ⟨rfl, rfl⟩
  case round =>
    obtain ⟨rfl, HR⟩ := hrel
    go_wp2_with fail
    go_end0
    exact ⟨rfl, HR⟩
set_option maxRecDepth 100000 in
set_option maxHeartbeats 4000000 in
theorem pdq_one (w : World) (ao : Option Addr) (cap : Nat) (L : Int) :
    Calls Tryz.prog 190 #[.slice ao 1 cap, .int .i64 0, .int .i64 1, .int .i64 L] w fun e w' => e = .returned (.tuple #[]) ∧ w = w' := by
  have HI := hide (insSort_one w ao cap)
  go_enter Tryz.func190, Tryz.ntmps190
  go_wp2_with fail
  go_loopw [1, 2] (fun a b wr => a = .int .i64 0 ∧ b = .int .i64 1 ∧ Hid (wr = w)) (fun _ _ _ => 0)
  case atStart => exact ⟨rfl, rfl, rfl⟩
  case round =>
    obtain ⟨rfl, rfl, HW⟩ := hrel
    obtain rfl : wr = w := unhide HW
    go_wp2_with (go_at_call 236; refine (unhide HI).mono ?_; rintro e w1 ⟨rfl, rfl⟩)
    exact bodyPost_ret (results_none rfl _ _ _) rfl ⟨rfl, rfl⟩
set_option maxRecDepth 100000 in
set_option maxHeartbeats 4000000 in
theorem sort_one (w : World) (ao : Option Addr) (cap : Nat) :
    Calls Tryz.prog 146 #[.slice ao 1 cap] w fun e w' => e = .returned (.tuple #[]) ∧ w = w' := by
  have HP := hide (fun L => pdq_one w ao cap L)
  have HL := hide (Tryz.bits_Len 1 w (by omega) (by omega))
  go_enter Tryz.func146, Tryz.ntmps146
  go_wp2_with (first
    | (go_at_call 191; refine (unhide HL).mono ?_; rintro e w1 ⟨rfl, rfl⟩)
    | (go_at_call 190; refine (unhide HP _).mono ?_; rintro e w1 ⟨rfl, rfl⟩))
  go_end0
  exact ⟨rfl, rfl⟩
set_option maxRecDepth 100000 in
theorem compact_one (w : World) (ao : Option Addr) (cap : Nat) :
    Calls Tryz.prog 147 #[.slice ao 1 cap] w fun e w' => e = .returned (.slice ao 1 cap) ∧ w = w' := by
  go_enter Tryz.func147, Tryz.ntmps147
  go_wp2_with fail
  go_ret
  exact ⟨rfl, rfl⟩
/-- is it the idle one? -/
theorem joinF {w : World} {x y : Int} {k : Nat} (hk : w.cell? ⟨k, 0, none⟩ = some (.int .i64 y)) : Calls Tryz.prog 151 #[.int .i64 x, .pointer (some ⟨k, 0, none⟩)] w fun e w' => e = .returned (.bool (decide (x = y))) ∧ w = w' := by
  go_enter Tryz.func151, Tryz.ntmps151
  go_wp2_with fail
  go_ret
  exact ⟨rfl, rfl⟩
set_option maxRecDepth 100000 in
set_option maxHeartbeats 4000000 in
theorem index_one {w : World} {g cap : Nat} {x y : Int} {k : Nat} (hg : w.cell? ⟨g, 0, none⟩ = some (.int .i64 x)) (hk : w.cell? ⟨k, 0, none⟩ = some (.int .i64 y)) (hne : x ≠ y) :
    Calls Tryz.prog 197 #[.slice (some ⟨g, 0, none⟩) 1 cap, .func (.func 151) #[] #[.pointer (some ⟨k, 0, none⟩)]] w fun e w' => e = .returned (.int .i64 (-1)) ∧ w = w' := by
  have HJ := hide (joinF (x := x) hk)
  rw [decide_eq_false hne] at HJ
  have hcf : ∀ (args : Array Value) (w : World), (callFunc 151 args).run Tryz.prog w = .ok (.enter 151 args) w := callFunc_enter Tryz.func151 (by kernel_rfl) (by kernel_rfl)
  clear hk hne
  go_enter Tryz.func197, Tryz.ntmps197
  go_wp2_with fail
  go_loopw [8] (fun i wr => ∃ k : Nat, k ≤ 1 ∧ i = .int .i64 (k : Int) ∧ Hid (wr = w)) (fun i _ => 1 - (intOf i).toNat)
  case atStart => exact ⟨0, by omega, rfl, rfl⟩
  case round =>
    obtain ⟨k, hk, rfl, HW⟩ := hrel
    obtain rfl : wr = w := unhide HW
    by_cases h1 : k = 0
    · subst h1
      go_wp2_with (go_at_call 151; refine (unhide HJ).mono ?_; rintro e w1 ⟨rfl, rfl⟩)
      go_roundw
      case rel => exact ⟨1, by omega, by go_num, hide trivial⟩
      case measure => simp [intOf]
    · obtain rfl : k = 1 := by omega
      go_wp2_with fail
      go_ret
      exact ⟨rfl, rfl⟩
set_option maxRecDepth 100000 in
theorem delete_one {w : World} {g cap : Nat} {x y : Int} {k : Nat} (hg : w.cell? ⟨g, 0, none⟩ = some (.int .i64 x)) (hk : w.cell? ⟨k, 0, none⟩ = some (.int .i64 y)) (hne : x ≠ y) :
    Calls Tryz.prog 150 #[.slice (some ⟨g, 0, none⟩) 1 cap, .func (.func 151) #[] #[.pointer (some ⟨k, 0, none⟩)]] w fun e w' => e = .returned (.slice (some ⟨g, 0, none⟩) 1 cap) ∧ w = w' := by
  have HI := hide (index_one (cap := cap) hg hk hne)
  clear hk hne hg
  go_enter Tryz.func150, Tryz.ntmps150
  go_wp2_with (go_at_call 197; refine (unhide HI).mono ?_; rintro e w1 ⟨rfl, rfl⟩)
  go_ret
  exact ⟨rfl, rfl⟩
theorem contains_one {w : World} {g cap : Nat} {x y : Int} (hg : w.cell? ⟨g, 0, none⟩ = some (.int .i64 x)) (hne : x ≠ y) :
    Calls Tryz.prog 152 #[.slice (some ⟨g, 0, none⟩) 1 cap, .int .i64 y] w fun e w' => e = .returned (.bool false) ∧ w = w' := by
  refine (Tryz.slices_Contains_int g 0 1 cap [x] y w (by simp) (by omega) (fun j hj => by
    have : j = 0 := by simpa using hj
    subst this
    exact hg)).mono ?_
  rintro e w' ⟨rfl, rfl⟩
  refine ⟨?_, rfl⟩
  simp [Ne.symm hne]
end Go.Proofs.YtfolanohokflkabGreatDoor

/-
  any, all of one term: that term.
-/
namespace Go.Proofs.YtfolanohokflkabGreatDoor
open Go.RowKit
/-- 'm = append(m, ms...)', both slices of numbers. -/
theorem app_ints {ops : Array Oper} {rest : List Oper} {o : Oper} {a : Act} {Q : Exit → Act → World → Prop} (w wr : World) (zs ys : List Int) (v : Value) (g cap : Nat) (s x : Operand) (hg : o.guard = none)
    (hop : o.op = .call { callee := .builtin .append, args := #[s, x], argTypes := #[71, 71] }) (hs : a.eval s = v) (hx : a.eval x = .slice (some ⟨g, 0, none⟩) ys.length cap)
    (ho : Hid (wr.ownsRow w.heap.size 3 1 v zs.length (ints zs))) (hb : Hid (Below w.heap.size w wr)) (hc : Hid (∀ j u, (ints ys)[j]? = some u → wr.cell? ⟨g, j, none⟩ = some u)) (hl : zs.length + ys.length ≤ 2000000)
    (K : ∀ v' w', Hid (w'.ownsRow w.heap.size 3 1 v' (zs ++ ys).length (ints (zs ++ ys))) → Hid (Below w.heap.size w w') → wpList Tryz.prog ops Q rest (a.put o.dst v') w') :
    wpList Tryz.prog ops Q (o :: rest) a wr := by
  obtain ⟨i0, hi, hz0, hz1, hz2⟩ := info_parts infoInt
  have hb' : Below w.heap.size w wr := hb
  have := hb'.size
  refine wpList_append_own _ hg s x 71 hop w.heap.size 3 i0 (.int .i64 0) 1 8 Tryz.underlying71 hi hz0 hz1 hz2 rfl (by decide) _ _ _ hs (unhide ho) ⟨g, 0, none⟩ ys.length cap (ints ys) hx (ints_length ys) (fun j u hj => by have := unhide hc j u hj; rcases j with _ | j; exact this; simpa [Addr.add] using this) (by intro u hu; obtain ⟨z, _, rfl⟩ := List.mem_map.1 hu; rfl) (by unfold maxLen; omega) (by omega) (by omega) ?_
  intro v' w' h1 h2 _
  refine K v' w' ?_ ⟨h2.os.trans hb'.os, h2.tape.trans hb'.tape, h2.output.trans hb'.output, Nat.le_trans hb'.size h2.size, fun k hk => (h2.block k (by omega) (fun e => by have := ((unhide ho).lt k e.symm).1; omega)).trans (hb'.block k hk)⟩
  show w'.ownsRow _ _ _ _ _ _
  rw [show ints (zs ++ ys) = ints zs ++ ints ys from by simp [ints], List.length_append]; exact h1
section
variable {w : World} {t : TB} {T : List Te} {S C : List (Value × Value)}
set_option maxRecDepth 100000 in
set_option maxHeartbeats 4000000 in
theorem spread_one {n : Nat} {k : Int} {x : Te} (h : Hid (Tab w t T (numPairs T) S C)) (hx : T[n]? = some x) (hne : x.1.kd ≠ k) :
    Calls Tryz.prog 145 #[.pointer (some ⟨t.tb, 0, none⟩), .int .i64 k, .int .i64 n] w fun e w' => ∃ g cap, e = .returned (.slice (some ⟨g, 0, none⟩) 1 cap) ∧ Hid (w'.ownsRow w.heap.size 3 1 (.slice (some ⟨g, 0, none⟩) 1 cap) 1 (ints [(n : Int)])) ∧ Hid (Below w.heap.size w w') := by
  obtain ⟨g, q2, c0, -⟩ := (unhide h).at hx
  have hlt := (List.getElem?_eq_some_iff.1 hx).1
  have hiI : (n : Int) < (T.length : Int) := by omega
  have hi0 : (0 : Int) ≤ (n : Int) := by omega
  have hnk : (x.1.kd == k) = false := by simpa using hne
  generalize x.1.kd = xk at *
  clear h hx hne
  go_enter Tryz.func145, Tryz.ntmps145
  go_wp2_with fail
  go_loopw [7, 2] (fun m i wr => m = .slice none 0 0 ∧ i = .int .i64 (n : Int) ∧ Hid (wr = w)) (fun _ _ _ => 0)
  case atStart => exact ⟨rfl, rfl, rfl⟩
  case round =>
    obtain ⟨rfl, rfl, HW⟩ := hrel
    obtain rfl : wr = w := unhide HW
    have HN0 : Hid (wr.ownsRow wr.heap.size 3 1 (.slice none 0 0) ([] : List Int).length (ints [])) := World.ownsRow_nil _ _ _ _
    have HB0 : Hid (Below wr.heap.size wr wr) := Below.refl _ _
    go_wp2_with (at_builtin; refine app_int wr wr [] (.slice none 0 0) (n : Int) (.tmp 40) (.tmp 42) rfl rfl rfl rfl HN0 HB0 (by simp) ?_; intro v' w' HO HB; obtain ⟨ao, cap, rfl, hv⟩ := own_view (unhide HO); obtain ⟨g', rfl, -⟩ := hv (by simp))
    go_ret
    exact ⟨g', cap, rfl, HO, HB⟩
theorem ints_own {w : World} {g cap : Nat} {x : Int} (h : w.ownsRow 0 3 1 (.slice (some ⟨g, 0, none⟩) 1 cap) 1 (ints [x])) : w.cell? ⟨g, 0, none⟩ = some (.int .i64 x) := by
  obtain ⟨ao, cap', e, hv⟩ := own_view h
  injection e with e1
  obtain ⟨g', e2, -, -, hc, -⟩ := hv (by omega)
  rw [e2] at e1
  injection e1 with e1
  injection e1 with e1
  subst e1
  exact hc 0 (by omega)
set_option maxRecDepth 100000 in
set_option maxHeartbeats 4000000 in
/-- a member that is no set. -/
theorem members_one {n g0 cap0 : Nat} {k : Int} {x : Te} (h : Hid (Tab w t T (numPairs T) S C)) (hg : w.cell? ⟨g0, 0, none⟩ = some (.int .i64 (n : Int))) (hx : T[n]? = some x) (hne : x.1.kd ≠ k) (h0 : x.1.kd ≠ 0) :
    Calls Tryz.prog 85 #[.pointer (some ⟨t.tb, 0, none⟩), .int .i64 k, .slice (some ⟨g0, 0, none⟩) 1 cap0] w fun e w' => ∃ g cap, e = .returned (.tuple #[.slice (some ⟨g, 0, none⟩) 1 cap, .slice none 0 0]) ∧ Hid (w'.ownsRow w.heap.size 3 1 (.slice (some ⟨g, 0, none⟩) 1 cap) 1 (ints [(n : Int)])) ∧ Hid (Below w.heap.size w w') := by
  have HSP := hide (spread_one h hx hne)
  have hlt := (List.getElem?_eq_some_iff.1 hx).1
  have HX := hide hx
  have HN0 : Hid (w.ownsRow w.heap.size 3 1 (.slice none 0 0) ([] : List Int).length (ints [])) := World.ownsRow_nil _ _ _ _
  go_enter Tryz.func85, Tryz.ntmps85
  go_wp2_with fail
  go_loopw [8, 16] (fun m i wr => (m = .slice none 0 0 ∧ i = .int .i64 0 ∧ Hid (wr = w)) ∨ (∃ g cap, m = .slice (some ⟨g, 0, none⟩) 1 cap ∧ i = .int .i64 1 ∧ Hid (wr.ownsRow w.heap.size 3 1 (.slice (some ⟨g, 0, none⟩) 1 cap) 1 (ints [(n : Int)])) ∧ Hid (Below w.heap.size w wr))) (fun _ i _ => 1 - (intOf i).toNat)
  case atStart => exact .inl ⟨rfl, rfl, rfl⟩
  case round =>
    rcases hrel with ⟨rfl, rfl, HW⟩ | ⟨g, cap, rfl, rfl, HO, HB⟩
    · obtain rfl : wr = w := unhide HW
      go_wp2_with (first
        | (go_at_call 145; refine (unhide HSP).mono ?_; clear HSP; rintro e w2 ⟨g2, cap2, rfl, HO2, HB2⟩; have HN2 : Hid (w2.ownsRow wr.heap.size 3 1 (.slice none 0 0) ([] : List Int).length (ints [])) := World.ownsRow_nil _ _ _ _; have HC2 : Hid (∀ j u, (ints [(n : Int)])[j]? = some u → w2.cell? ⟨g2, j, none⟩ = some u) := (fun j u hj => (by have hj0 : j < 1 := (by have := (List.getElem?_eq_some_iff.1 hj).1; simpa [ints] using this); obtain rfl : j = 0 := (by omega); have q := ints_own (own_base (unhide HO2) (Nat.zero_le _)); simp [ints] at hj; rw [← hj]; exact q)))
        | (at_builtin; refine app_ints wr w2 [] [(n : Int)] (.slice none 0 0) g2 cap2 (.tmp 20) (.tmp 24) rfl rfl rfl rfl HN2 HB2 HC2 (by simp) ?_; intro v' w3 HO3 HB3; obtain ⟨ao, cap3, rfl, hv⟩ := own_view (unhide HO3); obtain ⟨g3, rfl, -⟩ := hv (by simp)))
      go_roundw
      case rel => exact .inr ⟨g3, cap3, rfl, rfl, HO3, HB3⟩
      case measure => simp [intOf]
    · have HS1 := hide (sort_one wr (some ⟨g, 0, none⟩) cap)
      have HC1 := hide (compact_one wr (some ⟨g, 0, none⟩) cap)
      go_wp2_with (first
        | (go_at_call 146; refine (unhide HS1).mono ?_; rintro e w2 ⟨rfl, rfl⟩)
        | (go_at_call 147; refine (unhide HC1).mono ?_; rintro e w2 ⟨rfl, rfl⟩))
      clear HS1 HC1
      have cg := ints_own (own_base (unhide HO) (Nat.zero_le _))
      have HT1 := Tab.below h (unhide HB)
      go_loopw [6, 7, 32] (fun m s i wx => s = .slice none 0 0 ∧ ((m = .slice none 0 0 ∧ i = .int .i64 0 ∧ Hid (wx = wr)) ∨ (∃ g cap, m = .slice (some ⟨g, 0, none⟩) 1 cap ∧ i = .int .i64 1 ∧ Hid (wx.ownsRow w.heap.size 3 1 (.slice (some ⟨g, 0, none⟩) 1 cap) 1 (ints [(n : Int)])) ∧ Hid (Below w.heap.size w wx)))) (fun _ _ i _ => 1 - (intOf i).toNat)
      case atStart => exact ⟨rfl, .inl ⟨rfl, rfl, rfl⟩⟩
      case round =>
        obtain ⟨rfl, ⟨rfl, rfl, HW⟩ | ⟨g1, cap1, rfl, rfl, HO1, HB1⟩⟩ := hrel
        · have hW := unhide HW
          subst hW
          obtain ⟨gt, q2, a0, a1, a2, a3, a4⟩ := (unhide HT1).at hx
          have hiI : (n : Int) < (T.length : Int) := by omega
          have hi0 : (0 : Int) ≤ (n : Int) := by omega
          have hn0 : (x.1.kd == 0) = false := by simpa using h0
          clear HSP hne h0 hx
          generalize x.1.kd = xk at *
          generalize x.1.st = xs at *
          generalize x.1.fi = xf at *
          generalize x.1.se = xe at *
          generalize x.2 = xb at *
          obtain ⟨wm, hwm⟩ : ∃ wm, wr.alloc (.cells #[.int .i64 xk, .string xs, .int .i64 xf, .int .i64 xe, .bool xb] 120) = wm := ⟨_, rfl⟩
          have HBm : Hid (Below w.heap.size w wm) := by rw [← hwm]; exact (unhide HB).alloc (unhide HB).size _
          have HNm : Hid (wm.ownsRow w.heap.size 3 1 (.slice none 0 0) ([] : List Int).length (ints [])) := World.ownsRow_nil _ _ _ _
          have q0 : wm.cell? ⟨wr.heap.size, 0, none⟩ = some (.int .i64 xk) := by rw [← hwm]; exact cells_at rfl 0 rfl
          go_wp2_with (at_builtin; refine app_int w wm [] (.slice none 0 0) (n : Int) (.tmp 53) (.tmp 55) rfl rfl rfl rfl HNm HBm (by simp) ?_; intro v' w3 HO3 HB3; obtain ⟨ao, cap3, rfl, hv⟩ := own_view (unhide HO3); obtain ⟨g3, rfl, -⟩ := hv (by simp))
          go_roundw
          case rel => exact ⟨rfl, .inr ⟨g3, cap3, rfl, rfl, HO3, HB3⟩⟩
          case measure => simp [intOf]
        · go_wp2_with fail
          refine bodyPost_ret (v := .tuple #[.slice (some ⟨g1, 0, none⟩) 1 cap1, .slice none 0 0]) ?_ rfl ⟨g1, cap1, rfl, HO1, HB1⟩
          simp [results, Tryz.results85, go_sem]
end
end Go.Proofs.YtfolanohokflkabGreatDoor

/-
  any, all of one term that is a set.
-/
namespace Go.Proofs.YtfolanohokflkabGreatDoor
open Go.RowKit
theorem infoSet : (Tryz.prog.info? 49).map (fun i => (i.zero, i.size, i.bytes)) = some (some (.string ⟨#[]⟩), 1, 16) := by kernel_rfl
/-- 'sets = append(sets, s)', the first. -/
theorem app_set {ops : Array Oper} {rest : List Oper} {o : Oper} {a : Act} {Q : Exit → Act → World → Prop} (w wr : World) (z : ByteArray) (s x : Operand) (hg : o.guard = none)
    (hop : o.op = .call { callee := .builtin .append, args := #[s, x], argTypes := #[150, 150] }) (hs : a.eval s = .slice none 0 0) (hx : a.eval x = .slice (some ⟨wr.heap.size, 0, none⟩) 1 1)
    (hb : Hid (Below w.heap.size w wr))
    (K : ∀ g cap w', Hid (w'.ownsRow w.heap.size 49 1 (.slice (some ⟨g, 0, none⟩) 1 cap) 1 [.string z]) → Hid (Below w.heap.size w w') → wpList Tryz.prog ops Q rest (a.put o.dst (.slice (some ⟨g, 0, none⟩) 1 cap)) w') :
    wpList Tryz.prog ops Q (o :: rest) a (wr.alloc (.cells #[.string z] 49)) := by
  obtain ⟨i0, hi, hz0, hz1, hz2⟩ := info_parts infoSet
  have hb' : Below w.heap.size w wr := hb
  have := hb'.size
  have ho : wr.ownsRow w.heap.size 49 1 (.slice none 0 0) 0 [] := World.ownsRow_nil _ _ _ _
  refine wpList_append_own _ hg s x 150 hop w.heap.size 49 i0 (.string ⟨#[]⟩) 1 16 Tryz.underlying150 hi hz0 hz1 hz2 rfl (by decide) _ _ _ hs (ho.alloc _) ⟨wr.heap.size, 0, none⟩ 1 1 [.string z] hx rfl (cells_new wr [.string z] _) (c_one _ rfl) (by unfold maxLen; omega) (by omega) (by simp; omega) ?_
  intro v' w' h1 h2 _
  obtain ⟨ao, cap, rfl, hv⟩ := own_view h1
  obtain ⟨g, rfl, -⟩ := hv (by omega)
  exact K g cap w' h1 (below_append hb' ho h2 hb'.size)
section
variable {w : World} {t : TB} {T : List Te} {S C : List (Value × Value)}
set_option maxRecDepth 100000 in
set_option maxHeartbeats 4000000 in
/-- a member that is a set. -/
theorem members_set {n g0 cap0 : Nat} {k : Int} {x : Te} (h : Hid (Tab w t T (numPairs T) S C)) (hg : w.cell? ⟨g0, 0, none⟩ = some (.int .i64 (n : Int))) (hx : T[n]? = some x) (hne : x.1.kd ≠ k) (h0 : x.1.kd = 0) :
    Calls Tryz.prog 85 #[.pointer (some ⟨t.tb, 0, none⟩), .int .i64 k, .slice (some ⟨g0, 0, none⟩) 1 cap0] w fun e w' => ∃ g cap, e = .returned (.tuple #[.slice none 0 0, .slice (some ⟨g, 0, none⟩) 1 cap]) ∧ Hid (w'.ownsRow w.heap.size 49 1 (.slice (some ⟨g, 0, none⟩) 1 cap) 1 [.string x.1.st]) ∧ Hid (Below w.heap.size w w') := by
  have HSP := hide (spread_one h hx hne)
  have hlt := (List.getElem?_eq_some_iff.1 hx).1
  have HX := hide hx
  have HN0 : Hid (w.ownsRow w.heap.size 3 1 (.slice none 0 0) ([] : List Int).length (ints [])) := World.ownsRow_nil _ _ _ _
  go_enter Tryz.func85, Tryz.ntmps85
  go_wp2_with fail
  go_loopw [8, 16] (fun m i wr => (m = .slice none 0 0 ∧ i = .int .i64 0 ∧ Hid (wr = w)) ∨ (∃ g cap, m = .slice (some ⟨g, 0, none⟩) 1 cap ∧ i = .int .i64 1 ∧ Hid (wr.ownsRow w.heap.size 3 1 (.slice (some ⟨g, 0, none⟩) 1 cap) 1 (ints [(n : Int)])) ∧ Hid (Below w.heap.size w wr))) (fun _ i _ => 1 - (intOf i).toNat)
  case atStart => exact .inl ⟨rfl, rfl, rfl⟩
  case round =>
    rcases hrel with ⟨rfl, rfl, HW⟩ | ⟨g, cap, rfl, rfl, HO, HB⟩
    · obtain rfl : wr = w := unhide HW
      go_wp2_with (first
        | (go_at_call 145; refine (unhide HSP).mono ?_; clear HSP; rintro e w2 ⟨g2, cap2, rfl, HO2, HB2⟩; have HN2 : Hid (w2.ownsRow wr.heap.size 3 1 (.slice none 0 0) ([] : List Int).length (ints [])) := World.ownsRow_nil _ _ _ _; have HC2 : Hid (∀ j u, (ints [(n : Int)])[j]? = some u → w2.cell? ⟨g2, j, none⟩ = some u) := (fun j u hj => (by have hj0 : j < 1 := (by have := (List.getElem?_eq_some_iff.1 hj).1; simpa [ints] using this); obtain rfl : j = 0 := (by omega); have q := ints_own (own_base (unhide HO2) (Nat.zero_le _)); simp [ints] at hj; rw [← hj]; exact q)))
        | (at_builtin; refine app_ints wr w2 [] [(n : Int)] (.slice none 0 0) g2 cap2 (.tmp 20) (.tmp 24) rfl rfl rfl rfl HN2 HB2 HC2 (by simp) ?_; intro v' w3 HO3 HB3; obtain ⟨ao, cap3, rfl, hv⟩ := own_view (unhide HO3); obtain ⟨g3, rfl, -⟩ := hv (by simp)))
      go_roundw
      case rel => exact .inr ⟨g3, cap3, rfl, rfl, HO3, HB3⟩
      case measure => simp [intOf]
    · have HS1 := hide (sort_one wr (some ⟨g, 0, none⟩) cap)
      have HC1 := hide (compact_one wr (some ⟨g, 0, none⟩) cap)
      go_wp2_with (first
        | (go_at_call 146; refine (unhide HS1).mono ?_; rintro e w2 ⟨rfl, rfl⟩)
        | (go_at_call 147; refine (unhide HC1).mono ?_; rintro e w2 ⟨rfl, rfl⟩))
      clear HS1 HC1
      have cg := ints_own (own_base (unhide HO) (Nat.zero_le _))
      have HT1 := Tab.below h (unhide HB)
      go_loopw [6, 7, 32] (fun m s i wx => m = .slice none 0 0 ∧ ((s = .slice none 0 0 ∧ i = .int .i64 0 ∧ Hid (wx = wr)) ∨ (∃ g cap, s = .slice (some ⟨g, 0, none⟩) 1 cap ∧ i = .int .i64 1 ∧ Hid (wx.ownsRow w.heap.size 49 1 (.slice (some ⟨g, 0, none⟩) 1 cap) 1 [.string x.1.st]) ∧ Hid (Below w.heap.size w wx)))) (fun _ _ i _ => 1 - (intOf i).toNat)
      case atStart => exact ⟨rfl, .inl ⟨rfl, rfl, rfl⟩⟩
      case round =>
        obtain ⟨rfl, ⟨rfl, rfl, HW⟩ | ⟨g1, cap1, rfl, rfl, HO1, HB1⟩⟩ := hrel
        · have hW := unhide HW
          subst hW
          obtain ⟨gt, q2, a0, a1, a2, a3, a4⟩ := (unhide HT1).at hx
          have hiI : (n : Int) < (T.length : Int) := by omega
          have hi0 : (0 : Int) ≤ (n : Int) := by omega
          rw [h0] at a0
          clear HSP hne h0 hx
          generalize x.1.st = xs at *
          generalize x.1.fi = xf at *
          generalize x.1.se = xe at *
          generalize x.2 = xb at *
          obtain ⟨wm, hwm⟩ : ∃ wm, wr.alloc (.cells #[.int .i64 0, .string xs, .int .i64 xf, .int .i64 xe, .bool xb] 120) = wm := ⟨_, rfl⟩
          have HBm : Hid (Below w.heap.size w wm) := by rw [← hwm]; exact (unhide HB).alloc (unhide HB).size _
          have q0 : wm.cell? ⟨wr.heap.size, 0, none⟩ = some (.int .i64 0) := by rw [← hwm]; exact cells_at rfl 0 rfl
          have q1 : wm.cell? ⟨wr.heap.size, 1, none⟩ = some (.string xs) := by rw [← hwm]; exact cells_at rfl 1 rfl
          go_wp2_with (at_builtin; refine app_set w wm xs (.tmp 47) (.tmp 51) rfl rfl rfl rfl HBm ?_; intro g3 cap3 w3 HO3 HB3)
          go_roundw
          case rel => exact ⟨rfl, .inr ⟨g3, cap3, rfl, rfl, HO3, HB3⟩⟩
          case measure => simp [intOf]
        · go_wp2_with fail
          refine bodyPost_ret (v := .tuple #[.slice none 0 0, .slice (some ⟨g1, 0, none⟩) 1 cap1]) ?_ rfl ⟨g1, cap1, rfl, HO1, HB1⟩
          simp [results, Tryz.results85, go_sem]
set_option maxRecDepth 100000 in
set_option maxHeartbeats 4000000 in
theorem fold_one {g cap : Nat} {s : ByteArray} {v : Value} (hg : w.cell? ⟨g, 0, none⟩ = some (.string s)) (hc : 1 ≤ cap) :
    Calls Tryz.prog 86 #[.slice (some ⟨g, 0, none⟩) 1 cap, v] w fun e w' => e = .returned (.string s) ∧ w = w' := by
  have hc' : (1 : Int) ≤ (cap : Int) := by omega
  go_enter Tryz.func86, Tryz.ntmps86
  go_wp2_with fail
  all_goals
    go_loopw [5, 14] (fun m i wr => m = .string s ∧ i = .int .i64 0 ∧ Hid (w = wr)) (fun _ _ _ => 0)
    case atStart => exact ⟨rfl, rfl, rfl⟩
    case round =>
      obtain ⟨rfl, rfl, HW⟩ := hrel
      go_wp2_with fail
      go_ret
      exact ⟨rfl, HW⟩
end
end Go.Proofs.YtfolanohokflkabGreatDoor

/-
  join, any, all of one term.
-/
namespace Go.Proofs.YtfolanohokflkabGreatDoor
open Go.RowKit Go.Shelf
attribute [local go_sem] Oper.semAt_some
theorem own_cap {w : World} {B e size g n cap : Nat} {xs : List Value} (h : w.ownsRow B e size (.slice (some ⟨g, 0, none⟩) n cap) n xs) : n ≤ cap := by
  obtain ⟨hl, ⟨hv, _⟩ | ⟨g', cap', cur, hv, hb, hg, hn, rest⟩⟩ := h
  · cases hv
  · injection hv with _ _ e
    omega
/-- between two rounds (there are none). -/
def JnI (w : World) (n : Nat) (Bn : Nat) (_ : List (Fin 0)) (W : World) : Prop := Boxed W Bn 3 (.int .i64 (n : Int)) ∧ Below w.heap.size w W
set_option maxRecDepth 100000 in
set_option maxHeartbeats 4000000 in
theorem join_one {w : World} {g cap n : Nat} {k idle ruler : Int} {tv : Option Addr} (hg : w.cell? ⟨g, 0, none⟩ = some (.int .i64 (n : Int))) (hi : (n : Int) ≠ idle) (hr : (n : Int) ≠ ruler) (hcap : 1 ≤ cap) :
    Calls Tryz.prog 88 #[.pointer tv, .int .i64 k, .slice (some ⟨g, 0, none⟩) 1 cap, .int .i64 idle, .int .i64 ruler] w fun e w' => e = .returned (.int .i64 (n : Int)) ∧ Hid (Below w.heap.size w w') := by
  refine (callsIn_wide (n := 8)).1 ?_
  refine callsIn_of_wp_marks Tryz.func88 rfl trivial ?_ rfl
  simp only [Tryz.ntmps88, List.size_toArray, List.length_cons, List.length_nil, Nat.reduceAdd, Nat.reduceSub, Array.replicate_succ, Array.replicate_zero, List.push_toArray, List.append_toArray, List.nil_append, List.cons_append]
  have HBK := hide (fun a ln cap W => bk_in 7 a ln cap W)
  have hf : Fence.wide.fn 90 := trivial
  have hf2 : Fence.wide.fn 150 := trivial
  have hf3 : Fence.wide.fn 152 := trivial
  have hc' : (1 : Int) ≤ (cap : Int) := by omega
  have hlg := World.block_lt_of_cell? w _ hg
  have HDEL := hide (fun (W : World) (kk : Nat) (h1 : W.cell? ⟨g, 0, none⟩ = some (.int .i64 (n : Int))) (h2 : W.cell? ⟨kk, 0, none⟩ = some (.int .i64 idle)) => (callsIn_wide (n := 7)).2 (delete_one (cap := cap) h1 h2 hi))
  have HCON := hide (fun (W : World) (h1 : W.cell? ⟨g, 0, none⟩ = some (.int .i64 (n : Int))) => (callsIn_wide (n := 7)).2 (contains_one (cap := cap) h1 hr))
  obtain ⟨W3, hW3⟩ : ∃ W3, ((w.alloc (.cells #[.pointer tv] 59)).alloc (.cells #[.int .i64 k] 97)).alloc (.cells #[.int .i64 idle] 3) = W3 := ⟨_, rfl⟩
  have s1 : (w.alloc (.cells #[.pointer tv] 59)).heap.size = w.heap.size + 1 := by simp
  have s2 : ((w.alloc (.cells #[.pointer tv] 59)).alloc (.cells #[.int .i64 k] 97)).heap.size = w.heap.size + 1 + 1 := by simp
  have s3 : W3.heap.size = w.heap.size + 3 := by rw [← hW3]; simp
  have HB3 : Hid (Below w.heap.size w W3) := by rw [← hW3]; exact (((Below.refl _ w).alloc (Nat.le_refl _) _).alloc (by rw [s1]; omega) _).alloc (by rw [s2]; omega) _
  have cg : W3.cell? ⟨g, 0, none⟩ = some (.int .i64 (n : Int)) := ((unhide HB3).cell (p := ⟨g, 0, none⟩) hlg).trans hg
  have ck : W3.cell? ⟨w.heap.size + 1 + 1, 0, none⟩ = some (.int .i64 idle) := by rw [← hW3, ← s2]; exact cells_at rfl 0 rfl
  clear hg s1 s2
  gi_wp2_with (first
    | (gi_at_call 150; refine (unhide HDEL _ _ cg ck).mono ?_; rintro e w1 ⟨rfl, rfl⟩)
    | (gi_at_call 152; refine (unhide HCON _ cg).mono ?_; rintro e w1 ⟨rfl, rfl⟩)
    | (gi_at_call 90; refine (unhide HBK _ _ _ _).mono ?_; rintro e w1 ⟨rfl, rfl⟩))
  have bN := (Boxed.new W3 3 (.int .i64 (n : Int))).alloc (.cells #[.slice (some ⟨g, 0, none⟩) 0 cap] 71)
  have s4 : (W3.alloc (.cells #[.int .i64 (n : Int)] 3)).heap.size = w.heap.size + 3 + 1 := by rw [World.size_alloc, s3]
  have bS := Boxed.new (W3.alloc (.cells #[.int .i64 (n : Int)] 3)) 71 (.slice (some ⟨g, 0, none⟩) 0 cap)
  rw [s4] at bS
  rw [s3] at bN
  have HB5 : Hid (Below w.heap.size w ((W3.alloc (.cells #[.int .i64 (n : Int)] 3)).alloc (.cells #[.slice (some ⟨g, 0, none⟩) 0 cap] 71))) := ((unhide HB3).alloc (by omega) _).alloc (by rw [s4]; omega) _
  have hsz : ((W3.alloc (.cells #[.int .i64 (n : Int)] 3)).alloc (.cells #[.slice (some ⟨g, 0, none⟩) 0 cap] 71)).heap.size = w.heap.size + 5 := by rw [World.size_alloc, s4]
  obtain ⟨W5, hW5⟩ : ∃ W5, (W3.alloc (.cells #[.int .i64 (n : Int)] 3)).alloc (.cells #[.slice (some ⟨g, 0, none⟩) 0 cap] 71) = W5 := ⟨_, rfl⟩
  rw [hW5] at bN bS HB5 hsz ⊢
  clear hW5 hW3 s4
  have hkl : ∀ k, (k = g ∨ k = w.heap.size + 3 + 1) → k < W5.heap.size := fun k hk => by rw [hsz]; omega
  have hseq := bk_stops 7 (by omega) (w.heap.size + 3 + 1) (fun k => k = g ∨ k = w.heap.size + 3 + 1) (.slice (some ⟨g, 0, none⟩) 0 cap) [] (by simp) W5 (.inr rfl) hkl bS.cell (.inr ⟨g, cap, rfl, .inl rfl, fun j hj => by simp at hj⟩)
  refine wpIn_rangeFunc_ownH rfl (by omega) (gf := 154) (lb := #[.pointer (some ⟨w.heap.size + 3 + 1, 0, none⟩)]) rfl trivial (enters_of Tryz.func154 (by kernel_rfl) rfl)
    hseq KpR.trans (fun W l o o' hl ho hc1 hc2 => ⟨by simp, fun k hk hkl' => by
      have := hkl k hk
      exact (grownBy_putObj' W l o').block k hkl' (fun e => by cases e; omega)⟩) (Below.refl _ _) (fun _ => rfl)
    (JnI w n (w.heap.size + 3)) (fun _ _ _ => False)
    ?own (fun _ _ _ _ _ hs _ _ => hs) ⟨bN, unhide HB5⟩ (fun _ _ _ => False) (fun _ _ _ _ _ _ hs _ _ => hs)
    ?assign ?body ?done ?stop
  case own =>
    rintro s W W' row ⟨h1, h2⟩ hg hr
    refine ⟨h1.kept hg (fun er => ?_), hg.os.trans h2.os, hg.tape.trans h2.tape, hg.output.trans h2.output, Nat.le_trans h2.size hg.size, fun k hk => (hg.block k (by have := h2.size; omega) (fun er => ?_)).trans (h2.block k hk)⟩
    · obtain ⟨_, o, ho, hcs⟩ := hr _ er.symm
      rw [show W.heap[w.heap.size + 3]? = _ from h1] at ho
      cases ho
      cases hcs
    · have := (hr _ er.symm).1
      omega
  case assign => exact fun l pre x => x.elim0
  case body => exact fun l pre x => x.elim0
  case done =>
    rintro D ys W hD rfl ⟨b4, hB⟩ hK
    have cN := b4.cell
    gi_wp2
    refine ⟨by simp, .inl ⟨_, _, rfl, run_takeDeferred hK, ?_⟩⟩
    have hg2 := grownBy_putObj' W D (.deferred none)
    refine ⟨_, results_tmp rfl _ _ _, rfl, hide ⟨hg2.os.trans hB.os, hg2.tape.trans hB.tape, hg2.output.trans hB.output, Nat.le_trans hB.size hg2.size, fun k hk => (hg2.block k (by have := hB.size; omega) (fun e => by cases e; omega)).trans (hB.block k hk)⟩⟩
  case stop =>
    rintro D c pre W _ _ hF _
    exact hF.elim
section
variable {w : World} {t : TB} {T : List Te} {S C : List (Value × Value)}
/-- of one member that is of no such kind: that one. -/
theorem kind_ne {a b : Int} (h : a ≠ b) : (a == b) = false := by simpa using h
set_option maxRecDepth 100000 in
set_option maxHeartbeats 4000000 in
theorem any_one {n g0 cap0 : Nat} {x : Te} (h : Hid (Tab w t T (numPairs T) S C)) (hg : w.cell? ⟨g0, 0, none⟩ = some (.int .i64 (n : Int))) (hx : T[n]? = some x) (h4 : x.1.kd ≠ 4) (h0 : x.1.kd ≠ 0) (hn0 : n ≠ 0) (hn2 : n ≠ 2) :
    Calls Tryz.prog 50 #[.pointer (some ⟨t.tb, 0, none⟩), .slice (some ⟨g0, 0, none⟩) 1 cap0] w (TOut (T, n) w t S C) := by
  have HM := hide (members_one (cap0 := cap0) h hg hx h4 h0)
  have HJ := hide (fun (W : World) (g cap : Nat) (h1 : W.cell? ⟨g, 0, none⟩ = some (.int .i64 (n : Int))) (h2 : 1 ≤ cap) => join_one (w := W) (g := g) (cap := cap) (n := n) (k := 4) (idle := 0) (ruler := 2) (tv := some ⟨t.tb, 0, none⟩) h1 (by omega) (by omega) h2)
  have HT := h
  clear h hg hx h4 h0
  go_enter Tryz.func50, Tryz.ntmps50
  go_wp2_with (first
    | (go_at_call 85; refine (unhide HM).mono ?_; clear HM; rintro e w2 ⟨g2, cap2, rfl, HO2, HB2⟩; have c2 := ints_own (own_base (unhide HO2) (Nat.zero_le _)); have k2 := own_cap (unhide HO2))
    | (go_at_call 88; refine (unhide HJ _ _ _ c2 k2).mono ?_; clear HJ; rintro e w3 ⟨rfl, HB3⟩))
  go_ret
  have hb := (unhide HB2).trans ((unhide HB3).mono (unhide HB2).size)
  exact ⟨rfl, t, Tab.below HT hb, hide (TFr.below hb)⟩
set_option maxRecDepth 100000 in
set_option maxHeartbeats 4000000 in
theorem all_one {n g0 cap0 : Nat} {x : Te} (h : Hid (Tab w t T (numPairs T) S C)) (hg : w.cell? ⟨g0, 0, none⟩ = some (.int .i64 (n : Int))) (hx : T[n]? = some x) (h4 : x.1.kd ≠ 5) (h0 : x.1.kd ≠ 0) (hn0 : n ≠ 0) (hn2 : n ≠ 2) :
    Calls Tryz.prog 51 #[.pointer (some ⟨t.tb, 0, none⟩), .slice (some ⟨g0, 0, none⟩) 1 cap0] w (TOut (T, n) w t S C) := by
  have HM := hide (members_one (cap0 := cap0) h hg hx h4 h0)
  have HJ := hide (fun (W : World) (g cap : Nat) (h1 : W.cell? ⟨g, 0, none⟩ = some (.int .i64 (n : Int))) (h2 : 1 ≤ cap) => join_one (w := W) (g := g) (cap := cap) (n := n) (k := 5) (idle := 2) (ruler := 0) (tv := some ⟨t.tb, 0, none⟩) h1 (by omega) (by omega) h2)
  have HT := h
  clear h hg hx h4 h0
  go_enter Tryz.func51, Tryz.ntmps51
  go_wp2_with (first
    | (go_at_call 85; refine (unhide HM).mono ?_; clear HM; rintro e w2 ⟨g2, cap2, rfl, HO2, HB2⟩; have c2 := ints_own (own_base (unhide HO2) (Nat.zero_le _)); have k2 := own_cap (unhide HO2))
    | (go_at_call 88; refine (unhide HJ _ _ _ c2 k2).mono ?_; clear HJ; rintro e w3 ⟨rfl, HB3⟩))
  go_ret
  have hb := (unhide HB2).trans ((unhide HB3).mono (unhide HB2).size)
  exact ⟨rfl, t, Tab.below HT hb, hide (TFr.below hb)⟩
end
end Go.Proofs.YtfolanohokflkabGreatDoor

/-
  any, all of one set.
-/
namespace Go.Proofs.YtfolanohokflkabGreatDoor
open Go.RowKit
section
variable {w : World} {t : TB} {T : List Te} {S C : List (Value × Value)}
theorem set_own {w : World} {B g cap : Nat} {s : ByteArray} (h : w.ownsRow B 49 1 (.slice (some ⟨g, 0, none⟩) 1 cap) 1 [.string s]) : w.cell? ⟨g, 0, none⟩ = some (.string s) := by
  obtain ⟨ao, cap', e, hv⟩ := own_view h
  injection e with e1
  obtain ⟨g', e2, -, -, hc, -⟩ := hv (by omega)
  rw [e2] at e1
  injection e1 with e1
  injection e1 with e1
  subst e1
  exact hc 0 (by omega)
theorem setP_old {n : Nat} {s : ByteArray} {b : Bool} (hnd : (T.map (·.1)).Nodup) (hx : T[n]? = some (setK s, b)) : setP T s = (T, n) := by
  unfold setP
  rcases keepP_cases T (setK s) with ⟨i, b', hi, e⟩ | ⟨hno, _⟩
  · rw [e]
    have h1 : (T.map (·.1))[i]? = some (setK s) := by rw [List.getElem?_map, hi]; rfl
    have h2 : (T.map (·.1))[n]? = some (setK s) := by rw [List.getElem?_map, hx]; rfl
    have a1 := (List.getElem?_eq_some_iff.1 h1).1
    rw [(List.getElem?_inj a1 hnd).1 (h1.trans h2.symm)]
  · exact absurd rfl (hno _ (List.mem_iff_getElem?.2 ⟨n, hx⟩))
set_option maxRecDepth 100000 in
set_option maxHeartbeats 4000000 in
theorem any_set {n g0 cap0 : Nat} {s : ByteArray} {b : Bool} (h : Hid (Tab w t T (numPairs T) S C)) (hg : w.cell? ⟨g0, 0, none⟩ = some (.int .i64 (n : Int))) (hx : T[n]? = some (setK s, b)) (hs : s.size ≤ maxLen) (hl : T.length ≤ LIM) (hn0 : n ≠ 0) (hn2 : n ≠ 2) :
    Calls Tryz.prog 50 #[.pointer (some ⟨t.tb, 0, none⟩), .slice (some ⟨g0, 0, none⟩) 1 cap0] w (TOut (T, n) w t S C) := by
  have HM := hide (members_set (cap0 := cap0) (k := 4) h hg hx (by show (0 : Int) ≠ 4; omega) rfl)
  have hsp := setP_old (unhide h).nd hx
  have HS := hide (fun (W : World) (hb : Below w.heap.size w W) => set_any (S := S) (C := C) (s := s) (Tab.below h hb) hs (by rw [hsp]; exact hl))
  rw [hsp] at HS
  have HF := hide (fun (W : World) (g cap : Nat) (v : Value) (h1 : W.cell? ⟨g, 0, none⟩ = some (.string s)) (h2 : 1 ≤ cap) => fold_one (w := W) (v := v) h1 h2)
  have HJ := hide (fun (W : World) (g cap : Nat) (h1 : W.cell? ⟨g, 0, none⟩ = some (.int .i64 (n : Int))) (h2 : 1 ≤ cap) => join_one (w := W) (g := g) (cap := cap) (n := n) (k := 4) (idle := 0) (ruler := 2) (tv := some ⟨t.tb, 0, none⟩) h1 (by omega) (by omega) h2)
  rw [show (setK s).st = s from rfl] at HM
  clear h hg hx hs hl hsp
  go_enter Tryz.func50, Tryz.ntmps50
  go_wp2_with (first
    | (go_at_call 85; refine (unhide HM).mono ?_; clear HM; rintro e w2 ⟨g2, cap2, rfl, HO2, HB2⟩; have c2 := set_own (unhide HO2); have k2 := own_cap (unhide HO2); have HS2 := hide (unhide HS w2 (unhide HB2)))
    | (go_at_call 86; refine (unhide HF _ _ _ _ c2 k2).mono ?_; rintro e w3 ⟨rfl, rfl⟩)
    | (go_at_call 55; refine (unhide HS2).mono ?_; clear HS2; rintro e w4 ⟨rfl, t4, HT4, HF4⟩; have HN4 : Hid (w4.ownsRow w4.heap.size 3 1 (.slice none 0 0) ([] : List Int).length (ints [])) := World.ownsRow_nil _ _ _ _; have HB4 : Hid (Below w4.heap.size w4 w4) := Below.refl _ _)
    | (at_builtin; refine app_int w4 w4 [] (.slice none 0 0) (n : Int) (.tmp 16) (.tmp 21) rfl rfl rfl rfl HN4 HB4 (by simp) ?_; intro v' w5 HO5 HB5; obtain ⟨ao, cap5, rfl, hv⟩ := own_view (unhide HO5); obtain ⟨g5, rfl, -⟩ := hv (by simp); have c5 := ints_own (own_base (unhide HO5) (Nat.zero_le _)); have k5 := own_cap (unhide HO5))
    | (go_at_call 88; refine (unhide HJ _ _ _ c5 k5).mono ?_; clear HJ; rintro e w6 ⟨rfl, HB6⟩))
  go_ret
  have hb := (unhide HB5).trans ((unhide HB6).mono (unhide HB5).size)
  exact ⟨rfl, t4, Tab.below HT4 hb, hide ((TFr.below (unhide HB2)).trans ((unhide HF4).trans (TFr.below hb)))⟩
set_option maxRecDepth 100000 in
set_option maxHeartbeats 4000000 in
theorem all_set {n g0 cap0 : Nat} {s : ByteArray} {b : Bool} (h : Hid (Tab w t T (numPairs T) S C)) (hg : w.cell? ⟨g0, 0, none⟩ = some (.int .i64 (n : Int))) (hx : T[n]? = some (setK s, b)) (hs : s.size ≤ maxLen) (hl : T.length ≤ LIM) (hn0 : n ≠ 0) (hn2 : n ≠ 2) :
    Calls Tryz.prog 51 #[.pointer (some ⟨t.tb, 0, none⟩), .slice (some ⟨g0, 0, none⟩) 1 cap0] w (TOut (T, n) w t S C) := by
  have HM := hide (members_set (cap0 := cap0) (k := 5) h hg hx (by show (0 : Int) ≠ 5; omega) rfl)
  have hsp := setP_old (unhide h).nd hx
  have HS := hide (fun (W : World) (hb : Below w.heap.size w W) => set_any (S := S) (C := C) (s := s) (Tab.below h hb) hs (by rw [hsp]; exact hl))
  rw [hsp] at HS
  have HF := hide (fun (W : World) (g cap : Nat) (v : Value) (h1 : W.cell? ⟨g, 0, none⟩ = some (.string s)) (h2 : 1 ≤ cap) => fold_one (w := W) (v := v) h1 h2)
  have HJ := hide (fun (W : World) (g cap : Nat) (h1 : W.cell? ⟨g, 0, none⟩ = some (.int .i64 (n : Int))) (h2 : 1 ≤ cap) => join_one (w := W) (g := g) (cap := cap) (n := n) (k := 5) (idle := 2) (ruler := 0) (tv := some ⟨t.tb, 0, none⟩) h1 (by omega) (by omega) h2)
  rw [show (setK s).st = s from rfl] at HM
  clear h hg hx hs hl hsp
  go_enter Tryz.func51, Tryz.ntmps51
  go_wp2_with (first
    | (go_at_call 85; refine (unhide HM).mono ?_; clear HM; rintro e w2 ⟨g2, cap2, rfl, HO2, HB2⟩; have c2 := set_own (unhide HO2); have k2 := own_cap (unhide HO2); have HS2 := hide (unhide HS w2 (unhide HB2)))
    | (go_at_call 86; refine (unhide HF _ _ _ _ c2 k2).mono ?_; rintro e w3 ⟨rfl, rfl⟩)
    | (go_at_call 55; refine (unhide HS2).mono ?_; clear HS2; rintro e w4 ⟨rfl, t4, HT4, HF4⟩; have HN4 : Hid (w4.ownsRow w4.heap.size 3 1 (.slice none 0 0) ([] : List Int).length (ints [])) := World.ownsRow_nil _ _ _ _; have HB4 : Hid (Below w4.heap.size w4 w4) := Below.refl _ _)
    | (at_builtin; refine app_int w4 w4 [] (.slice none 0 0) (n : Int) (.tmp 16) (.tmp 21) rfl rfl rfl rfl HN4 HB4 (by simp) ?_; intro v' w5 HO5 HB5; obtain ⟨ao, cap5, rfl, hv⟩ := own_view (unhide HO5); obtain ⟨g5, rfl, -⟩ := hv (by simp); have c5 := ints_own (own_base (unhide HO5) (Nat.zero_le _)); have k5 := own_cap (unhide HO5))
    | (go_at_call 88; refine (unhide HJ _ _ _ c5 k5).mono ?_; clear HJ; rintro e w6 ⟨rfl, HB6⟩))
  go_ret
  have hb := (unhide HB5).trans ((unhide HB6).mono (unhide HB5).size)
  exact ⟨rfl, t4, Tab.below HT4 hb, hide ((TFr.below (unhide HB2)).trans ((unhide HF4).trans (TFr.below hb)))⟩
end
end Go.Proofs.YtfolanohokflkabGreatDoor
