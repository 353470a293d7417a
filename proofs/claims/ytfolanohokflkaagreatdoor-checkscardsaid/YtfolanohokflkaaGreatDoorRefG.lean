import Derived.Test.YtfolanohokflkaaGreatDoorRefC
import Derived.Test.YtfolanohokflkaaGreatDoorOwn
import Derived.WalkKit
import Derived.WalkSpells
import Derived.WalkLawsBesides
namespace Go.Proofs.YtfolanohokflkaaGreatDoor
open Go.RowKit

def IsBool (e : Ending) : Prop := ∃ b, e = .returned (.bool b)

set_option maxRecDepth 100000 in
set_option maxHeartbeats 1000000 in
theorem refIn_any (l : List (Int × Int)) (v : Value) (c : Int) (w : World) (hl : l.length ≤ 1000000) (ho : w.ownsRow 0 215 2 v l.length (spanCells l)) :
    Calls Tryz.prog 195 #[v, .int .i64 c] w fun e w' => IsBool e ∧ Below w.heap.size w w' := by
  obtain ⟨ao, cap, rfl, hv⟩ := own_view ho
  have HV := hide hv
  clear hv ho
  go_enter Tryz.func195, Tryz.ntmps195
  go_wp2_with fail
  go_loop [5] (fun i => ∃ k : Nat, k ≤ l.length ∧ i = .int .i64 k) (fun i => l.length - (intOf i).toNat)
  case atStart => exact ⟨0, Nat.zero_le _, rfl⟩
  case round =>
    obtain ⟨k, hk, rfl⟩ := hrel
    by_cases hlt : k < l.length
    · obtain ⟨g, rfl, -, hg, hc, -⟩ := unhide HV (by omega)
      have h1 := hc (k * 2) (by omega)
      have h2 := hc (k * 2 + 1) (by omega)
      rw [spanCells_lo l k hlt] at h1
      rw [spanCells_hi l k hlt] at h2
      clear hc HV
      generalize (l.getD k (0, 0)).1 = lo at h1
      generalize (l.getD k (0, 0)).2 = hi at h2
      go_wp2_with fail
      · go_ret
        exact ⟨⟨_, rfl⟩, Below.refl _ _⟩
      all_goals
        go_round
        case rel => exact ⟨k + 1, by omega, by go_num⟩
        case measure => simp [intOf]; omega
    · go_wp2_with fail
      go_ret
      exact ⟨⟨_, rfl⟩, Below.refl _ _⟩

def ints (zs : List Int) : List Value := zs.map (Value.int .i64)
theorem ints_length (zs : List Int) : (ints zs).length = zs.length * 1 := by simp [ints]
theorem ints_at (zs : List Int) (i : Nat) (h : i < zs.length) : (ints zs)[i]? = some (.int .i64 (zs.getD i 0)) := by simp [ints, h]
theorem ints_snoc (zs : List Int) (z : Int) : ints (zs ++ [z]) = ints zs ++ [.int .i64 z] := by simp [ints]
theorem infoInt : (Tryz.prog.info? 3).map (fun i => (i.zero, i.size, i.bytes)) = some (some (.int .i64 0), 1, 8) := by kernel_rfl
theorem c_one (z : Value) (h : z.oneCell' = true) : ∀ u ∈ [z], u.oneCell' = true := by intro u hu; simp at hu; subst hu; exact h

/-- 'm = append(m, z)', m a slice of numbers of the call's own. -/
theorem app_int {ops : Array Oper} {rest : List Oper} {o : Oper} {a : Act} {Q : Exit → Act → World → Prop} (w wr : World) (zs : List Int) (v : Value) (z : Int) (s x : Operand) (hg : o.guard = none)
    (hop : o.op = .call { callee := .builtin .append, args := #[s, x], argTypes := #[31, 31] }) (hs : a.eval s = v) (hx : a.eval x = .slice (some ⟨wr.heap.size, 0, none⟩) 1 1)
    (ho : Hid (wr.ownsRow w.heap.size 3 1 v zs.length (ints zs))) (hb : Hid (Below w.heap.size w wr)) (hl : zs.length ≤ 2000000)
    (K : ∀ v' w', Hid (w'.ownsRow w.heap.size 3 1 v' (zs ++ [z]).length (ints (zs ++ [z]))) → Hid (Below w.heap.size w w') → wpList Tryz.prog ops Q rest (a.put o.dst v') w') :
    wpList Tryz.prog ops Q (o :: rest) a (wr.alloc (.cells #[.int .i64 z] 3)) := by
  obtain ⟨i0, hi, hz0, hz1, hz2⟩ := info_parts infoInt
  have hb' : Below w.heap.size w wr := hb
  have := hb'.size
  refine wpList_append_own _ hg s x 31 hop w.heap.size 3 i0 (.int .i64 0) 1 8 Tryz.underlying31 hi hz0 hz1 hz2 rfl (by decide) _ _ _ hs ((unhide ho).alloc _) ⟨wr.heap.size, 0, none⟩ 1 1 [.int .i64 z] hx rfl (cells_new wr [.int .i64 z] _) (c_one _ rfl) (by unfold maxLen; omega) (by omega) (by simp; omega) ?_
  intro v' w' h1 h2 _
  refine K v' w' ?_ (below_append hb ho h2 hb'.size)
  show w'.ownsRow _ _ _ _ _ _
  rw [ints_snoc, List.length_append]; exact h1

/-- what the list functions of numbers answer: a slice of numbers, no longer than told; nothing below has turned. -/
def IntsUpTo (w : World) (n : Nat) (e : Ending) (w' : World) : Prop := ∃ v' zs', e = .returned v' ∧ w'.ownsRow 0 3 1 v' (List.length zs') (ints zs') ∧ zs'.length ≤ n ∧ Below w.heap.size w w'
/-- the relation of placed's loop. -/
def PlacedRel (w wr : World) (v : Value) (k : Nat) (b : Bool) : Prop := ∃ zs : List Int, zs.length ≤ k + b.toNat ∧ wr.ownsRow w.heap.size 3 1 v zs.length (ints zs) ∧ Below w.heap.size w wr
theorem PlacedRel.mk {w wr : World} {v : Value} {k : Nat} {b : Bool} {zs : List Int} (h : zs.length ≤ k + b.toNat) (ho : Hid (wr.ownsRow w.heap.size 3 1 v zs.length (ints zs))) (hb : Hid (Below w.heap.size w wr)) : Hid (PlacedRel w wr v k b) := ⟨zs, h, ho, hb⟩
end Go.Proofs.YtfolanohokflkaaGreatDoor

namespace Go.Proofs.YtfolanohokflkaaGreatDoor
open Go.RowKit

set_option maxRecDepth 100000 in
set_option maxHeartbeats 2000000 in
theorem refPlaced_gap (zs : List Int) (v : Value) (c : Int) (w : World) (hl : zs.length ≤ 1000000) (ho : w.ownsRow 0 3 1 v zs.length (ints zs)) (h1 : 55296 ≤ c) (h2 : c ≤ 57343) :
    Calls Tryz.prog 141 #[v, .int .i64 c] w (IntsUpTo w (zs.length + 1)) := by
  have HO := hide ho
  obtain ⟨ao, cap, rfl, hv⟩ := own_view ho
  have HV := hide hv
  clear hv ho
  go_enter Tryz.func141, Tryz.ntmps141
  go_wp2_with fail
  go_loopw [5, 6, 7] (fun m dn i wr => ∃ (k : Nat) (b : Bool), k ≤ zs.length ∧ i = .int .i64 k ∧ dn = .bool b ∧ Hid (PlacedRel w wr m k b)) (fun _ _ i _ => zs.length - (intOf i).toNat)
  case atStart => exact ⟨0, false, Nat.zero_le _, rfl, rfl, ⟨[], Nat.le_refl _, World.ownsRow_nil _ _ _ _, Below.refl _ _⟩⟩
  case round =>
    obtain ⟨k, b, hk, rfl, rfl, HR⟩ := hrel
    obtain ⟨ys, hys, hown, hbel⟩ := unhide HR
    have HW := hide hown
    have HB := hide hbel
    have hb1 : b.toNat ≤ 1 := by cases b <;> simp
    by_cases hlt : k < zs.length
    · obtain ⟨g, rfl, -, hg, hc, -⟩ := unhide HV (by omega)
      have h1 := hc k (by omega)
      rw [ints_at zs k hlt, ← hbel.cell (p := ⟨g, k, none⟩) hg] at h1
      clear hc HV hown hbel HR
      generalize zs.getD k 0 = z at h1
      by_cases he : z = (57344 : Int)
      · have he' : (z == (57344 : Int)) = true := by simp [he]
        clear he
        go_wp2_with fail
        go_ret
        exact ⟨_, zs, rfl, own_below (unhide HO) (unhide HB) (Nat.le_refl _), by omega, unhide HB⟩
      · have he' : (z == (57344 : Int)) = false := by simp [he]
        clear he
        by_cases hcond : (57344 : Int) < z ∧ b = false
        · obtain ⟨hgt, rfl⟩ := hcond
          simp only [Bool.toNat_false] at hys hb1
          go_wp2_with (first
            | (at_builtin; refine app_int w wr ys _ (57344 : Int) (.tmp 40) (.tmp 42) rfl rfl rfl rfl HW HB (by omega) ?_; intro v1 w1 HW1 HB1; have h1' : w1.cell? ⟨g, k, none⟩ = some (.int .i64 z) := (by rw [(unhide HB1).cell (p := ⟨g, k, none⟩) hg, ← (unhide HB).cell (p := ⟨g, k, none⟩) hg]; exact h1); have hy1 : (ys ++ [(57344 : Int)]).length ≤ k + 1 := (by simp; omega); clear h1 HW HB; generalize ys ++ [(57344 : Int)] = ys1 at HW1 hy1)
            | (at_builtin; refine app_int w w1 ys1 _ z (.tmp 44) (.tmp 49) rfl rfl rfl rfl HW1 HB1 (by omega) ?_; intro v2 w2 HW2 HB2))
          have HX := PlacedRel.mk (b := true) (k := k + 1) (by simp; omega) HW2 HB2
          clear HW1 HB1 HW2 HB2
          go_wp2_with fail
          go_roundw
          case rel => exact ⟨k + 1, true, by omega, by go_num, rfl, HX⟩
          case measure => simp [intOf]; omega
        · by_cases hgt : (57344 : Int) < z
          · obtain rfl : b = true := by cases b; exact absurd ⟨hgt, rfl⟩ hcond; rfl
            clear hcond
            simp only [Bool.toNat_true] at hys hb1
            go_wp2_with (at_builtin; refine app_int w wr ys _ z (.tmp 44) (.tmp 49) rfl rfl rfl rfl HW HB (by omega) ?_; intro v2 w2 HW2 HB2)
            have HX := PlacedRel.mk (b := true) (k := k + 1) (by simp; omega) HW2 HB2
            clear HW2 HB2 HW HB
            go_wp2_with fail
            go_roundw
            case rel => exact ⟨k + 1, true, by omega, by go_num, rfl, HX⟩
            case measure => simp [intOf]; omega
          · clear hcond
            have hgt' : decide ((57344 : Int) < z) = false := by simpa using hgt
            go_wp2_with (at_builtin; refine app_int w wr ys _ z (.tmp 44) (.tmp 49) rfl rfl rfl rfl HW HB (by omega) ?_; intro v2 w2 HW2 HB2)
            have HX := PlacedRel.mk (b := b) (k := k + 1) (by simp; omega) HW2 HB2
            clear HW2 HB2 HW HB
            go_wp2_with fail
            go_roundw
            case rel => exact ⟨k + 1, b, by omega, by go_num, rfl, HX⟩
            case measure => simp [intOf]; omega
    · clear hown hbel HR
      cases b
      · simp only [Bool.toNat_false] at hys hb1
        go_wp2_with (at_builtin; refine app_int w wr ys _ (57344 : Int) (.tmp 53) (.tmp 55) rfl rfl rfl rfl HW HB (by omega) ?_; intro v1 w1 HW1 HB1)
        have hy1 : (ys ++ [(57344 : Int)]).length ≤ zs.length + 1 := by simp; omega
        clear HW HB
        generalize ys ++ [(57344 : Int)] = ys1 at HW1 hy1
        go_wp2_with fail
        go_ret
        exact ⟨_, ys1, rfl, own_base (unhide HW1) (Nat.zero_le _), hy1, unhide HB1⟩
      · simp only [Bool.toNat_true] at hys hb1
        go_wp2_with fail
        go_ret
        exact ⟨_, ys, rfl, own_base (unhide HW) (Nat.zero_le _), by omega, unhide HB⟩

set_option maxRecDepth 100000 in
set_option maxHeartbeats 2000000 in
theorem refPlaced_lo (zs : List Int) (v : Value) (c : Int) (w : World) (hl : zs.length ≤ 1000000) (ho : w.ownsRow 0 3 1 v zs.length (ints zs)) (h1 : c < 55296) :
    Calls Tryz.prog 141 #[v, .int .i64 c] w (IntsUpTo w (zs.length + 1)) := by
  have HO := hide ho
  obtain ⟨ao, cap, rfl, hv⟩ := own_view ho
  have HV := hide hv
  clear hv ho
  go_enter Tryz.func141, Tryz.ntmps141
  go_wp2_with fail
  go_loopw [5, 6, 7] (fun m dn i wr => ∃ (k : Nat) (b : Bool), k ≤ zs.length ∧ i = .int .i64 k ∧ dn = .bool b ∧ Hid (PlacedRel w wr m k b)) (fun _ _ i _ => zs.length - (intOf i).toNat)
  case atStart => exact ⟨0, false, Nat.zero_le _, rfl, rfl, ⟨[], Nat.le_refl _, World.ownsRow_nil _ _ _ _, Below.refl _ _⟩⟩
  case round =>
    obtain ⟨k, b, hk, rfl, rfl, HR⟩ := hrel
    obtain ⟨ys, hys, hown, hbel⟩ := unhide HR
    have HW := hide hown
    have HB := hide hbel
    have hb1 : b.toNat ≤ 1 := by cases b <;> simp
    by_cases hlt : k < zs.length
    · obtain ⟨g, rfl, -, hg, hc, -⟩ := unhide HV (by omega)
      have h1 := hc k (by omega)
      rw [ints_at zs k hlt, ← hbel.cell (p := ⟨g, k, none⟩) hg] at h1
      clear hc HV hown hbel HR
      generalize zs.getD k 0 = z at h1
      by_cases he : z = c
      · have he' : (z == c) = true := by simp [he]
        clear he
        go_wp2_with fail
        go_ret
        exact ⟨_, zs, rfl, own_below (unhide HO) (unhide HB) (Nat.le_refl _), by omega, unhide HB⟩
      · have he' : (z == c) = false := by simp [he]
        clear he
        by_cases hcond : c < z ∧ b = false
        · obtain ⟨hgt, rfl⟩ := hcond
          simp only [Bool.toNat_false] at hys hb1
          go_wp2_with (first
            | (at_builtin; refine app_int w wr ys _ c (.tmp 40) (.tmp 42) rfl rfl rfl rfl HW HB (by omega) ?_; intro v1 w1 HW1 HB1; have h1' : w1.cell? ⟨g, k, none⟩ = some (.int .i64 z) := (by rw [(unhide HB1).cell (p := ⟨g, k, none⟩) hg, ← (unhide HB).cell (p := ⟨g, k, none⟩) hg]; exact h1); have hy1 : (ys ++ [c]).length ≤ k + 1 := (by simp; omega); clear h1 HW HB; generalize ys ++ [c] = ys1 at HW1 hy1)
            | (at_builtin; refine app_int w w1 ys1 _ z (.tmp 44) (.tmp 49) rfl rfl rfl rfl HW1 HB1 (by omega) ?_; intro v2 w2 HW2 HB2))
          have HX := PlacedRel.mk (b := true) (k := k + 1) (by simp; omega) HW2 HB2
          clear HW1 HB1 HW2 HB2
          go_wp2_with fail
          go_roundw
          case rel => exact ⟨k + 1, true, by omega, by go_num, rfl, HX⟩
          case measure => simp [intOf]; omega
        · by_cases hgt : c < z
          · obtain rfl : b = true := by cases b; exact absurd ⟨hgt, rfl⟩ hcond; rfl
            clear hcond
            simp only [Bool.toNat_true] at hys hb1
            go_wp2_with (at_builtin; refine app_int w wr ys _ z (.tmp 44) (.tmp 49) rfl rfl rfl rfl HW HB (by omega) ?_; intro v2 w2 HW2 HB2)
            have HX := PlacedRel.mk (b := true) (k := k + 1) (by simp; omega) HW2 HB2
            clear HW2 HB2 HW HB
            go_wp2_with fail
            go_roundw
            case rel => exact ⟨k + 1, true, by omega, by go_num, rfl, HX⟩
            case measure => simp [intOf]; omega
          · clear hcond
            have hgt' : decide (c < z) = false := by simpa using hgt
            go_wp2_with (at_builtin; refine app_int w wr ys _ z (.tmp 44) (.tmp 49) rfl rfl rfl rfl HW HB (by omega) ?_; intro v2 w2 HW2 HB2)
            have HX := PlacedRel.mk (b := b) (k := k + 1) (by simp; omega) HW2 HB2
            clear HW2 HB2 HW HB
            go_wp2_with fail
            go_roundw
            case rel => exact ⟨k + 1, b, by omega, by go_num, rfl, HX⟩
            case measure => simp [intOf]; omega
    · clear hown hbel HR
      cases b
      · simp only [Bool.toNat_false] at hys hb1
        go_wp2_with (at_builtin; refine app_int w wr ys _ c (.tmp 53) (.tmp 55) rfl rfl rfl rfl HW HB (by omega) ?_; intro v1 w1 HW1 HB1)
        have hy1 : (ys ++ [c]).length ≤ zs.length + 1 := by simp; omega
        clear HW HB
        generalize ys ++ [c] = ys1 at HW1 hy1
        go_wp2_with fail
        go_ret
        exact ⟨_, ys1, rfl, own_base (unhide HW1) (Nat.zero_le _), hy1, unhide HB1⟩
      · simp only [Bool.toNat_true] at hys hb1
        go_wp2_with fail
        go_ret
        exact ⟨_, ys, rfl, own_base (unhide HW) (Nat.zero_le _), by omega, unhide HB⟩

set_option maxRecDepth 100000 in
set_option maxHeartbeats 2000000 in
theorem refPlaced_hi (zs : List Int) (v : Value) (c : Int) (w : World) (hl : zs.length ≤ 1000000) (ho : w.ownsRow 0 3 1 v zs.length (ints zs)) (h1 : 57343 < c) (h2 : c ≤ 1114111) :
    Calls Tryz.prog 141 #[v, .int .i64 c] w (IntsUpTo w (zs.length + 1)) := by
  have HO := hide ho
  obtain ⟨ao, cap, rfl, hv⟩ := own_view ho
  have HV := hide hv
  clear hv ho
  go_enter Tryz.func141, Tryz.ntmps141
  go_wp2_with fail
  go_loopw [5, 6, 7] (fun m dn i wr => ∃ (k : Nat) (b : Bool), k ≤ zs.length ∧ i = .int .i64 k ∧ dn = .bool b ∧ Hid (PlacedRel w wr m k b)) (fun _ _ i _ => zs.length - (intOf i).toNat)
  case atStart => exact ⟨0, false, Nat.zero_le _, rfl, rfl, ⟨[], Nat.le_refl _, World.ownsRow_nil _ _ _ _, Below.refl _ _⟩⟩
  case round =>
    obtain ⟨k, b, hk, rfl, rfl, HR⟩ := hrel
    obtain ⟨ys, hys, hown, hbel⟩ := unhide HR
    have HW := hide hown
    have HB := hide hbel
    have hb1 : b.toNat ≤ 1 := by cases b <;> simp
    by_cases hlt : k < zs.length
    · obtain ⟨g, rfl, -, hg, hc, -⟩ := unhide HV (by omega)
      have h1 := hc k (by omega)
      rw [ints_at zs k hlt, ← hbel.cell (p := ⟨g, k, none⟩) hg] at h1
      clear hc HV hown hbel HR
      generalize zs.getD k 0 = z at h1
      by_cases he : z = c
      · have he' : (z == c) = true := by simp [he]
        clear he
        go_wp2_with fail
        go_ret
        exact ⟨_, zs, rfl, own_below (unhide HO) (unhide HB) (Nat.le_refl _), by omega, unhide HB⟩
      · have he' : (z == c) = false := by simp [he]
        clear he
        by_cases hcond : c < z ∧ b = false
        · obtain ⟨hgt, rfl⟩ := hcond
          simp only [Bool.toNat_false] at hys hb1
          go_wp2_with (first
            | (at_builtin; refine app_int w wr ys _ c (.tmp 40) (.tmp 42) rfl rfl rfl rfl HW HB (by omega) ?_; intro v1 w1 HW1 HB1; have h1' : w1.cell? ⟨g, k, none⟩ = some (.int .i64 z) := (by rw [(unhide HB1).cell (p := ⟨g, k, none⟩) hg, ← (unhide HB).cell (p := ⟨g, k, none⟩) hg]; exact h1); have hy1 : (ys ++ [c]).length ≤ k + 1 := (by simp; omega); clear h1 HW HB; generalize ys ++ [c] = ys1 at HW1 hy1)
            | (at_builtin; refine app_int w w1 ys1 _ z (.tmp 44) (.tmp 49) rfl rfl rfl rfl HW1 HB1 (by omega) ?_; intro v2 w2 HW2 HB2))
          have HX := PlacedRel.mk (b := true) (k := k + 1) (by simp; omega) HW2 HB2
          clear HW1 HB1 HW2 HB2
          go_wp2_with fail
          go_roundw
          case rel => exact ⟨k + 1, true, by omega, by go_num, rfl, HX⟩
          case measure => simp [intOf]; omega
        · by_cases hgt : c < z
          · obtain rfl : b = true := by cases b; exact absurd ⟨hgt, rfl⟩ hcond; rfl
            clear hcond
            simp only [Bool.toNat_true] at hys hb1
            go_wp2_with (at_builtin; refine app_int w wr ys _ z (.tmp 44) (.tmp 49) rfl rfl rfl rfl HW HB (by omega) ?_; intro v2 w2 HW2 HB2)
            have HX := PlacedRel.mk (b := true) (k := k + 1) (by simp; omega) HW2 HB2
            clear HW2 HB2 HW HB
            go_wp2_with fail
            go_roundw
            case rel => exact ⟨k + 1, true, by omega, by go_num, rfl, HX⟩
            case measure => simp [intOf]; omega
          · clear hcond
            have hgt' : decide (c < z) = false := by simpa using hgt
            go_wp2_with (at_builtin; refine app_int w wr ys _ z (.tmp 44) (.tmp 49) rfl rfl rfl rfl HW HB (by omega) ?_; intro v2 w2 HW2 HB2)
            have HX := PlacedRel.mk (b := b) (k := k + 1) (by simp; omega) HW2 HB2
            clear HW2 HB2 HW HB
            go_wp2_with fail
            go_roundw
            case rel => exact ⟨k + 1, b, by omega, by go_num, rfl, HX⟩
            case measure => simp [intOf]; omega
    · clear hown hbel HR
      cases b
      · simp only [Bool.toNat_false] at hys hb1
        go_wp2_with (at_builtin; refine app_int w wr ys _ c (.tmp 53) (.tmp 55) rfl rfl rfl rfl HW HB (by omega) ?_; intro v1 w1 HW1 HB1)
        have hy1 : (ys ++ [c]).length ≤ zs.length + 1 := by simp; omega
        clear HW HB
        generalize ys ++ [c] = ys1 at HW1 hy1
        go_wp2_with fail
        go_ret
        exact ⟨_, ys1, rfl, own_base (unhide HW1) (Nat.zero_le _), hy1, unhide HB1⟩
      · simp only [Bool.toNat_true] at hys hb1
        go_wp2_with fail
        go_ret
        exact ⟨_, ys, rfl, own_base (unhide HW) (Nat.zero_le _), by omega, unhide HB⟩

set_option maxRecDepth 100000 in
set_option maxHeartbeats 2000000 in
theorem refPlaced_top (zs : List Int) (v : Value) (c : Int) (w : World) (_hl : zs.length ≤ 1000000) (ho : w.ownsRow 0 3 1 v zs.length (ints zs)) (h1 : 1114111 < c) :
    Calls Tryz.prog 141 #[v, .int .i64 c] w (IntsUpTo w (zs.length + 1)) := by
  have HO := hide ho
  obtain ⟨ao, cap, rfl, hv⟩ := own_view ho
  have HV := hide hv
  clear hv ho
  go_enter Tryz.func141, Tryz.ntmps141
  go_wp2_with fail
  go_ret
  exact ⟨_, zs, rfl, unhide HO, by omega, Below.refl _ _⟩

theorem refPlaced_any (zs : List Int) (v : Value) (c : Int) (w : World) (hl : zs.length ≤ 1000000) (ho : w.ownsRow 0 3 1 v zs.length (ints zs)) :
    Calls Tryz.prog 141 #[v, .int .i64 c] w (IntsUpTo w (zs.length + 1)) := by
  by_cases h1 : c < 55296
  · exact refPlaced_lo zs v c w hl ho h1
  · by_cases h2 : c ≤ 57343
    · exact refPlaced_gap zs v c w hl ho (by omega) h2
    · by_cases h3 : c ≤ 1114111
      · exact refPlaced_hi zs v c w hl ho (by omega) h3
      · exact refPlaced_top zs v c w hl ho (by omega)
end Go.Proofs.YtfolanohokflkaaGreatDoor

namespace Go.Proofs.YtfolanohokflkaaGreatDoor
open Go.RowKit

/-- a slice of numbers that can be read, no longer than told. -/
def IntsRel (w wr : World) (v : Value) (n : Nat) : Prop := ∃ zs : List Int, zs.length ≤ n ∧ wr.ownsRow 0 3 1 v zs.length (ints zs) ∧ Below w.heap.size w wr
theorem below_next {w wr w1 : World} (hb : Below w.heap.size w wr) (h : Below wr.heap.size wr w1) : Below w.heap.size w w1 := hb.trans (h.mono hb.size)
/-- placed, met where a slice of at most n numbers is known. -/
theorem placed_rel (w wr : World) (v : Value) (c : Int) (n : Nat) (h : Hid (IntsRel w wr v n)) (hn : n ≤ 1000000) :
    Calls Tryz.prog 141 #[v, .int .i64 c] wr fun e w' => ∃ v', e = .returned v' ∧ Hid (IntsRel w w' v' (n + 1)) := by
  obtain ⟨zs, h1, h2, h3⟩ := unhide h
  refine (refPlaced_any zs v c wr (by omega) h2).mono ?_
  rintro e w' ⟨v', zs', rfl, o, hl, hb⟩
  exact ⟨v', rfl, ⟨zs', by omega, o, below_next h3 hb⟩⟩

set_option maxRecDepth 100000 in
set_option maxHeartbeats 2000000 in
theorem refCuts_any (a b : List (Int × Int)) (va vb : Value) (w : World) (ha : a.length ≤ 1000) (hb : b.length ≤ 1000) (oa : w.ownsRow 0 215 2 va a.length (spanCells a)) (ob : w.ownsRow 0 215 2 vb b.length (spanCells b)) :
    Calls Tryz.prog 247 #[va, vb] w (IntsUpTo w (1 + 2 * (a.length + b.length))) := by
  obtain ⟨aa, ca, rfl, hva⟩ := own_view oa
  obtain ⟨ab, cb, rfl, hvb⟩ := own_view ob
  have HVA := hide hva
  have HVB := hide hvb
  clear hva hvb oa ob
  have HN : Hid (w.ownsRow w.heap.size 3 1 (.slice none 0 0) ([] : List Int).length (ints [])) := World.ownsRow_nil _ _ _ _
  have HBN : Hid (Below w.heap.size w w) := Below.refl _ _
  go_enter Tryz.func247, Tryz.ntmps247
  go_wp2_with (at_builtin; refine app_int w w [] _ 0 (.tmp 9) (.tmp 10) rfl rfl rfl rfl HN HBN (by simp) ?_; intro v1 w1 HW1 HB1)
  have HR : Hid (IntsRel w w1 v1 1) := ⟨[0], by simp, own_base (unhide HW1) (Nat.zero_le _), HB1⟩
  clear HN HBN HW1 HB1
  go_loopw [5, 6] (fun v i wr => ∃ (k : Int), (k = 0 ∨ k = 1 ∨ k = 2) ∧ i = .int .i64 k ∧ Hid (IntsRel w wr v (1 + (if 1 ≤ k then 2 * a.length else 0) + (if 2 ≤ k then 2 * b.length else 0)))) (fun _ i _ => 2 - (intOf i).toNat)
  case atStart => exact ⟨0, by omega, rfl, HR⟩
  case round =>
    clear HR
    obtain ⟨k, hk3, rfl, HR⟩ := hrel
    rcases hk3 with rfl | rfl | rfl
    · have HR0 : Hid (IntsRel w wr u5 (1)) := HR
      clear HR
      go_wp2_with fail
      go_loopw [5, 8] (fun v i wr => ∃ (j : Nat), j ≤ a.length ∧ i = .int .i64 j ∧ Hid (IntsRel w wr v (1 + 2 * j))) (fun _ i _ => a.length - (intOf i).toNat)
      case atStart => exact ⟨0, by omega, rfl, HR0⟩
      case round =>
        clear HR0
        obtain ⟨j, hj, rfl, HR⟩ := hrel
        by_cases hlt : j < a.length
        · obtain ⟨g, rfl, -, hg, hc, -⟩ := unhide HVA (by omega)
          have h1 := hc (j * 2) (by omega)
          have h2 := hc (j * 2 + 1) (by omega)
          rw [spanCells_lo a j hlt] at h1
          rw [spanCells_hi a j hlt] at h2
          clear hc HVA HVB
          generalize (a.getD j (0, 0)).1 = lo at h1
          generalize (a.getD j (0, 0)).2 = hi at h2
          obtain ⟨_, _, _, hbel⟩ := unhide HR
          rw [← hbel.cell (p := ⟨g, j * 2, none⟩) hg] at h1
          have H2 := hide h2
          clear h2 hbel
          go_wp2_with (first
            | (go_at_call 141; refine (placed_rel w _ _ _ _ HR (by omega)).mono ?_; clear HR; rintro e w1 ⟨v1, rfl, HR1⟩; have h2' : w1.cell? ⟨g, j * 2 + 1, none⟩ = some (.int .i64 hi) := (by obtain ⟨_, _, _, hbel⟩ := unhide HR1; rw [hbel.cell (p := ⟨g, j * 2 + 1, none⟩) hg]; exact unhide H2); clear h1)
            | (go_at_call 141; refine (placed_rel w _ _ _ _ HR1 (by omega)).mono ?_; clear HR1; rintro e w2 ⟨v2, rfl, HR2⟩))
          go_roundw
          case rel => exact ⟨j + 1, by omega, by go_num, HR2⟩
          case measure => simp [intOf]; omega
        · obtain rfl : j = a.length := by omega
          go_wp2_with fail
          go_roundw
          case rel => exact ⟨1, by omega, by go_num, by simpa using HR⟩
          case measure => simp [intOf]
    · have HR0 : Hid (IntsRel w wr u5 (1 + 2 * a.length)) := HR
      clear HR
      go_wp2_with fail
      go_loopw [5, 8] (fun v i wr => ∃ (j : Nat), j ≤ b.length ∧ i = .int .i64 j ∧ Hid (IntsRel w wr v (1 + 2 * a.length + 2 * j))) (fun _ i _ => b.length - (intOf i).toNat)
      case atStart => exact ⟨0, by omega, rfl, HR0⟩
      case round =>
        clear HR0
        obtain ⟨j, hj, rfl, HR⟩ := hrel
        by_cases hlt : j < b.length
        · obtain ⟨g, rfl, -, hg, hc, -⟩ := unhide HVB (by omega)
          have h1 := hc (j * 2) (by omega)
          have h2 := hc (j * 2 + 1) (by omega)
          rw [spanCells_lo b j hlt] at h1
          rw [spanCells_hi b j hlt] at h2
          clear hc HVA HVB
          generalize (b.getD j (0, 0)).1 = lo at h1
          generalize (b.getD j (0, 0)).2 = hi at h2
          obtain ⟨_, _, _, hbel⟩ := unhide HR
          rw [← hbel.cell (p := ⟨g, j * 2, none⟩) hg] at h1
          have H2 := hide h2
          clear h2 hbel
          go_wp2_with (first
            | (go_at_call 141; refine (placed_rel w _ _ _ _ HR (by omega)).mono ?_; clear HR; rintro e w1 ⟨v1, rfl, HR1⟩; have h2' : w1.cell? ⟨g, j * 2 + 1, none⟩ = some (.int .i64 hi) := (by obtain ⟨_, _, _, hbel⟩ := unhide HR1; rw [hbel.cell (p := ⟨g, j * 2 + 1, none⟩) hg]; exact unhide H2); clear h1)
            | (go_at_call 141; refine (placed_rel w _ _ _ _ HR1 (by omega)).mono ?_; clear HR1; rintro e w2 ⟨v2, rfl, HR2⟩))
          go_roundw
          case rel => exact ⟨j + 1, by omega, by go_num, HR2⟩
          case measure => simp [intOf]; omega
        · obtain rfl : j = b.length := by omega
          go_wp2_with fail
          go_roundw
          case rel => exact ⟨2, by omega, by go_num, by simpa using HR⟩
          case measure => simp [intOf]
    · have HR0 : Hid (IntsRel w wr u5 (1 + 2 * a.length + 2 * b.length)) := HR
      clear HR
      go_wp2_with fail
      go_ret
      obtain ⟨zs, z1, z2, z3⟩ := unhide HR0
      exact ⟨_, zs, rfl, z2, by omega, z3⟩
end Go.Proofs.YtfolanohokflkaaGreatDoor

namespace Go.Proofs.YtfolanohokflkaaGreatDoor
open Go.RowKit

def bools (bs : List Bool) : List Value := bs.map Value.bool
theorem bools_at (zs : List Bool) (i : Nat) (h : i < zs.length) : (bools zs)[i]? = some (.bool (zs.getD i false)) := by simp [bools, h]
theorem bools_snoc (zs : List Bool) (z : Bool) : bools (zs ++ [z]) = bools zs ++ [.bool z] := by simp [bools]
theorem infoBool : (Tryz.prog.info? 4).map (fun i => (i.zero, i.size, i.bytes)) = some (some (.bool false), 1, 1) := by kernel_rfl
theorem infoSpan : (Tryz.prog.info? 215).map (fun i => (i.zero, i.size, i.bytes)) = some (some (.agg #[.int .i64 0, .int .i64 0]), 2, 16) := by kernel_rfl

/-- 'm = append(m, b)', m a slice of bools of the call's own. -/
theorem app_bool {ops : Array Oper} {rest : List Oper} {o : Oper} {a : Act} {Q : Exit → Act → World → Prop} (w wr : World) (zs : List Bool) (v : Value) (z : Bool) (s x : Operand) (hg : o.guard = none)
    (hop : o.op = .call { callee := .builtin .append, args := #[s, x], argTypes := #[58, 58] }) (hs : a.eval s = v) (hx : a.eval x = .slice (some ⟨wr.heap.size, 0, none⟩) 1 1)
    (ho : Hid (wr.ownsRow w.heap.size 4 1 v zs.length (bools zs))) (hb : Hid (Below w.heap.size w wr)) (hl : zs.length ≤ 2000000)
    (K : ∀ v' w', Hid (w'.ownsRow w.heap.size 4 1 v' (zs ++ [z]).length (bools (zs ++ [z]))) → Hid (Below w.heap.size w w') → wpList Tryz.prog ops Q rest (a.put o.dst v') w') :
    wpList Tryz.prog ops Q (o :: rest) a (wr.alloc (.cells #[.bool z] 4)) := by
  obtain ⟨i0, hi, hz0, hz1, hz2⟩ := info_parts infoBool
  have hb' : Below w.heap.size w wr := hb
  have := hb'.size
  refine wpList_append_own _ hg s x 58 hop w.heap.size 4 i0 (.bool false) 1 1 Tryz.underlying58 hi hz0 hz1 hz2 rfl (by decide) _ _ _ hs ((unhide ho).alloc _) ⟨wr.heap.size, 0, none⟩ 1 1 [.bool z] hx rfl (cells_new wr [.bool z] _) (c_one _ rfl) (by unfold maxLen; omega) (by omega) (by simp; omega) ?_
  intro v' w' h1 h2 _
  refine K v' w' ?_ (below_append hb ho h2 hb'.size)
  show w'.ownsRow _ _ _ _ _ _
  rw [bools_snoc, List.length_append]; exact h1

/-- 'm = append(m, Span{lo, hi})', m a slice of spans of the call's own. -/
theorem app_span {ops : Array Oper} {rest : List Oper} {o : Oper} {a : Act} {Q : Exit → Act → World → Prop} (w wr : World) (zs : List (Int × Int)) (v : Value) (lo hi : Int) (s x : Operand) (hg : o.guard = none)
    (hop : o.op = .call { callee := .builtin .append, args := #[s, x], argTypes := #[210, 210] }) (hs : a.eval s = v) (hx : a.eval x = .slice (some ⟨wr.heap.size, 0, none⟩) 1 1)
    (ho : Hid (wr.ownsRow w.heap.size 215 2 v zs.length (spanCells zs))) (hb : Hid (Below w.heap.size w wr)) (hl : zs.length ≤ 2000000)
    (K : ∀ ao cap w', Hid (w'.ownsRow w.heap.size 215 2 (.slice ao (zs.length + 1) cap) (zs ++ [(lo, hi)]).length (spanCells (zs ++ [(lo, hi)]))) → Hid (Below w.heap.size w w') → wpList Tryz.prog ops Q rest (a.put o.dst (.slice ao (zs.length + 1) cap)) w') :
    wpList Tryz.prog ops Q (o :: rest) a (wr.alloc (.cells #[.int .i64 lo, .int .i64 hi] 215)) := by
  obtain ⟨i0, hi0, hz0, hz1, hz2⟩ := info_parts infoSpan
  have hb' : Below w.heap.size w wr := hb
  have := hb'.size
  refine wpList_append_own _ hg s x 210 hop w.heap.size 215 i0 (.agg #[.int .i64 0, .int .i64 0]) 2 16 Tryz.underlying210 hi0 hz0 hz1 hz2 rfl (by decide) _ _ _ hs ((unhide ho).alloc _) ⟨wr.heap.size, 0, none⟩ 1 1 [.int .i64 lo, .int .i64 hi] hx rfl (cells_new wr [.int .i64 lo, .int .i64 hi] _) (by intro u hu; simp at hu; rcases hu with rfl | rfl <;> rfl) (by unfold maxLen; omega) (by omega) (by simp; omega) ?_
  intro v' w' h1 h2 _
  have h3 : w'.ownsRow w.heap.size 215 2 v' (zs ++ [(lo, hi)]).length (spanCells (zs ++ [(lo, hi)])) := by
    rw [spanCells_append, List.length_append]; exact h1
  obtain ⟨ao, cap, rfl, -⟩ := own_view h3
  have e : (zs ++ [(lo, hi)]).length = zs.length + 1 := by simp
  rw [e] at h3 ⊢
  exact K ao cap w' (by rw [e]; exact h3) (below_append hb ho h2 hb'.size)

theorem spanCells_set : ∀ (L : List (Int × Int)) (x : Int × Int) (h : Int), (spanCells (L ++ [x])).set (L.length * 2 + 1) (.int .i64 h) = spanCells (L ++ [(x.1, h)])
  | [], _, _ => rfl
  | y :: L, x, h => by
    have := spanCells_set L x h
    rw [show (y :: L).length * 2 + 1 = (L.length * 2 + 1) + 1 + 1 from by simp; omega]
    simp [spanCells, this]

def TidyRel (w wr : World) (v : Value) (ys : List (Int × Int)) (k : Nat) (last : Bool) : Prop :=
  2 * ys.length ≤ k + 1 ∧ (last = false → 2 * ys.length ≤ k) ∧ wr.ownsRow w.heap.size 215 2 v ys.length (spanCells ys) ∧ Below w.heap.size w wr
/-- what the list functions of spans answer. -/
def SpansUpTo (w : World) (n : Nat) (e : Ending) (w' : World) : Prop := ∃ v' ys, e = .returned v' ∧ w'.ownsRow 0 215 2 v' (List.length ys) (spanCells ys) ∧ ys.length ≤ n ∧ Below w.heap.size w w' ∧ ∀ k, v'.ownBlock = some k → w.heap.size ≤ k

end Go.Proofs.YtfolanohokflkaaGreatDoor
