import Derived.Test.YthopgbacdmgfgaaGreatDoorProM
import Derived.WalkKit
import Derived.WalkSpells
import Derived.WalkLawsBesides
import Derived.WalkMore
import Derived.Defers
import Derived.Recover
import Derived.KernelRfl
namespace Go.Proofs.YthopgbacdmgfgaaGreatDoor
open Go.RowKit

abbrev PanV (e p : Int) : Value := .iface 64 (.agg #[.int .i64 e, .int .i64 p])

theorem wpS_mono {P : Program} {c : Code} {Q Q' : Exit → Act → List Frame → World → Prop} {a : Act} {cs : List Frame} {w : World} (h : c.wpS P Q a cs w) (hq : ∀ e a' cs' w', Q e a' cs' w' → Q' e a' cs' w') : c.wpS P Q' a cs w :=
  fun b k hb hr => let ⟨e, a', cs', w', q, r⟩ := h b k hb hr; ⟨e, a', cs', w', hq _ _ _ _ q, r⟩
theorem wpS_seq_at {P : Program} {x y : Code} {Q : Exit → Act → List Frame → World → Prop} {a : Act} {cs : List Frame} {w : World} (A : Act) (C : List Frame) (W : World) (h : x.wpS P (fun e a' cs' w' => e = .normal ∧ a' = A ∧ cs' = C ∧ w' = W) a cs w) (h2 : y.wpS P Q A C W) : (Code.seq x y).wpS P Q a cs w :=
  wpS_seq (wpS_mono h fun _ _ _ _ ⟨e1, e2, e3, e4⟩ => by subst e1; subst e2; subst e3; subst e4; exact h2)

theorem assert_own (v : Value) (w : World) : (Instr.typeAssert (.iface 64 v) 20 64 true).run Tryz.prog w = .ok (.tuple #[v, .bool true]) w := by kernel_rfl

def tmps53 (q v : Value) : Act := { tmps := #[q, v, undef, undef, v, undef, undef, undef, undef, undef, undef, undef, undef, undef, undef, undef], defers := [] }

def Post53 (c₀ : Frame) (cs cs' : List Frame) (R : Ending → FrameMode → World → Prop) : Exit → Act → World → Prop := fun e a' w' => bodyPostS Tryz.prog Tryz.f53 c₀ cs R e a' cs' w'

set_option maxRecDepth 100000 in
set_option maxHeartbeats 4000000 in
theorem catch_idle (q : Addr) (w : World) :
    CallsD Tryz.prog 53 #[.pointer (some q)] .returning w fun e u' w' => e = .returned (.tuple #[]) ∧ u' = .returning ∧ w' = w := by
  refine callsD_of_wpS Tryz.func53 rfl fun c₀ cs hu => ?_
  refine wpS_seq_at (tmps53 (.pointer (some q)) .nilIface) (c₀ :: cs) w ?_ ?_
  · apply wpS_region
    simp [wpOpsS, go_sem, recoverD, hu, Tryz.ntmps53, tmps53, Array.replicate]
  · refine wpS_of_wp ?_
    unfold tmps53
    have HU := hide hu
    clear hu
    change Code.wp _ _ (Post53 c₀ cs (c₀ :: cs) _) _ _
    go_wp2_with fail
    refine ⟨rfl, .returning, ?_, _, results_none rfl _ _ _, rfl, rfl, rfl⟩
    rw [← unhide HU]

set_option maxRecDepth 100000 in
set_option maxHeartbeats 4000000 in
theorem catch_own (b : Nat) (e p : Int) (u0 u1 : Value) (older : List PanicEntry) (w : World) (h0 : w.cell? ⟨b, 0, none⟩ = some u0) (h1 : w.cell? ⟨b, 1, none⟩ = some u1) (hz : ∀ k, w.frozen? ⟨b, k, none⟩ = false) :
    CallsD Tryz.prog 53 #[.pointer (some ⟨b, 0, none⟩)] (.panicking ({ v := PanV e p, recovered := false } :: older)) w fun x u' w' =>
      x = .returned (.tuple #[]) ∧ u' = .panicking ({ v := PanV e p, recovered := true } :: older) ∧ w' = ((w.setCell ⟨b, 0, none⟩ (.int .i64 e)).setCell ⟨b, 1, none⟩ (.int .i64 p)).alloc (.cells #[.int .i64 e, .int .i64 p] 64) := by
  refine callsD_of_wpS Tryz.func53 rfl fun c₀ cs hu => ?_
  refine wpS_seq_at (tmps53 (.pointer (some ⟨b, 0, none⟩)) (PanV e p)) ({ c₀ with mode := .panicking ({ v := PanV e p, recovered := true } :: older) } :: cs) w ?_ ?_
  · apply wpS_region
    simp [wpOpsS, go_sem, recoverD, hu, Tryz.ntmps53, tmps53, Array.replicate]
  · refine wpS_of_wp ?_
    unfold tmps53
    have hlt := World.block_lt_of_cell? w _ h0
    have r0 : (w.alloc (.cells #[.int .i64 e, .int .i64 p] 64)).cell? ⟨b, 0, none⟩ = some u0 := by rw [World.cell?_alloc_past _ _ _ hlt]; exact h0
    have r1 : (w.alloc (.cells #[.int .i64 e, .int .i64 p] 64)).cell? ⟨b, 1, none⟩ = some u1 := by rw [World.cell?_alloc_past _ _ _ hlt]; exact h1
    have g0 : (w.alloc (.cells #[.int .i64 e, .int .i64 p] 64)).frozen? ⟨b, 0, none⟩ = false := by rw [World.frozen?_alloc_past _ _ _ hlt]; exact hz 0
    have g1 : (w.alloc (.cells #[.int .i64 e, .int .i64 p] 64)).frozen? ⟨b, 1, none⟩ = false := by rw [World.frozen?_alloc_past _ _ _ hlt]; exact hz 1
    have hf0 := hz 0
    have hf1 := hz 1
    have hta := fun w1 => assert_own (.agg #[.int .i64 e, .int .i64 p]) w1
    clear hu hz
    change Code.wp _ _ (Post53 c₀ cs ({ c₀ with mode := .panicking ({ v := PanV e p, recovered := true } :: older) } :: cs) _) _ _
    go_wp2_with fail
    exact ⟨rfl, _, rfl, _, results_none rfl _ _ _, rfl, rfl, rfl⟩

/-- what a pattern's reading comes to. -/
def plainR (s : ByteArray) : Except (Int × Int) Int := match choiceS s.size (atomS s.size 8) (symsFrom s 0) with
  | .error y => .error y
  | .ok (z, l) => if hd l < 0 then .ok z else .error (2, plc s.size l)
theorem plainR_check (s : ByteArray) (h : ¬ 60 < s.size) : checkS s = match plainR s with
    | .error y => y
    | .ok z => if 60 < z then (5, 0) else (0, 0) := by
  rw [checkS, if_neg h, plainR]
  cases choiceS s.size (atomS s.size 8) (symsFrom s 0) with
  | error y => rfl
  | ok y =>
    obtain ⟨z, l⟩ := y
    show (if hd l < 0 then (if 60 < z then ((5, 0) : Int × Int) else (0, 0)) else (2, plc s.size l)) = _
    by_cases hl : hd l < 0
    · rw [if_pos hl]; dsimp only; rw [if_pos hl]
    · rw [if_neg hl]; dsimp only; rw [if_neg hl]
theorem read_err {w : World} {s : ByteArray} (hs : s.size ≤ 60) (ht : Hid (Lib.Utf8Tabs 0 1 w)) {y : Int × Int} (hR : Hid (plainR s = .error y)) :
    Calls Tryz.prog 32 #[.string s] w fun x w' => x = Pan y.1 y.2 ∧ Hid (Below w.heap.size w w') := by
  have h := readPattern_any w s hs ht
  have hr := unhide hR
  rw [plainR] at hr
  cases hc : choiceS s.size (atomS s.size 8) (symsFrom s 0) with
  | error y' =>
    rw [hc] at h hr
    injection hr with hr
    subst hr
    exact h
  | ok u =>
    obtain ⟨z, l⟩ := u
    rw [hc] at h hr
    dsimp only at hr
    by_cases hl : hd l < 0
    · rw [if_pos hl] at hr; cases hr
    · rw [if_neg hl] at hr
      injection hr with hr
      subst hr
      exact h.mono fun x w' hh => hh.2 hl
theorem read_ok {w : World} {s : ByteArray} (hs : s.size ≤ 60) (ht : Hid (Lib.Utf8Tabs 0 1 w)) {z : Int} (hR : Hid (plainR s = .ok z)) :
    Calls Tryz.prog 32 #[.string s] w fun x w' => x = .returned (.int .i64 z) ∧ Hid (Below w.heap.size w w') := by
  have h := readPattern_any w s hs ht
  have hr := unhide hR
  rw [plainR] at hr
  cases hc : choiceS s.size (atomS s.size 8) (symsFrom s 0) with
  | error y' =>
    rw [hc] at hr
    cases hr
  | ok u =>
    obtain ⟨z', l⟩ := u
    rw [hc] at h hr
    dsimp only at hr
    by_cases hl : hd l < 0
    · rw [if_pos hl] at hr
      injection hr with hr
      subst hr
      exact h.mono fun x w' hh => hh.1 hl
    · rw [if_neg hl] at hr; cases hr

theorem work_err {w : World} {s : ByteArray} {k j : Nat} (hs : s.size ≤ 60) (ht : Hid (Lib.Utf8Tabs 0 1 w)) (hk : w.cell? ⟨k, 0, none⟩ = some (.string s)) {y : Int × Int} (hR : Hid (plainR s = .error y)) :
    Calls Tryz.prog 31 #[.pointer (some ⟨k, 0, none⟩), .pointer (some ⟨j, 0, none⟩)] w fun x w' => x = Pan y.1 y.2 ∧ Hid (Below w.heap.size w w') := by
  go_enter Tryz.func31, Tryz.ntmps31
  go_wp2_with (go_at_call 32; refine (read_err hs ht hR).mono ?_; rintro x w1 ⟨rfl, HB⟩)
  exact ⟨rfl, rfl, HB⟩
theorem work_ok {w : World} {s : ByteArray} {k j : Nat} (hs : s.size ≤ 60) (ht : Hid (Lib.Utf8Tabs 0 1 w)) (hk : w.cell? ⟨k, 0, none⟩ = some (.string s)) {u : Value} (hj : w.cell? ⟨j, 0, none⟩ = some u) (hf : w.frozen? ⟨j, 0, none⟩ = false) {z : Int} (hR : Hid (plainR s = .ok z)) :
    Calls Tryz.prog 31 #[.pointer (some ⟨k, 0, none⟩), .pointer (some ⟨j, 0, none⟩)] w fun x w' => x = .returned (.tuple #[]) ∧ Hid (Up j w w') ∧ Hid (w'.cell? ⟨j, 0, none⟩ = some (.int .i64 z)) := by
  have hlt := World.block_lt_of_cell? w _ hj
  go_enter Tryz.func31, Tryz.ntmps31
  go_wp2_with (go_at_call 32; refine (read_ok hs ht hR).mono ?_; rintro x w1 ⟨rfl, HB⟩; have qj : w1.cell? ⟨j, 0, none⟩ = some u := (by rw [(unhide HB).cell (p := ⟨j, 0, none⟩) hlt]; exact hj); have fj : w1.frozen? ⟨j, 0, none⟩ = false := (by rw [(unhide HB).frozen (p := ⟨j, 0, none⟩) hlt]; exact hf))
  go_end0
  exact ⟨rfl, (Up.below (unhide HB)).trans (Up.set _ _ _ _), by show _ = _; rw [World.cell?_setCell_same _ _ _ qj]⟩
end Go.Proofs.YthopgbacdmgfgaaGreatDoor
