import Derived.Test.YtfolanohokflkaaGreatDoorNdX
import Derived.WalkKit
import Derived.WalkSpells
import Derived.WalkLawsBesides
import Derived.WalkMore
import Derived.Defers
import Derived.Recover
import Derived.KernelRfl
namespace Go.Proofs.YtfolanohokflkaaGreatDoor
open Go.RowKit

abbrev PanV (e p : Int) : Value := .iface 74 (.agg #[.int .i64 e, .int .i64 p])

theorem wpS_mono {P : Program} {c : Code} {Q Q' : Exit → Act → List Frame → World → Prop} {a : Act} {cs : List Frame} {w : World} (h : c.wpS P Q a cs w) (hq : ∀ e a' cs' w', Q e a' cs' w' → Q' e a' cs' w') : c.wpS P Q' a cs w :=
  fun b k hb hr => let ⟨e, a', cs', w', q, r⟩ := h b k hb hr; ⟨e, a', cs', w', hq _ _ _ _ q, r⟩
theorem wpS_seq_at {P : Program} {x y : Code} {Q : Exit → Act → List Frame → World → Prop} {a : Act} {cs : List Frame} {w : World} (A : Act) (C : List Frame) (W : World) (h : x.wpS P (fun e a' cs' w' => e = .normal ∧ a' = A ∧ cs' = C ∧ w' = W) a cs w) (h2 : y.wpS P Q A C W) : (Code.seq x y).wpS P Q a cs w :=
  wpS_seq (wpS_mono h fun _ _ _ _ ⟨e1, e2, e3, e4⟩ => by subst e1; subst e2; subst e3; subst e4; exact h2)

theorem assert_own (v : Value) (w : World) : (Instr.typeAssert (.iface 74 v) 20 74 true).run Tryz.prog w = .ok (.tuple #[v, .bool true]) w := by kernel_rfl

def tmps53 (q v : Value) : Act := { tmps := #[q, v, undef, undef, v, undef, undef, undef, undef, undef, undef, undef, undef, undef, undef, undef], defers := [] }

def Post53 (c₀ : Frame) (cs cs' : List Frame) (R : Ending → FrameMode → World → Prop) : Exit → Act → World → Prop := fun e a' w' => bodyPostS Tryz.prog Tryz.f70 c₀ cs R e a' cs' w'

set_option maxRecDepth 100000 in
set_option maxHeartbeats 4000000 in
theorem catch_idle (q : Addr) (w : World) :
    CallsD Tryz.prog 70 #[.pointer (some q)] .returning w fun e u' w' => e = .returned (.tuple #[]) ∧ u' = .returning ∧ w' = w := by
  refine callsD_of_wpS Tryz.func70 rfl fun c₀ cs hu => ?_
  refine wpS_seq_at (tmps53 (.pointer (some q)) .nilIface) (c₀ :: cs) w ?_ ?_
  · apply wpS_region
    simp [wpOpsS, go_sem, recoverD, hu, Tryz.ntmps70, tmps53, Array.replicate]
  · refine wpS_of_wp ?_
    unfold tmps53
    have HU := hide hu
    clear hu
    change Code.wp _ _ (Post53 c₀ cs (c₀ :: cs) _) _ _
    go_wp2_with fail
    refine ⟨rfl, .returning, ?_, _, results_none rfl _ _ _, rfl, rfl, rfl⟩
    rw [← unhide HU]

set_option maxRecDepth 100000 in
set_option maxHeartbeats 4000000 in
theorem catch_own (b : Nat) (e p : Int) (u0 u1 : Value) (older : List PanicEntry) (w : World) (h0 : w.cell? ⟨b, 0, none⟩ = some u0) (h1 : w.cell? ⟨b, 1, none⟩ = some u1) (hz : ∀ k, w.frozen? ⟨b, k, none⟩ = false) :
    CallsD Tryz.prog 70 #[.pointer (some ⟨b, 0, none⟩)] (.panicking ({ v := PanV e p, recovered := false } :: older)) w fun x u' w' =>
      x = .returned (.tuple #[]) ∧ u' = .panicking ({ v := PanV e p, recovered := true } :: older) ∧ w' = ((w.setCell ⟨b, 0, none⟩ (.int .i64 e)).setCell ⟨b, 1, none⟩ (.int .i64 p)).alloc (.cells #[.int .i64 e, .int .i64 p] 74) := by
  refine callsD_of_wpS Tryz.func70 rfl fun c₀ cs hu => ?_
  refine wpS_seq_at (tmps53 (.pointer (some ⟨b, 0, none⟩)) (PanV e p)) ({ c₀ with mode := .panicking ({ v := PanV e p, recovered := true } :: older) } :: cs) w ?_ ?_
  · apply wpS_region
    simp [wpOpsS, go_sem, recoverD, hu, Tryz.ntmps70, tmps53, Array.replicate]
  · refine wpS_of_wp ?_
    unfold tmps53
    have hlt := World.block_lt_of_cell? w _ h0
    have r0 : (w.alloc (.cells #[.int .i64 e, .int .i64 p] 74)).cell? ⟨b, 0, none⟩ = some u0 := by rw [World.cell?_alloc_past _ _ _ hlt]; exact h0
    have r1 : (w.alloc (.cells #[.int .i64 e, .int .i64 p] 74)).cell? ⟨b, 1, none⟩ = some u1 := by rw [World.cell?_alloc_past _ _ _ hlt]; exact h1
    have g0 : (w.alloc (.cells #[.int .i64 e, .int .i64 p] 74)).frozen? ⟨b, 0, none⟩ = false := by rw [World.frozen?_alloc_past _ _ _ hlt]; exact hz 0
    have g1 : (w.alloc (.cells #[.int .i64 e, .int .i64 p] 74)).frozen? ⟨b, 1, none⟩ = false := by rw [World.frozen?_alloc_past _ _ _ hlt]; exact hz 1
    have hf0 := hz 0
    have hf1 := hz 1
    have hta := fun w1 => assert_own (.agg #[.int .i64 e, .int .i64 p]) w1
    clear hu hz
    change Code.wp _ _ (Post53 c₀ cs ({ c₀ with mode := .panicking ({ v := PanV e p, recovered := true } :: older) } :: cs) _) _ _
    go_wp2_with fail
    exact ⟨rfl, _, rfl, _, results_none rfl _ _ _, rfl, rfl, rfl⟩

/-- what a pattern's reading comes to. -/
def treeR (s : ByteArray) : Except (Int × Int) Pn := match choiceP s.size (atomP s.size 8) (symsFrom s 0) with
  | .error y => .error y
  | .ok (z, l) => if hd l < 0 then .ok z else .error (2, plc s.size l)
theorem treeR_parse (s : ByteArray) (h : ¬ 60 < s.size) : parseS s = match treeR s with
    | .error y => .error y
    | .ok z => if 60 < z.2 then .error (5, 0) else .ok z.1 := by
  rw [parseS, if_neg h, treeR]
  cases choiceP s.size (atomP s.size 8) (symsFrom s 0) with
  | error y => rfl
  | ok y =>
    obtain ⟨z, l⟩ := y
    show (if hd l < 0 then (if 60 < z.2 then Except.error ((5, 0) : Int × Int) else Except.ok z.1) else Except.error (2, plc s.size l)) = _
    by_cases hl : hd l < 0
    · rw [if_pos hl]; dsimp only; rw [if_pos hl]
    · rw [if_neg hl]; dsimp only; rw [if_neg hl]
theorem read_err {w : World} {s : ByteArray} (hs : s.size ≤ 60) (ht : Hid (Lib.Utf8Tabs 4 5 w)) {y : Int × Int} (hR : Hid (treeR s = .error y)) :
    Calls Tryz.prog 99 #[.string s] w fun x w' => x = Pan y.1 y.2 ∧ Hid (Below w.heap.size w w') := by
  have h := readPattern_any w s hs ht
  have hr := unhide hR
  rw [treeR] at hr
  cases hc : choiceP s.size (atomP s.size 8) (symsFrom s 0) with
  | error y' =>
    rw [hc] at h hr
    injection hr with hr
    subst hr
    exact h
  | ok u =>
    obtain ⟨z, l⟩ := u
    rw [hc] at h hr
    dsimp only at hr
    by_cases hl : hd l < 0
    · rw [if_pos hl] at hr; cases hr
    · rw [if_neg hl] at hr
      injection hr with hr
      subst hr
      exact h.mono fun x w' hh => hh.2 hl
theorem read_ok {w : World} {s : ByteArray} (hs : s.size ≤ 60) (ht : Hid (Lib.Utf8Tabs 4 5 w)) {z : Pn} (hR : Hid (treeR s = .ok z)) :
    Calls Tryz.prog 99 #[.string s] w fun x w' => ∃ m, x = .returned (vNd m) ∧ Hid (NodeOK w' (fun k => w.heap.size ≤ k) m z) ∧ Hid (Below w.heap.size w w') := by
  have h := readPattern_any w s hs ht
  have hr := unhide hR
  rw [treeR] at hr
  cases hc : choiceP s.size (atomP s.size 8) (symsFrom s 0) with
  | error y' =>
    rw [hc] at hr
    cases hr
  | ok u =>
    obtain ⟨z', l⟩ := u
    rw [hc] at h hr
    dsimp only at hr
    by_cases hl : hd l < 0
    · rw [if_pos hl] at hr
      injection hr with hr
      subst hr
      exact h.mono fun x w' hh => hh.1 hl
    · rw [if_neg hl] at hr; cases hr
theorem work_err {w : World} {s : ByteArray} {k j : Nat} (hs : s.size ≤ 60) (ht : Hid (Lib.Utf8Tabs 4 5 w)) (hk : w.cell? ⟨k, 0, none⟩ = some (.string s)) {y : Int × Int} (hR : Hid (treeR s = .error y)) :
    Calls Tryz.prog 98 #[.pointer (some ⟨k, 0, none⟩), .pointer (some ⟨j, 0, none⟩)] w fun x w' => x = Pan y.1 y.2 ∧ Hid (Below w.heap.size w w') := by
  go_enter Tryz.func98, Tryz.ntmps98
  go_wp2_with (go_at_call 99; refine (read_err hs ht hR).mono ?_; rintro x w1 ⟨rfl, HB⟩)
  exact ⟨rfl, rfl, HB⟩
theorem up_setNd {j : Nat} {w w1 : World} {n : Nd} (h : Below w.heap.size w w1) : Hid (Up j w (setNd w1 j n)) :=
  ⟨(setNd_os w1 j n).trans h.os, (setNd_tape w1 j n).trans h.tape, (setNd_output w1 j n).trans h.output, by rw [setNd_size]; exact h.size, fun k hk hj => (setNd_other hj).trans (h.block k hk)⟩
set_option maxRecDepth 100000 in
set_option maxHeartbeats 4000000 in
theorem work_ok {w : World} {s : ByteArray} {k j : Nat} (hs : s.size ≤ 60) (ht : Hid (Lib.Utf8Tabs 4 5 w)) (hk : w.cell? ⟨k, 0, none⟩ = some (.string s)) {m0 : Nd} (hj : Hid (NdAt w j m0)) {z : Pn} (hR : Hid (treeR s = .ok z)) :
    Calls Tryz.prog 98 #[.pointer (some ⟨k, 0, none⟩), .pointer (some ⟨j, 0, none⟩)] w fun x w' => x = .returned (.tuple #[]) ∧ ∃ m, Hid (Up j w w') ∧ Hid (NdAt w' j m) ∧ Hid (NodeOK w' (fun k => w.heap.size ≤ k) m z) := by
  have hlt := NdAt.lt (unhide hj)
  go_enter Tryz.func98, Tryz.ntmps98
  go_wp2_with (go_at_call 99; refine (read_ok hs ht hR).mono ?_; simp only [vNd]; rintro x w1 ⟨m, rfl, HN, HB⟩; have HJ := hide (NdAt.move (unhide hj) ((unhide HB).block j hlt)); obtain ⟨c0, c1, c2, c3, c4, c5, c6⟩ := NdAt.cells (unhide HJ); have cf := NdAt.fz (unhide HJ))
  change bodyPost _ _ _ _ _ (setNd w1 j m)
  go_end0
  exact ⟨rfl, m, up_setNd (unhide HB), hide (NdAt.set (unhide HJ)), NodeOK.move HN fun i hi _ => ⟨setNd_other (by omega), hi⟩⟩
end Go.Proofs.YtfolanohokflkaaGreatDoor

namespace Go.Proofs.YtfolanohokflkaaGreatDoor
open Go.RowKit

set_option maxRecDepth 100000 in
set_option maxHeartbeats 4000000 in
theorem attempt_err {w : World} {s : ByteArray} {k j : Nat} (hs : s.size ≤ 60) (ht : Hid (Lib.Utf8Tabs 4 5 w)) (hk : w.cell? ⟨k, 0, none⟩ = some (.string s)) {y : Int × Int} (hR : Hid (treeR s = .error y)) :
    Calls Tryz.prog 41 #[.func (.func 98) #[] #[.pointer (some ⟨k, 0, none⟩), .pointer (some ⟨j, 0, none⟩)]] w fun x w' => x = .returned (.agg #[.int .i64 y.1, .int .i64 y.2]) ∧ Hid (Below w.heap.size w w') := by
  have hmf : ∀ (fn : Fn) (first cap : Array Value) (w : World), (Instr.makeFunc fn first cap).run Tryz.prog w = .ok (.func fn first cap) w := fun _ _ _ _ => rfl
  have hkl := World.block_lt_of_cell? w _ hk
  have hk1 : (w.alloc (.cells #[.int .i64 0, .int .i64 0] 74)).cell? ⟨k, 0, none⟩ = some (.string s) := by rw [World.cell?_alloc_past _ _ _ hkl]; exact hk
  have hlt := tabs_lt (unhide ht)
  have ht1 : Hid (Lib.Utf8Tabs 4 5 (w.alloc (.cells #[.int .i64 0, .int .i64 0] 74))) := tabs_of (unhide ht) (Below.heap_alloc w _ 4 (by omega)) (Below.heap_alloc w _ 5 (by omega))
  have HW := hide (work_err (j := j) hs ht1 hk1 hR)
  clear hk hkl hR ht hk1 ht1
  go_enter_defers Tryz.func41, Tryz.ntmps41
  go_wp2_with (go_at_call 98; refine (unhide HW).mono ?_; clear HW; rintro x w1 ⟨rfl, HB⟩)
  have hn : w.heap.size < (w.alloc (.cells #[.int .i64 0, .int .i64 0] 74)).heap.size := by simp
  have q0 : w1.cell? ⟨w.heap.size, 0, none⟩ = some (.int .i64 0) := by rw [(unhide HB).cell (p := ⟨w.heap.size, 0, none⟩) hn]; exact cells_new w [.int .i64 0, .int .i64 0] _ 0 _ rfl
  have q1 : w1.cell? ⟨w.heap.size, 1, none⟩ = some (.int .i64 0) := by rw [(unhide HB).cell (p := ⟨w.heap.size, 1, none⟩) hn]; exact cells_new w [.int .i64 0, .int .i64 0] _ 1 _ rfl
  have fz : ∀ k, w1.frozen? ⟨w.heap.size, k, none⟩ = false := fun k => by rw [(unhide HB).frozen (p := ⟨w.heap.size, k, none⟩) hn]; exact World.frozen?_alloc_at _ _ _ _ rfl
  have hl1 := World.block_lt_of_cell? w1 _ q0
  refine leaves_cons (f := 70) (args := #[.pointer (some ⟨w.heap.size, 0, none⟩)]) (by simp) (by simp [go_sem]) ?_
  refine (catch_own w.heap.size y.1 y.2 (.int .i64 0) (.int .i64 0) [] w1 q0 q1 fz).mono ?_
  rintro x u' w'' ⟨rfl, rfl, rfl⟩
  show Leaves _ _ _ _ [] .returning _
  refine ⟨.agg #[.int .i64 y.1, .int .i64 y.2], ?_, rfl, ?_⟩
  · simp [results, Tryz.results41, go_sem, q0, q1, hl1]
  · exact below_up (((((Up.below ((Below.refl _ _).alloc (Nat.le_refl _) _)).trans (Up.below (unhide HB))).trans (Up.set _ _ _ _)).trans (Up.set _ _ _ _)).trans (Up.below ((Below.refl _ _).alloc (Nat.le_refl _) _)))

theorem Up.setNew {j : Nat} {w w1 : World} (h : Up j w w1) (n k : Nat) (u : Value) (hn : w.heap.size ≤ n) : Up j w (w1.setCell ⟨n, k, none⟩ u) :=
  ⟨h.os, h.tape, h.output, by have := h.size; simpa [World.setCell] using this, fun i hi hij => (Below.heap_setCell w1 ⟨n, k, none⟩ u i (by show i ≠ n; omega)).trans (h.block i hi hij)⟩
set_option maxRecDepth 100000 in
set_option maxHeartbeats 4000000 in
theorem attempt_ok {w : World} {s : ByteArray} {k j : Nat} (hs : s.size ≤ 60) (ht : Hid (Lib.Utf8Tabs 4 5 w)) (hk : w.cell? ⟨k, 0, none⟩ = some (.string s)) {m0 : Nd} (hj : Hid (NdAt w j m0)) {z : Pn} (hR : Hid (treeR s = .ok z)) :
    Calls Tryz.prog 41 #[.func (.func 98) #[] #[.pointer (some ⟨k, 0, none⟩), .pointer (some ⟨j, 0, none⟩)]] w fun x w' => x = .returned (.agg #[.int .i64 0, .int .i64 0]) ∧ ∃ m, Hid (Up j w w') ∧ Hid (NdAt w' j m) ∧ Hid (NodeOK w' (fun k => w.heap.size < k) m z) := by
  have hmf : ∀ (fn : Fn) (first cap : Array Value) (w : World), (Instr.makeFunc fn first cap).run Tryz.prog w = .ok (.func fn first cap) w := fun _ _ _ _ => rfl
  have hkl := World.block_lt_of_cell? w _ hk
  have hjl : j < w.heap.size := NdAt.lt (unhide hj)
  have hk1 : (w.alloc (.cells #[.int .i64 0, .int .i64 0] 74)).cell? ⟨k, 0, none⟩ = some (.string s) := by rw [World.cell?_alloc_past _ _ _ hkl]; exact hk
  have hj1 := NdAt.alloc hj (.cells #[.int .i64 0, .int .i64 0] 74)
  have hlt := tabs_lt (unhide ht)
  have ht1 : Hid (Lib.Utf8Tabs 4 5 (w.alloc (.cells #[.int .i64 0, .int .i64 0] 74))) := tabs_of (unhide ht) (Below.heap_alloc w _ 4 (by omega)) (Below.heap_alloc w _ 5 (by omega))
  have HW := hide (work_ok hs ht1 hk1 hj1 hR)
  have hnew : w.heap.size < (w.alloc (.cells #[.int .i64 0, .int .i64 0] 74)).heap.size := by simp
  have c0 := cells_new w [.int .i64 0, .int .i64 0] 74 0 _ rfl
  have c1 := cells_new w [.int .i64 0, .int .i64 0] 74 1 _ rfl
  have hne : w.heap.size ≠ j := by omega
  have HN := hide hnew
  have C0 := hide c0
  have C1 := hide c1
  clear hk hkl hR ht hk1 ht1 hj1 hj hnew c0 c1
  go_enter_defers Tryz.func41, Tryz.ntmps41
  go_wp2_with (go_at_call 98; refine (unhide HW).mono ?_; clear HW; rintro x w1 ⟨rfl, m, HU, HJ, HND⟩; have q0 : w1.cell? ⟨w.heap.size, 0, none⟩ = some (.int .i64 0) := (by rw [World.cell?_of_block (a := ⟨w.heap.size, 0, none⟩) ((unhide HU).block _ (unhide HN) hne)]; exact unhide C0); have q1 : w1.cell? ⟨w.heap.size, 1, none⟩ = some (.int .i64 0) := (by rw [World.cell?_of_block (a := ⟨w.heap.size, 1, none⟩) ((unhide HU).block _ (unhide HN) hne)]; exact unhide C1); have z0 : w1.frozen? ⟨w.heap.size, 0, none⟩ = false := (by rw [World.frozen?_of_block (a := ⟨w.heap.size, 0, none⟩) ((unhide HU).block _ (unhide HN) hne)]; exact World.frozen?_alloc_at _ _ _ _ rfl); have z1 : w1.frozen? ⟨w.heap.size, 1, none⟩ = false := (by rw [World.frozen?_of_block (a := ⟨w.heap.size, 1, none⟩) ((unhide HU).block _ (unhide HN) hne)]; exact World.frozen?_alloc_at _ _ _ _ rfl))
  have hl1 := World.block_lt_of_cell? w1 _ q0
  refine leaves_cons (f := 70) (args := #[.pointer (some ⟨w.heap.size, 0, none⟩)]) (by simp) (by simp [go_sem]) ?_
  refine (catch_idle ⟨w.heap.size, 0, none⟩ _).mono ?_
  rintro x u' w'' ⟨rfl, rfl, rfl⟩
  show Leaves _ _ _ _ [] .returning _
  refine ⟨.agg #[.int .i64 0, .int .i64 0], ?_, rfl, m, ?_, ?_, ?_⟩
  · simp [results, Tryz.results41, go_sem, q0, q1]
  · exact Up.setNew (Up.setNew ((Up.below ((Below.refl _ _).alloc (Nat.le_refl _) _)).trans (unhide HU)) _ _ _ (Nat.le_refl _)) _ _ _ (Nat.le_refl _)
  · exact NdAt.move (unhide HJ) ((Below.heap_setCell _ ⟨w.heap.size, 1, none⟩ _ j (Ne.symm hne)).trans (Below.heap_setCell _ ⟨w.heap.size, 0, none⟩ _ j (Ne.symm hne)))
  · exact NodeOK.move HND fun i hi _ => by
      have hi' : w.heap.size + 1 ≤ i := Nat.le_trans (Nat.le_of_eq (by simp)) hi
      exact ⟨(Below.heap_setCell _ ⟨w.heap.size, 1, none⟩ _ i (by show i ≠ w.heap.size; omega)).trans (Below.heap_setCell _ ⟨w.heap.size, 0, none⟩ _ i (by show i ≠ w.heap.size; omega)), by omega⟩
end Go.Proofs.YtfolanohokflkaaGreatDoor
