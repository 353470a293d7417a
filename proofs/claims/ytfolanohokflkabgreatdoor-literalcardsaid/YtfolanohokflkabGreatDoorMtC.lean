import Derived.Test.YtfolanohokflkabGreatDoorMnK
import Derived.Test.YtfolanohokflkabGreatDoorOfF
import Derived.Test.YtfolanohokflkabGreatDoorNsB
import Derived.Defers
import Derived.Recover
/-
  The states of a literal in the table.
-/
namespace Go.Proofs.YtfolanohokflkabGreatDoor
open Go.RowKit
open Classical in
/-- what a number tells apart. -/
noncomputable def clT (T : List Te) (n : Nat) : Spans := if h : ∃ l, ClsR T n l then Classical.choose h else []
theorem clT_eq {T : List Te} {n : Nat} {l : Spans} (h : ClsR T n l) : clT T n = l := by
  have he : ∃ l, ClsR T n l := ⟨l, h⟩
  unfold clT
  rw [dif_pos he]
  exact (Classical.choose_spec he).uniq h
def emT (T : List Te) (n : Nat) : Bool := (T.map (·.2)).getD n false
theorem emT_eq {T : List Te} {n : Nat} {x : Te} (h : T[n]? = some x) : x.2 = emT T n := by simp [emT, List.getD, h]
theorem LitT.uniq {T : List Te} (hT : LT T) {n : Nat} {u u' : List Nat} (h : LitT T n u) (h' : LitT T n u') : u = u' := by
  have a := walk_any hT u u n [] h
  have b := walk_any hT u u' n [] h'
  rw [a] at b
  simpa using b
theorem LitT.not0 {T : List Te} (hT : LT T) {u : List Nat} (h : LitT T 0 u) : False := by
  have a := walk_any hT u u 0 [] h
  rw [walk_none hT, he_none hT] at a
  simp at a
/-- one step of a literal. -/
structure StpE (T : List Te) (n c m : Nat) : Prop where
  row : Row T m → Row T n
  cls : ClsR T n (oneS c)
  stp : ∀ x : Int, stpT T n x = if x = (c : Int) then m else 0
  emp : LT T → emT T n = false
  low : c < 128
theorem LitT.states {T : List Te} {n : Nat} {u : List Nat} (h : LitT T n u) : ∃ E : Nat → Nat, E u.length = n ∧ E 0 = 1 ∧ (∀ j, j ≤ u.length → LitT T (E j) (u.drop (u.length - j))) ∧ ∀ j, 1 ≤ j → j ≤ u.length → StpE T (E j) (u.getD (u.length - j) 0) (E (j - 1)) := by
  induction h with
  | empty => exact ⟨fun _ => 1, rfl, rfl, fun j _ => by simpa using LitT.empty, fun j h1 h2 => by simp at h2; omega⟩
  | @one n c k b hc a k0 s0 =>
    refine ⟨fun j => if j = 0 then 1 else n, by simp, by simp, fun j hj => ?_, fun j h1 h2 => ?_⟩
    · simp at hj
      by_cases e : j = 0
      · subst e; simpa using LitT.empty
      · have : j = 1 := by omega
        subst this
        simpa using LitT.one hc a k0 s0
    · simp at h2
      have : j = 1 := by omega
      subst this
      have hcls : ClsR T n (oneS c) := ⟨_, a, .inl ⟨k0, isSet_of hc s0⟩⟩
      refine ⟨fun _ => ?_, by simpa using hcls, fun x => ?_, fun hT => ?_, by simpa using hc⟩
      · simpa using Row.set a k0 (isSet_of hc s0)
      · have := (stpT_eq (T := T) (n := n) (c := x) ⟨_, a, .inl ⟨k0, _, isSet_of hc s0, rfl⟩⟩).symm
        rw [one_in] at this
        simpa using this
      · have hb := (hT.sf n _ a).1 k0
        simp only at hb
        simp [emT, List.getD, a, hb]
  | @more n i j c k b y u hc a k0 f s hy hi hj e d l hv ih =>
    obtain ⟨E', e1, e2, e3, e4⟩ := ih
    have hfull : LitT T n (c :: u) := .more hc a k0 f s hy hi hj e d l hv
    refine ⟨fun q => if q ≤ u.length then E' q else n, if_neg (show ¬ u.length + 1 ≤ u.length by omega), by simp [e2], fun q hq => ?_, fun q h1 h2 => ?_⟩
    · simp only [List.length_cons] at hq ⊢
      by_cases hle : q ≤ u.length
      · rw [if_pos hle, show u.length + 1 - q = (u.length - q) + 1 from by omega, List.drop_succ_cons]
        exact e3 q hle
      · have : q = u.length + 1 := by omega
        subst this
        rw [if_neg hle, Nat.sub_self]
        exact hfull
    · simp only [List.length_cons] at h2 ⊢
      by_cases hle : q ≤ u.length
      · rw [if_pos hle, if_pos (by omega), show u.length + 1 - q = (u.length - q) + 1 from by omega, List.getD_cons_succ]
        exact e4 q h1 hle
      · have : q = u.length + 1 := by omega
        subst this
        rw [if_neg hle, Nat.sub_self, if_pos (by omega)]
        have em1 : E' (u.length + 1 - 1) = j := e1
        rw [em1]
        have hset := isSet_of hc l
        refine ⟨fun hr => .chain a k0 f s hy hi hj e d hset hr, ⟨_, a, .inr (.inr ⟨k0, i, y, f, hy, hi, e, d, hset⟩)⟩, fun x => ?_, fun hT => ?_, hc⟩
        · have := (stpT_eq (T := T) (n := n) (c := x) ⟨_, a, .inr (.inr ⟨k0, i, j, y, f, s, hy, hi, hj, e, d, _, hset, rfl⟩)⟩).symm
          rw [one_in] at this
          simpa using this
        · have hb := (hT.sf n _ a).2 k0 i y f hy e
          simp only at hb
          simp [emT, List.getD, a, hb]
theorem bord_nil : bordersP [] = [0] := by decide
theorem lit_ls {T : List Te} (hT : LT T) {n : Nat} {u : List Nat} (h : LitT T n u) (hu : u.length ≤ 20) : ∃ E v : Nat → Nat, E u.length = n ∧ LS T u.length E v (clT T) (emT T) := by
  obtain ⟨E, e1, e2, e3, e4⟩ := h.states
  have c0 : ClsR T 0 [] := ⟨_, hT.get (i := 0) (x := (⟨0, ⟨#[]⟩, 0, 0⟩, false)) rfl, .inl ⟨rfl, isSet_nil⟩⟩
  have c1 : ClsR T 1 [] := ⟨_, hT.get (i := 1) (x := (⟨1, ⟨#[]⟩, 0, 0⟩, true)) rfl, .inr (.inl ⟨rfl, rfl⟩)⟩
  have hrow : ∀ j, j ≤ u.length → Row T (E j) := by
    intro j
    induction j with
    | zero => intro _; rw [e2]; exact hT.row1
    | succ j ih => intro hj; exact (e4 (j + 1) (by omega) hj).row (ih (by omega))
  refine ⟨fun j => if j ≤ u.length then E j else 0, fun j => u.getD (u.length - j) 0, by simp [e1], ⟨?_, ?_, ?_, ?_, ?_, ?_, ?_, ?_, ?_⟩, fun j hj => ?_, hu⟩
  · intro i j hi hj he
    by_cases h1 : i ≤ u.length <;> by_cases h2 : j ≤ u.length
    · simp only [if_pos h1, if_pos h2] at he
      have a := e3 i h1
      have b := e3 j h2
      rw [he] at a
      have := congrArg List.length (a.uniq hT b)
      simp only [List.length_drop] at this
      omega
    · simp only [if_pos h1, if_neg h2] at he
      have a := e3 i h1
      rw [he] at a
      exact (a.not0 hT).elim
    · simp only [if_neg h1, if_pos h2] at he
      have a := e3 j h2
      rw [← he] at a
      exact (a.not0 hT).elim
    · omega
  · intro j hj
    by_cases h1 : j ≤ u.length
    · simp only [if_pos h1]
      by_cases h0 : j = 0
      · subst h0
        rw [e2, ← emT_eq (hT.get (i := 1) (x := (⟨1, ⟨#[]⟩, 0, 0⟩, true)) rfl)]
        rfl
      · rw [(e4 j (by omega) h1).emp hT]
        simp [h0]
    · simp only [if_neg h1]
      rw [← emT_eq (hT.get (i := 0) (x := (⟨0, ⟨#[]⟩, 0, 0⟩, false)) rfl)]
      have : j ≠ 0 := by omega
      simp [this]
  · intro j h1 h2
    simp only [if_pos h2]
    have hs := e4 j h1 h2
    rw [clT_eq hs.cls]
    exact bord_one ⟨_, hs.low⟩
  · simp only [if_pos (Nat.zero_le _)]
    rw [e2, clT_eq c1, bord_nil]
  · simp only [if_neg (show ¬ u.length + 1 ≤ u.length by omega)]
    rw [clT_eq c0, bord_nil]
  · intro j h1 h2
    simp only [if_pos h2, if_pos (show j - 1 ≤ u.length by omega)]
    rw [(e4 j h1 h2).stp, if_pos rfl]
  · intro j x h1 h2 hx
    simp only [if_pos h2, if_neg (show ¬ u.length + 1 ≤ u.length by omega)]
    rw [(e4 j h1 h2).stp, if_neg hx]
  · intro x
    simp only [if_pos (Nat.zero_le _), if_neg (show ¬ u.length + 1 ≤ u.length by omega)]
    rw [e2, stp_empty hT]
  · intro x
    simp only [if_neg (show ¬ u.length + 1 ≤ u.length by omega)]
    exact stp_none hT x
  · by_cases h1 : j ≤ u.length
    · simp only [if_pos h1]
      have hr := hrow j h1
      refine ⟨hr, ?_, T[E j]'hr.lt, List.getElem?_eq_getElem _, emT_eq (List.getElem?_eq_getElem _)⟩
      by_cases h0 : j = 0
      · subst h0
        rw [e2, clT_eq c1]
        exact c1
      · have hs := e4 j (by omega) h1
        rw [clT_eq hs.cls]
        exact hs.cls
    · simp only [if_neg h1]
      refine ⟨hT.row0, by rw [clT_eq c0]; exact c0, _, hT.get (i := 0) (x := (⟨0, ⟨#[]⟩, 0, 0⟩, false)) rfl, emT_eq (hT.get (i := 0) (x := (⟨0, ⟨#[]⟩, 0, 0⟩, false)) rfl)⟩
theorem LT.tok {T : List Te} (hT : LT T) (hl : T.length ≤ LIM) : TOk T := ⟨hT.wf, by have := hT.len; omega, hl, hT.row0, hT.row1⟩
end Go.Proofs.YtfolanohokflkabGreatDoor

/-
  What Match does under attempt, where the pattern is a literal, of any text.
-/
namespace Go.Proofs.YtfolanohokflkabGreatDoor
open Go.RowKit
def sysOf (u : List Nat) : List Int := u.map fun (c : Nat) => (c : Int)
set_option maxRecDepth 100000 in
set_option maxHeartbeats 4000000 in
theorem work_match {w : World} {x u : List Nat} {k0 k1 k2 k3 : Nat} {m : Nd} {B : Int} (hu : x.length ≤ 60) (hu2 : ∀ c ∈ x, c < 128) (hB : (x.length : Int) < B) (h0 : Hid (NdAt w k0 m)) (h1 : w.cell? ⟨k1, 0, none⟩ = some (.string (runesBytes (sysOf x)))) (h2 : w.cell? ⟨k2, 0, none⟩ = some (.int .i64 B)) (h3 : w.cell? ⟨k3, 0, none⟩ = some (.bool false)) (h3z : w.frozen? ⟨k3, 0, none⟩ = false)
    (HO : Hid (∀ (X : World) (t : TB), Hid (Below w.heap.size w X) → Hid (Tab X t tab0 (numPairs tab0) [] []) → Calls Tryz.prog 27 #[.pointer (some ⟨t.tb, 0, none⟩), vNd m] X fun e w' => ∃ (n : Nat) (t' : TB) (T : List Te), e = .returned (.int .i64 n) ∧ Hid (LitR2 u n T) ∧ Hid (Tab w' t' T (numPairs T) [] []) ∧ Hid (TFr t t' X w'))) :
    Calls Tryz.prog 31 #[.pointer (some ⟨k0, 0, none⟩), .pointer (some ⟨k1, 0, none⟩), .pointer (some ⟨k2, 0, none⟩), .pointer (some ⟨k3, 0, none⟩)] w fun e w' => e = .returned (.tuple #[]) ∧ ∃ W, Hid (Below w.heap.size w W) ∧ w' = W.setCell ⟨k3, 0, none⟩ (.bool (decide (x = u))) := by
  obtain ⟨tf, htf⟩ : ∃ tf, decide (x = u) = tf := ⟨_, rfl⟩
  rw [htf]
  have hlen : (sysOf x).length = x.length := List.length_map _
  have HN := hide (newSearch_any (w := w) (m := m) (cs := sysOf x) (B := B) (R := LitR2 u) (by omega) (fun c hc => by
    obtain ⟨d, hd, rfl⟩ := List.mem_map.1 hc
    have := hu2 d hd
    exact isSym_iff.2 (by omega)) HO)
  have HS : Hid (∀ (e : Ending) (w1 : World), NSOut w B (sysOf x) (LitR2 u) e w1 → ∃ sb : Nat, e = .returned (.pointer (some ⟨sb, 0, none⟩)) ∧ Hid (Below w.heap.size w w1) ∧ Hid (Calls Tryz.prog 33 #[.pointer (some ⟨sb, 0, none⟩)] w1 fun e w' => e = .returned (.bool tf) ∧ Hid (Below w.heap.size w1 w'))) := by
    rintro e w1 ⟨sb, mb, cb, cap, n, t, T, rfl, hs, ha, hr, hb⟩
    obtain ⟨r1, r2, r3⟩ := unhide hr
    rw [← htf]
    exact ⟨sb, rfl, hb, hide (takesAll_any hs ha hu hu2 r1 (Nat.le_trans r2 (by decide)) r3 hB)⟩
  obtain ⟨c0, c1, c2, c3, c4, c5, c6⟩ := NdAt.cells (unhide h0)
  have hk3 := World.block_lt_of_cell? w _ h3
  have H3 := hide h3
  have H3Z := hide h3z
  clear h3 h3z HO h0 hlen htf
  simp only [vNd] at HN
  generalize runesBytes (sysOf x) = s at *
  go_enter Tryz.func31, Tryz.ntmps31
  go_wp2_with (first
    | (go_at_call 32; refine (unhide HN).mono ?_; clear HN; intro ex w1 hx; obtain ⟨sb, rfl, HB1, HT1⟩ := unhide HS ex w1 hx; clear hx HS)
    | (go_at_call 33; refine (unhide HT1).mono ?_; clear HT1; rintro ex w2 ⟨rfl, HB2⟩; have HB3 : Hid (Below w.heap.size w w2) := (unhide HB1).trans (unhide HB2); have q3 : w2.cell? ⟨k3, 0, none⟩ = some (.bool false) := cell_under HB3 hk3 (unhide H3); have z3 : w2.frozen? ⟨k3, 0, none⟩ = false := (by rw [World.frozen?_of_block (a := ⟨k3, 0, none⟩) ((unhide HB3).block _ hk3)]; exact unhide H3Z)))
  go_end0
  exact ⟨rfl, w2, HB3, rfl⟩
end Go.Proofs.YtfolanohokflkabGreatDoor

/-
  attempt over Match's work.
-/
namespace Go.Proofs.YtfolanohokflkabGreatDoor
open Go.RowKit
set_option maxRecDepth 100000 in
set_option maxHeartbeats 4000000 in
theorem attempt_match {w : World} {x u : List Nat} {k0 k1 k2 k3 : Nat} {m : Nd} {B : Int} (hu : x.length ≤ 60) (hu2 : ∀ c ∈ x, c < 128) (hB : (x.length : Int) < B) (h0 : Hid (NdAt w k0 m)) (h1 : w.cell? ⟨k1, 0, none⟩ = some (.string (runesBytes (sysOf x)))) (h2 : w.cell? ⟨k2, 0, none⟩ = some (.int .i64 B)) (h3 : w.cell? ⟨k3, 0, none⟩ = some (.bool false)) (h3z : w.frozen? ⟨k3, 0, none⟩ = false)
    (HO : Hid (∀ (X : World) (t : TB), Hid (Below w.heap.size w X) → Hid (Tab X t tab0 (numPairs tab0) [] []) → Calls Tryz.prog 27 #[.pointer (some ⟨t.tb, 0, none⟩), vNd m] X fun e w' => ∃ (n : Nat) (t' : TB) (T : List Te), e = .returned (.int .i64 n) ∧ Hid (LitR2 u n T) ∧ Hid (Tab w' t' T (numPairs T) [] []) ∧ Hid (TFr t t' X w'))) :
    Calls Tryz.prog 23 #[.func (.func 31) #[] #[.pointer (some ⟨k0, 0, none⟩), .pointer (some ⟨k1, 0, none⟩), .pointer (some ⟨k2, 0, none⟩), .pointer (some ⟨k3, 0, none⟩)]] w fun e w' => e = .returned (.agg #[.int .i64 0, .int .i64 0]) ∧ Hid (Up k3 w w') ∧ w'.cell? ⟨k3, 0, none⟩ = some (.bool (decide (x = u))) := by
  have hmf : ∀ (fn : Fn) (first cap : Array Value) (w : World), (Instr.makeFunc fn first cap).run Tryz.prog w = .ok (.func fn first cap) w := fun _ _ _ _ => rfl
  have hl1 := World.block_lt_of_cell? w _ h1
  have hl2 := World.block_lt_of_cell? w _ h2
  have hl3 := World.block_lt_of_cell? w _ h3
  have HA : Hid (Below w.heap.size w (w.alloc (.cells #[.int .i64 0, .int .i64 0] 57))) := (Below.refl _ _).alloc (Nat.le_refl _) _
  have HW := hide (work_match (w := w.alloc (.cells #[.int .i64 0, .int .i64 0] 57)) hu hu2 hB (NdAt.alloc h0 _) (cell_under HA hl1 h1) (cell_under HA hl2 h2) (cell_under HA hl3 h3) (by rw [World.frozen?_of_block (a := ⟨k3, 0, none⟩) ((unhide HA).block _ hl3)]; exact h3z) (hide fun X t hb ht => unhide HO X t ((unhide HA).trans ((unhide hb).mono (unhide HA).size)) ht))
  generalize decide (x = u) = tf at HW ⊢
  have hnew : w.heap.size < (w.alloc (.cells #[.int .i64 0, .int .i64 0] 57)).heap.size := by simp
  have c0 := cells_new w [.int .i64 0, .int .i64 0] 57 0 _ rfl
  have c1 := cells_new w [.int .i64 0, .int .i64 0] 57 1 _ rfl
  have hne : w.heap.size ≠ k3 := by have : k3 < w.heap.size := hl3; omega
  have HN := hide hnew
  have C0 := hide c0
  have C1 := hide c1
  have H3 := hide h3
  have HL3 : Hid (k3 < w.heap.size) := hl3
  clear h0 h1 h2 h3 h3z HO hl1 hl2 hl3 hnew c0 c1
  generalize runesBytes (sysOf x) = s at *
  go_enter_defers Tryz.func23, Tryz.ntmps23
  go_wp2_with (go_at_call 31; refine (unhide HW).mono ?_; clear HW; rintro e w1 ⟨rfl, W, HB, ew⟩; have HU : Hid (Up k3 (w.alloc (.cells #[.int .i64 0, .int .i64 0] 57)) w1) := (by rw [ew]; exact (Up.below (unhide HB)).trans ⟨rfl, rfl, rfl, by simp [World.setCell], fun j _ hb => Below.heap_setCell W ⟨k3, 0, none⟩ _ j hb⟩); have Q3 : Hid (w1.cell? ⟨k3, 0, none⟩ = some (.bool tf)) := (by rw [ew]; exact World.cell?_setCell_same _ _ _ (cell_under HB (Nat.lt_trans (unhide HL3) (unhide HN)) (cell_under HA (unhide HL3) (unhide H3)))); clear ew; have q0 : w1.cell? ⟨w.heap.size, 0, none⟩ = some (.int .i64 0) := (by rw [World.cell?_of_block (a := ⟨w.heap.size, 0, none⟩) ((unhide HU).block _ (unhide HN) hne)]; exact unhide C0); have q1 : w1.cell? ⟨w.heap.size, 1, none⟩ = some (.int .i64 0) := (by rw [World.cell?_of_block (a := ⟨w.heap.size, 1, none⟩) ((unhide HU).block _ (unhide HN) hne)]; exact unhide C1); have z0 : w1.frozen? ⟨w.heap.size, 0, none⟩ = false := (by rw [World.frozen?_of_block (a := ⟨w.heap.size, 0, none⟩) ((unhide HU).block _ (unhide HN) hne)]; exact World.frozen?_alloc_at _ _ _ _ rfl); have z1 : w1.frozen? ⟨w.heap.size, 1, none⟩ = false := (by rw [World.frozen?_of_block (a := ⟨w.heap.size, 1, none⟩) ((unhide HU).block _ (unhide HN) hne)]; exact World.frozen?_alloc_at _ _ _ _ rfl))
  have hl1 := World.block_lt_of_cell? w1 _ q0
  refine leaves_cons (f := 44) (args := #[.pointer (some ⟨w.heap.size, 0, none⟩)]) (by simp) (by simp [go_sem]) ?_
  refine (catch_idle ⟨w.heap.size, 0, none⟩ _).mono ?_
  rintro e u' w'' ⟨rfl, rfl, rfl⟩
  show Leaves _ _ _ _ [] .returning _
  refine ⟨.agg #[.int .i64 0, .int .i64 0], ?_, rfl, ?_, ?_⟩
  · simp [results, Tryz.results23, go_sem, q0, q1]
  · exact Up.setNew (Up.setNew ((Up.below ((Below.refl _ _).alloc (Nat.le_refl _) _)).trans (unhide HU)) _ _ _ (Nat.le_refl _)) _ _ _ (Nat.le_refl _)
  · rw [World.cell?_of_block (a := ⟨k3, 0, none⟩) ((Below.heap_setCell _ ⟨w.heap.size, 1, none⟩ _ k3 (Ne.symm hne)).trans (Below.heap_setCell _ ⟨w.heap.size, 0, none⟩ _ k3 (Ne.symm hne)))]
    exact unhide Q3
end Go.Proofs.YtfolanohokflkabGreatDoor

/-
  Match: a literal and any text.
-/
namespace Go.Proofs.YtfolanohokflkabGreatDoor
open Go.RowKit
theorem match_args {w2 : World} {k : Nat} {v : Value} (h : w2.cell? ⟨k, 0, none⟩ = some v) (o1 o2 : Obj) : ((w2.alloc o1).alloc o2).cell? ⟨k, 0, none⟩ = some v := by
  have hl := World.block_lt_of_cell? w2 _ h
  have e1 : (w2.alloc o1).cell? ⟨k, 0, none⟩ = some v := by rw [World.cell?_alloc_past _ _ _ hl]; exact h
  rw [World.cell?_alloc_past _ _ _ (World.block_lt_of_cell? _ _ e1)]; exact e1
set_option maxRecDepth 100000 in
set_option maxHeartbeats 4000000 in
theorem match_any {w : World} {p : ByteArray} {x u : List Nat} {B : Int} {z : Pn} (hs : p.size ≤ 60) (hus : (runesBytes (sysOf x)).size ≤ 60) (hu : x.length ≤ 60) (hu2 : ∀ c ∈ x, c < 128) (ht : Hid (Lib.Utf8Tabs 4 5 w)) (hR : Hid (treeR p = .ok z)) (hz : ¬ 60 < z.2) (hB : (x.length : Int) < B) (hB1 : B ≤ 200)
    (HO : Hid (∀ (W : World) (b : Nat) (m : Nd) (X : World) (t : TB), Hid (NodeOK W (fun k => b < k) m z) → Hid (Below W.heap.size W X) → Hid (Tab X t tab0 (numPairs tab0) [] []) → Calls Tryz.prog 27 #[.pointer (some ⟨t.tb, 0, none⟩), vNd m] X fun e w' => ∃ (n : Nat) (t' : TB) (T : List Te), e = .returned (.int .i64 n) ∧ Hid (LitR2 u n T) ∧ Hid (Tab w' t' T (numPairs T) [] []) ∧ Hid (TFr t t' X w'))) :
    Calls Tryz.prog 15 #[.string p, .string (runesBytes (sysOf x)), .int .i64 B] w fun e w' => e = .returned (.tuple #[.bool (decide (x = u)), .int .i64 0]) ∧ Hid (Below w.heap.size w w') := by
  obtain ⟨tf, htf⟩ : ∃ tf, decide (x = u) = tf := ⟨_, rfl⟩
  rw [htf]
  obtain ⟨wb, hwb⟩ : ∃ wb, (w.alloc (.cells #[.string (runesBytes (sysOf x))] 9)).alloc (.cells #[.int .i64 B] 3) = wb := ⟨_, rfl⟩
  have s1 : (w.alloc (.cells #[.string (runesBytes (sysOf x))] 9)).heap.size = w.heap.size + 1 := by simp
  have HBb : Hid (Below w.heap.size w wb) := by
    rw [← hwb]
    exact ((Below.refl _ _).alloc (Nat.le_refl _) _).alloc (by rw [s1]; omega) _
  have htb : Hid (Lib.Utf8Tabs 4 5 wb) := by
    have hlt := tabs_lt (unhide ht)
    exact tabs_of (unhide ht) ((unhide HBb).block 4 (by omega)) ((unhide HBb).block 5 (by omega))
  have b1 : wb.cell? ⟨w.heap.size, 0, none⟩ = some (.string (runesBytes (sysOf x))) := by
    rw [← hwb, World.cell?_alloc_past _ _ _ (by show w.heap.size < _; rw [s1]; omega)]
    exact cells_at rfl 0 rfl
  have b2 : wb.cell? ⟨w.heap.size + 1, 0, none⟩ = some (.int .i64 B) := by
    rw [← hwb, ← s1]
    exact cells_at rfl 0 rfl
  have HBT := hide (beginText_ok (w := wb) (u := runesBytes (sysOf x)) (B := B) hs hus htb hR hz (by omega) hB1)
  have hmf : ∀ (fn : Fn) (first cap : Array Value) (w : World), (Instr.makeFunc fn first cap).run Tryz.prog w = .ok (.func fn first cap) w := fun _ _ _ _ => rfl
  have HAM : Hid (∀ (w2 : World) (m : Nd), Hid (Below wb.heap.size wb w2) → Hid (NodeOK w2 (fun k => wb.heap.size < k) m z) → Calls Tryz.prog 23 #[.func (.func 31) #[] #[.pointer (some ⟨w2.heap.size, 0, none⟩), .pointer (some ⟨w.heap.size, 0, none⟩), .pointer (some ⟨w.heap.size + 1, 0, none⟩), .pointer (some ⟨w2.heap.size + 1, 0, none⟩)]] ((w2.alloc (obNd m)).alloc (.cells #[.bool false] 4)) fun e w' => e = .returned (.agg #[.int .i64 0, .int .i64 0]) ∧ Hid (Below w.heap.size w w') ∧ w'.cell? ⟨w2.heap.size + 1, 0, none⟩ = some (.bool tf)) := by
    intro w2 m hb hn
    have hw2 : (w2.alloc (obNd m)).heap.size = w2.heap.size + 1 := by simp
    have hb0 : Below w.heap.size w w2 := (unhide HBb).trans ((unhide hb).mono (unhide HBb).size)
    have hA : Below w2.heap.size w2 ((w2.alloc (obNd m)).alloc (.cells #[.bool false] 4)) := ((Below.refl _ _).alloc (Nat.le_refl _) _).alloc (by rw [hw2]; omega) _
    have hc3 : ((w2.alloc (obNd m)).alloc (.cells #[.bool false] 4)).cell? ⟨w2.heap.size + 1, 0, none⟩ = some (.bool false) := by rw [← hw2]; exact cells_at rfl 0 rfl
    have hz3 : ((w2.alloc (obNd m)).alloc (.cells #[.bool false] 4)).frozen? ⟨w2.heap.size + 1, 0, none⟩ = false := by rw [← hw2]; exact World.frozen?_alloc_at _ _ _ _ rfl
    refine (attempt_match hu hu2 hB (NdAt.alloc (hide (NdAt.new w2 m)) _) (cell_under (hide hA) (World.block_lt_of_cell? _ _ (cell_under hb (World.block_lt_of_cell? _ _ b1) b1)) (cell_under hb (World.block_lt_of_cell? _ _ b1) b1)) (cell_under (hide hA) (World.block_lt_of_cell? _ _ (cell_under hb (World.block_lt_of_cell? _ _ b2) b2)) (cell_under hb (World.block_lt_of_cell? _ _ b2) b2)) hc3 hz3 (hide fun X t hb' ht => unhide HO w2 wb.heap.size m X t hn (hide (hA.trans ((unhide hb').mono hA.size))) ht)).mono ?_
    rintro ex w' ⟨e, hU, hc⟩
    rw [htf] at hc
    have hU' := unhide hU
    have hAs := hA.size
    refine ⟨e, ⟨hU'.os.trans (hA.os.trans hb0.os), hU'.tape.trans (hA.tape.trans hb0.tape), hU'.output.trans (hA.output.trans hb0.output), Nat.le_trans hb0.size (Nat.le_trans hAs hU'.size), fun k hk => ?_⟩, hc⟩
    have h2 := hb0.size
    exact (hU'.block k (by omega) (by omega)).trans ((hA.block k (by omega)).trans (hb0.block k hk))
  clear HO ht htb hR hz hs hus b1 b2 HBb s1 htf
  generalize runesBytes (sysOf x) = s at *
  subst hwb
  go_enter Tryz.func15, Tryz.ntmps15
  go_wp2_with (first
    | (go_at_call 30; refine (unhide HBT).mono ?_; clear HBT; simp only [vNd]; rintro ex w2 ⟨m, rfl, HB2, HN2⟩; have HA2 := hide (unhide HAM w2 m HB2 HN2); clear HAM)
    | (go_at_call 23; refine (unhide HA2).mono ?_; clear HA2; rintro ex w3 ⟨rfl, HB3, q3⟩; have q4 := World.block_lt_of_cell? w3 _ q3))
  have g1 : (w3.alloc (.cells #[.int .i64 0, .int .i64 0] 57)).cell? ⟨w2.heap.size + 1, 0, none⟩ = some (.bool tf) := by rw [World.cell?_alloc_past _ _ _ q4]; exact q3
  have g2 : (w3.alloc (.cells #[.int .i64 0, .int .i64 0] 57)).cell? ⟨w3.heap.size, 0, none⟩ = some (.int .i64 0) := cells_at rfl 0 rfl
  have HB4 : Hid (Below w.heap.size w (w3.alloc (.cells #[.int .i64 0, .int .i64 0] 57))) := (unhide HB3).alloc (unhide HB3).size _
  generalize w3.alloc (.cells #[.int .i64 0, .int .i64 0] 57) = W4 at *
  go_quiet (fail)
  go_wp2_with fail
  have h := unhide HB4
  refine bodyPost_ret (v := .tuple #[.bool tf, .int .i64 0]) ?_ rfl ⟨rfl, ⟨h.os, h.tape, h.output, h.size, h.block⟩⟩
  simp [results, Tryz.results15, go_sem]
end Go.Proofs.YtfolanohokflkabGreatDoor
