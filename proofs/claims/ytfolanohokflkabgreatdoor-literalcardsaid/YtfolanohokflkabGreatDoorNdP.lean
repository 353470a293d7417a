import Derived.Test.YtfolanohokflkabGreatDoorBecA
import Derived.Test.YtfolanohokflkabGreatDoorSrC
import Derived.Test.YtfolanohokflkabGreatDoorNdL
import Derived.WalkKit
import Derived.WalkSpells
import Derived.WalkLawsBesides
import Derived.WalkMore
/-
  The set of one symbol below 128.
-/
namespace Go.Proofs.YtfolanohokflkabGreatDoor
open Go.RowKit
abbrev oneS (c : Nat) : Spans := [((c : Int), (c : Int))]
theorem oth_one : ∀ c : Fin 128, othS (oneS c.val) = if c.val = 0 then [(1, 1114111)] else [(0, (c.val : Int) - 1), ((c.val : Int) + 1, 1114111)] := by decide +kernel
theorem bord_one : ∀ c : Fin 128, bordersP (oneS c.val) = if c.val = 0 then [0, 1] else [0, (c.val : Int), (c.val : Int) + 1] := by decide +kernel
theorem one_in (c : Nat) (x : Int) : inS (oneS c) x = decide (x = (c : Int)) := by
  unfold inS
  simp
  by_cases h : x = (c : Int)
  · simp [h]
  · simp [h]; omega
theorem wf32 {y : Int} (h0 : 0 ≤ y) (h1 : y ≤ 1000000) : (Lit.int .i32 y).wf = true := by
  have a1 : IntKind.i32.min ≤ y := Int.le_trans (by decide) h0
  have a2 : y ≤ IntKind.i32.max := Int.le_trans (b := 1000000) h1 (by decide)
  show (decide (IntKind.i32.min ≤ y) && decide (y ≤ IntKind.i32.max)) = true
  rw [decide_eq_true a1, decide_eq_true a2]
  rfl
theorem isSet_one {c : Nat} (hc : c < 128) : IsSet (encS (oneS c)) (oneS c) := by
  have ho := oth_one ⟨c, hc⟩
  have hb := bord_one ⟨c, hc⟩
  dsimp only at ho hb
  have ht : Tidy (oneS c) := by
    refine ⟨?_, ?_, ?_, ?_, trivial⟩ <;> simp [isSym_iff] <;> omega
  have hot := othS_tidy (TidyF.pos ht)
  by_cases h0 : c = 0
  · subst h0
    rw [if_pos rfl] at ho hb
    refine ⟨rfl, ht, by rw [ho]; decide, by rw [ho]; decide, hot, by rw [hb]; decide, by rw [hb]; decide, by rw [hb]; decide, by rw [hb]; decide, ?_⟩
    intro x i hx hB hne
    rw [hb] at hB hne ⊢
    have h2 := hB.ln
    simp only [List.length_cons, List.length_nil] at h2
    match i, h2 with
    | 0, _ =>
      have a1 := hB.lo 0 (by omega)
      have a2 := hB.hi 1 (by omega) (by decide)
      simp at a1 a2 hne
      omega
    | 1, _ =>
      have a1 := hB.lo 1 (by omega)
      simp at a1
      rw [one_in, one_in]
      simp
      omega
  · rw [if_neg h0] at ho hb
    have hcI : (0 : Int) < (c : Int) := by omega
    refine ⟨rfl, ht, by rw [ho]; simp, by rw [ho]; simp, hot, ?_, by rw [hb]; rfl, ?_, ?_, ?_⟩
    · rw [hb]
      simp
      omega
    · rw [hb]
      intro y hy
      simp at hy
      rcases hy with rfl | rfl | rfl
      · decide
      · exact wf32 (by omega) (by omega)
      · exact wf32 (by omega) (by omega)
    · rw [hb]
      intro y hy
      simp at hy
      rcases hy with rfl | rfl | rfl
      · decide
      · exact isSym_iff.2 (by omega)
      · exact isSym_iff.2 (by omega)
    · intro x i hx hB hne
      rw [hb] at hB hne ⊢
      have h2 := hB.ln
      simp only [List.length_cons, List.length_nil] at h2
      match i, h2 with
      | 0, _ =>
        have a1 := hB.lo 0 (by omega)
        have a2 := hB.hi 1 (by omega) (by simp)
        simp at a1 a2 hne
        rw [one_in, one_in]
        simp
        omega
      | 1, _ =>
        have a1 := hB.lo 1 (by omega)
        have a2 := hB.hi 2 (by omega) (by simp)
        simp at a1 a2 hne
        omega
      | 2, _ =>
        have a1 := hB.lo 2 (by omega)
        simp at a1
        rw [one_in, one_in]
        simp
        omega
end Go.Proofs.YtfolanohokflkabGreatDoor

/-
  A literal in the table, and its own text.
-/
namespace Go.Proofs.YtfolanohokflkabGreatDoor
open Go.RowKit
/-- the term of that number stands for that text alone. -/
inductive LitT (T : List Te) : Nat → List Nat → Prop where
  | empty : LitT T 1 []
  | one {n c : Nat} {k : Ky} {b : Bool} : c < 128 → T[n]? = some (k, b) → k.kd = 0 → k.st = encS (oneS c) → LitT T n [c]
  | more {n i j c : Nat} {k : Ky} {b : Bool} {y : Te} {u : List Nat} : c < 128 → T[n]? = some (k, b) → k.kd = 2 → k.fi = (i : Int) → k.se = (j : Int) → T[i]? = some y → i < n → j < T.length → y.2 = false → y.1.kd = 0 → y.1.st = encS (oneS c) → LitT T j u → LitT T n (c :: u)
theorem isSet_of {st : ByteArray} {c : Nat} (hc : c < 128) (h : st = encS (oneS c)) : IsSet st (oneS c) := h ▸ isSet_one hc
theorem LitT.row {T : List Te} {n : Nat} {u : List Nat} (h : LitT T n u) (h1 : Row T 1) : Row T n := by
  induction h with
  | empty => exact h1
  | one hc a k s => exact .set a k (isSet_of hc s)
  | more hc a k f s y i j e d l _ ih => exact .chain a k f s y i j e d (isSet_of hc l) ih
theorem in_one {c : Nat} : inS (oneS c) (c : Int) = true := by simp [inS, oneS]
theorem LitT.walk {T : List Te} {n : Nat} {u : List Nat} (h : LitT T n u) : ∀ M, ((u.map fun (c : Nat) => (c : Int)).foldl (trP (stpT T)) (n, M)).1 = 1 := by
  induction h with
  | empty => exact fun _ => rfl
  | @one n c k b hc a k s =>
    intro M
    have hb : BecR T n c 1 := ⟨_, a, .inl ⟨k, _, isSet_of hc s, by rw [in_one]; rfl⟩⟩
    exact (stpT_eq hb).symm
  | @more n i j c k b y u hc a k f s hy hi hj e d l _ ih =>
    intro M
    have hb : BecR T n c j := ⟨_, a, .inr (.inr ⟨k, i, j, y, f, s, hy, hi, hj, e, d, _, isSet_of hc l, by rw [in_one]; rfl⟩)⟩
    show ((u.map fun (c : Nat) => (c : Int)).foldl (trP (stpT T)) (trP (stpT T) (n, M) c)).1 = 1
    unfold trP
    rw [show stpT T n c = j from (stpT_eq hb).symm]
    exact ih _
theorem addM_most (M : List Nat) (n : Nat) : (addM M n).length ≤ M.length + 1 := by
  unfold addM
  split
  · omega
  · simp
theorem trP_most (stp : Nat → Int → Nat) : ∀ (l : List Int) (p : Nat × List Nat), (l.foldl (trP stp) p).2.length ≤ p.2.length + l.length
  | [], _ => Nat.le_refl _
  | c :: l, p => by
    have h := trP_most stp l (trP stp p c)
    have h2 : (trP stp p c).2.length ≤ p.2.length + 1 := addM_most _ _
    show (l.foldl (trP stp) (trP stp p c)).2.length ≤ _
    rw [List.length_cons]
    omega
/-- a literal takes its own text, if the budget is one more than its symbols. -/
theorem takesAll_lit {w : World} {b0 sb mb tb : Nat} {t : TB} {T : List Te} {S C : List (Value × Value)} {KP : Nat → Prop} {B : Int} {n0 : Nat} {u : List Nat} {ao : Option Addr} {cap : Nat} {x1 : Te}
    (h : Hid (Sr w w b0 mb tb t T S C [] KP)) (ha : Hid (SrAt w sb mb tb B n0 (u.map fun (c : Nat) => (c : Int)) ao cap KP)) (hu : u.length ≤ 60) (hu2 : ∀ c ∈ u, c < 128) (hw : Wf1 T) (hT : 2 < T.length) (hTL : T.length ≤ LIM) (h0 : Row T 0) (h1 : T[1]? = some x1) (h1k : x1.1.kd = 1) (h1e : x1.2 = true) (hl : LitT T n0 u) (hB : (u.length : Int) < B) :
    Calls Tryz.prog 33 #[.pointer (some ⟨sb, 0, none⟩)] w fun e w' => e = .returned (.bool true) ∧ Hid (Below b0 w w') := by
  have hr1 : Row T 1 := .empty (k := x1.1) (b := x1.2) h1 h1k
  have hlen : (u.map fun (c : Nat) => (c : Int)).length = u.length := List.length_map _
  have hmost := trP_most (stpT T) (u.map fun (c : Nat) => (c : Int)) (n0, [n0])
  rw [hlen] at hmost
  have hm2 : ((n0, [n0]) : Nat × List Nat).2.length = 1 := rfl
  refine takesAll_go (P := Row T) (stp := stpT T) (ok := fun n i => i ≤ n) h ha (by omega) (fun k hk => ?_) (hl.row hr1) (fun n hn => ⟨by have := hn.lt; omega, hn.lt⟩) (hide fun n c w t S C a b c1 d e => Row.becomes hw hT hTL n c w t S C a b c1 d e) (hide fun n c r a b d => ⟨stpT_eq d, a.next h0 hr1 d⟩) (hide fun hlt => by omega) (hide fun _ w' hb => ⟨?_, hb⟩)
  · rw [hlen] at hk
    have hc := hu2 u[k] (List.getElem_mem hk)
    have e : (u.map fun (c : Nat) => (c : Int)).getD k 0 = (u[k] : Int) := by simp [List.getD, hk]
    rw [e]
    exact isSym_iff.2 (by omega)
  · rw [hl.walk]
    simp [List.getD, h1, h1e]
end Go.Proofs.YtfolanohokflkabGreatDoor

namespace Go.Proofs.YtfolanohokflkabGreatDoor
open Go.RowKit
/-! a node in a block of its own -/
def setNd (w : World) (rb : Nat) (n : Nd) : World :=
  ((((((w.setCell ⟨rb, 0, none⟩ (.int .i64 n.sh)).setCell ⟨rb, 1, none⟩ (.slice n.pa n.pn n.pc)).setCell ⟨rb, 2, none⟩ (.string n.ss)).setCell ⟨rb, 3, none⟩ (.int .i64 n.le)).setCell ⟨rb, 4, none⟩ (.int .i64 n.mo)).setCell ⟨rb, 5, none⟩ (.int .i64 n.fa)).setCell ⟨rb, 6, none⟩ (.int .i64 n.sz)
def NdAt (w : World) (rb : Nat) (n : Nd) : Prop := w.heap[rb]? = some (.cells (cNd n).toArray 53 (0, 0))
def nd0 : Nd := ⟨0, none, 0, 0, ⟨#[]⟩, 0, 0, 0, 0⟩
abbrev obNd (n : Nd) : Obj := .cells #[.int .i64 n.sh, .slice n.pa n.pn n.pc, .string n.ss, .int .i64 n.le, .int .i64 n.mo, .int .i64 n.fa, .int .i64 n.sz] 53
theorem NdAt.new (w : World) (n : Nd) : NdAt (w.alloc (obNd n)) w.heap.size n := heap_alloc_new w _
section
variable {w : World} {rb : Nat} {n m : Nd}
theorem setNd_other {k : Nat} (hk : k ≠ rb) : (setNd w rb n).heap[k]? = w.heap[k]? := by
  unfold setNd
  iterate 7 rw [Below.heap_setCell _ _ _ k hk]
theorem setNd_size : (setNd w rb n).heap.size = w.heap.size := by simp [setNd, World.setCell]
theorem NdAt.lt (h : NdAt w rb n) : rb < w.heap.size := (Array.getElem?_eq_some_iff.1 h).1
theorem NdAt.set (h : NdAt w rb m) : NdAt (setNd w rb n) rb n := by
  have h0 := heap_setCell_same w rb 0 _ _ (.int .i64 n.sh) h
  have h1 := heap_setCell_same _ rb 1 _ _ (.slice n.pa n.pn n.pc) h0
  have h2 := heap_setCell_same _ rb 2 _ _ (.string n.ss) h1
  have h3 := heap_setCell_same _ rb 3 _ _ (.int .i64 n.le) h2
  have h4 := heap_setCell_same _ rb 4 _ _ (.int .i64 n.mo) h3
  have h5 := heap_setCell_same _ rb 5 _ _ (.int .i64 n.fa) h4
  have h6 := heap_setCell_same _ rb 6 _ _ (.int .i64 n.sz) h5
  unfold NdAt setNd
  rw [h6]
  simp [cNd]
theorem NdAt.cells (h : NdAt w rb n) : w.cell? ⟨rb, 0, none⟩ = some (.int .i64 n.sh) ∧ w.cell? ⟨rb, 1, none⟩ = some (.slice n.pa n.pn n.pc) ∧ w.cell? ⟨rb, 2, none⟩ = some (.string n.ss) ∧ w.cell? ⟨rb, 3, none⟩ = some (.int .i64 n.le) ∧ w.cell? ⟨rb, 4, none⟩ = some (.int .i64 n.mo) ∧ w.cell? ⟨rb, 5, none⟩ = some (.int .i64 n.fa) ∧ w.cell? ⟨rb, 6, none⟩ = some (.int .i64 n.sz) := by
  have e : w.heap[rb]? = _ := h
  refine ⟨?_, ?_, ?_, ?_, ?_, ?_, ?_⟩ <;> simp [World.cell?, e, cNd]
theorem NdAt.fz (h : NdAt w rb n) (j : Nat) : w.frozen? ⟨rb, j, none⟩ = false := by
  have e : w.heap[rb]? = _ := h
  simp [World.frozen?, e]
theorem NdAt.move {w' : World} (h : NdAt w rb n) (e : w'.heap[rb]? = w.heap[rb]?) : NdAt w' rb n := e.trans h
theorem NdAt.up {w' : World} {b : Nat} (h : Hid (NdAt w rb n)) (hu : Up b w w') (hb : rb ≠ b) : Hid (NdAt w' rb n) := (hu.block rb (NdAt.lt (unhide h)) hb).trans (unhide h)
theorem NdAt.alloc (h : Hid (NdAt w rb n)) (o : Obj) : Hid (NdAt (w.alloc o) rb n) := NdAt.move (unhide h) (Below.heap_alloc w o rb (NdAt.lt (unhide h)))
end
section
variable {w0 w : World} {b : Nat} {s : ByteArray} {d : Int} {l : List Sy}
theorem PL.setNd (h : Hid (PL w0 w b s d l)) {rb : Nat} (h0 : w0.heap.size ≤ rb) (hb : b < rb) (n : Nd) : Hid (PL w0 (setNd w rb n) b s d l) :=
  PL.set (PL.set (PL.set (PL.set (PL.set (PL.set (PL.set h h0 hb 0 _) h0 hb 1 _) h0 hb 2 _) h0 hb 3 _) h0 hb 4 _) h0 hb 5 _) h0 hb 6 _
theorem pl_exit7 {w' : World} {o : Obj} {l' : List Sy} (h : Hid (PL w0 w b s d l)) (h' : Hid (PL (w.alloc o) w' b s d l')) (n : Nd) : Hid (PL w0 (Proofs.YtfolanohokflkabGreatDoor.setNd w' w.heap.size n) b s d l') :=
  PL.setNd (PL.join ((PL.up h).trans (up_alloc w o)) h') (PL.up h).size (PL.lt h) n
/-- what calls of a part of the reader answer, from any world. -/
def PartC (f : Nat) (sub : List Sy → Res Pn) (b : Nat) (s : ByteArray) (d : Int) : Prop :=
  ∀ w l, Hid (PL w w b s d l) → Calls Tryz.prog f #[.pointer (some ⟨b, 0, none⟩)] w (OutN (sub l) w b s d)
theorem outN_base {R : Res Pn} {x : Ending} {w' : World} (h : Hid (PL w0 w b s d l)) (hx : OutN R w b s d x w') : OutN R w0 b s d x w' := by
  have hsz := (PL.up h).size
  cases R with
  | error y => exact ⟨hx.1, (PL.up h).trans (unhide hx.2)⟩
  | ok y =>
    obtain ⟨n, e, h1, h2⟩ := hx
    exact ⟨n, e, NodeOK.move h1 fun k hk _ => ⟨rfl, Nat.le_trans hsz hk⟩, PL.join (PL.up h) h2⟩
/-- the end of a call whose result lies in a block of its own. -/
theorem node_ret {fn : Func} {Q : Ending → World → Prop} {a : Act} {W : World} {rb : Nat} {n : Nd} (t : Nat) (hr : fn.results = #[.cell t 53]) (ht : a.tmps.getD t undef = .pointer (some ⟨rb, 0, none⟩)) (hd : a.defers = []) (hat : Hid (NdAt W rb n)) (hq : Q (.returned (vNd n)) W) : bodyPost Tryz.prog fn Q .ret a W := by
  obtain ⟨k0, k1, k2, k3, k4, k5, k6⟩ := NdAt.cells (unhide hat)
  refine bodyPost_ret (v := vNd n) ?_ hd hq
  have ht' : a.tmps[t]?.getD undef = .pointer (some ⟨rb, 0, none⟩) := by simpa using ht
  simp [results, hr, ht', go_sem, k0, k1, k2, k3, k4, k5, k6, vNd]

end
end Go.Proofs.YtfolanohokflkabGreatDoor

namespace Go.Proofs.YtfolanohokflkabGreatDoor
open Go.RowKit
section
variable {w0 w : World} {b : Nat} {s : ByteArray} {d : Int} {l : List Sy}
set_option maxRecDepth 100000 in
set_option maxHeartbeats 8000000 in
theorem qLeaf (h : Hid (PL w w b s d l)) (hn : ¬ hd l = 40) :
    Calls Tryz.prog 289 #[.pointer (some ⟨b, 0, none⟩)] w (OutN (nodeR (leafP s.size l)) w b s d) := by
  obtain ⟨R, hR⟩ : ∃ R, leafP s.size l = R := ⟨_, rfl⟩
  rw [hR]
  obtain ⟨c, hcc⟩ : ∃ c, hd l = c := ⟨_, rfl⟩
  have HCC := hide hcc
  have k1 : (c == 40) = false := by rw [← hcc]; simpa using hn
  have HS0 := pl_entry h (obNd nd0)
  have HAT := hide (NdAt.new w nd0)
  have hne : w.heap.size ≠ b := by have := PL.lt h; omega
  have HUE : Hid (∀ w', Hid (Up b (w.alloc (obNd nd0)) w') → Hid (Up b w w')) := fun w' hu => up_entry h hu
  have HPE : Hid (∀ w' l' n, Hid (PL (w.alloc (obNd nd0)) w' b s d l') → Hid (PL w (setNd w' w.heap.size n) b s d l')) := fun w' l' n h' => pl_exit7 h h' n
  have HR := hide hR
  clear hR hcc hn h
  cases R with
  | error y =>
    go_enter Tryz.func289, Tryz.ntmps289
    go_wp2_with (first
      | (go_at_call 233; refine (qLook HS0 HCC).mono ?_; clear HS0; rintro x w1 ⟨rfl, HS⟩)
      | (go_at_call 311; refine (outV_err (qSingle HS) HR).mono ?_; rintro x w2 ⟨rfl, HU⟩))
    exact ⟨rfl, rfl, unhide HUE _ HU⟩
  | ok y =>
    obtain ⟨z, l1⟩ := y
    go_enter Tryz.func289, Tryz.ntmps289
    go_wp2_with (first
      | (go_at_call 233; refine (qLook HS0 HCC).mono ?_; clear HS0; rintro x w1 ⟨rfl, HS⟩)
      | (go_at_call 311; refine (outV_ok (qSingle HS) HR).mono ?_; clear HS; rintro x w2 ⟨rfl, HS⟩; have HA2 := NdAt.up HAT (PL.up HS) hne; obtain ⟨c0, c1, c2, c3, c4, c5, c6⟩ := NdAt.cells (unhide HA2); have f0 := NdAt.fz (unhide HA2)))
    change bodyPost _ _ _ _ _ (setNd w2 w.heap.size ⟨0, none, 0, 0, encS z, 0, 0, 0, 1⟩)
    refine node_ret (rb := w.heap.size) (n := ⟨0, none, 0, 0, encS z, 0, 0, 0, 1⟩) 2 rfl rfl rfl (hide (NdAt.set (unhide HA2))) ?_
    exact ⟨_, rfl, ⟨rfl, .set rfl rfl rfl⟩, unhide HPE _ _ _ HS⟩
end
end Go.Proofs.YtfolanohokflkabGreatDoor

namespace Go.Proofs.YtfolanohokflkabGreatDoor
open Go.RowKit
section
variable {w0 w : World} {b : Nat} {s : ByteArray} {d : Int} {l : List Sy}
theorem PL.c2 (h : Hid (PL w0 w b s d l)) : w.cell? ⟨b, 2, none⟩ = some (.int .i64 d) := by
  obtain ⟨p, h1, rfl⟩ := unhide h
  exact h1.c2
theorem PL.f2 (h : Hid (PL w0 w b s d l)) : w.frozen? ⟨b, 2, none⟩ = false := by
  obtain ⟨p, h1, rfl⟩ := unhide h
  exact h1.fz 2
theorem PL.setDepth (h : Hid (PL w0 w b s d l)) (d' : Int) : Hid (PL w0 (w.setCell ⟨b, 2, none⟩ (.int .i64 d')) b s d' l) := by
  obtain ⟨p, h1, rfl⟩ := unhide h
  exact PL.of (PS.setDepth h1 d')
/-- the body of a call with a node as its result: from the world behind the result's block. -/
theorem up_entry' {w' : World} {o : Obj} (h : Hid (PL w w b s d l)) (hu : Hid (Up b (w.alloc o) w')) : Hid (Up b w w') := up_entry h hu

set_option maxRecDepth 100000 in
set_option maxHeartbeats 4000000 in
theorem qGroup_deep (h : Hid (PL w w b s 8 l)) :
    Calls Tryz.prog 310 #[.pointer (some ⟨b, 0, none⟩)] w (OutN (bad 4 s.size l) w b s d) := by
  have HS0 := pl_entry h (obNd nd0)
  have q2 : (w.alloc (.cells #[.int .i64 0, .slice none 0 0, .string ⟨#[]⟩, .int .i64 0, .int .i64 0, .int .i64 0, .int .i64 0] 53)).cell? ⟨b, 2, none⟩ = some (.int .i64 8) := PL.c2 HS0
  have HUE : Hid (∀ w', Hid (Up b (w.alloc (obNd nd0)) w') → Hid (Up b w w')) := fun w' hu => up_entry h hu
  clear h
  go_enter Tryz.func310, Tryz.ntmps310
  go_wp2_with (first
    | (go_at_call 184; refine (qRefuse HS0 4).mono ?_; rintro x w2 ⟨rfl, HU⟩))
  exact ⟨rfl, rfl, unhide HUE _ HU⟩

/-- where the node of a group lies, it stays. -/
theorem grp_node {w2 w3 w5 : World} {o : Obj} {n m : Nd} {z : Pn} {u u' : Value} {wz : Nat}
    (HN : Hid (NodeOK w3 (fun k => (w2.setCell ⟨b, 2, none⟩ u).heap.size ≤ k) n z)) (hz : wz < w2.heap.size) (hb : b < w2.heap.size)
    (hu : Up b ((w3.setCell ⟨b, 2, none⟩ u').alloc o) w5) : Hid (NodeOK (setNd w5 wz m) (fun k => wz ≤ k) n z) := by
  have e2 : (w2.setCell ⟨b, 2, none⟩ u).heap.size = w2.heap.size := by simp [World.setCell]
  refine NodeOK.move HN fun k hk hl => ?_
  rw [e2] at hk
  refine ⟨?_, by omega⟩
  rw [setNd_other (by omega), hu.block k (by simp [World.setCell]; omega) (by omega), Below.heap_alloc _ o k (by simpa [World.setCell] using hl), Below.heap_setCell _ ⟨b, 2, none⟩ _ k (by show k ≠ b; omega)]
theorem box_up {w3 w5 : World} {n : Nd} {u : Value} (hb : b < w3.heap.size) (hu : Up b ((w3.setCell ⟨b, 2, none⟩ u).alloc (obNd n)) w5) : Hid (NdAt w5 w3.heap.size n) := by
  have e : (w3.setCell ⟨b, 2, none⟩ u).heap.size = w3.heap.size := by simp [World.setCell]
  have hn := NdAt.new (w3.setCell ⟨b, 2, none⟩ u) n
  rw [e] at hn
  exact NdAt.move hn (hu.block w3.heap.size (by simp [World.setCell]) (by omega))

set_option maxRecDepth 100000 in
set_option maxHeartbeats 8000000 in
theorem qGroup {sub : List Sy → Res Pn} (HA : Hid (PartC 113 sub b s (d + 1))) (hd0 : 0 ≤ d) (hd8 : d < 8) (h : Hid (PL w w b s d l)) (h40 : Hid (hd l = 40)) :
    Calls Tryz.prog 310 #[.pointer (some ⟨b, 0, none⟩)] w (OutN (grpP s.size (sub l.tail)) w b s d) := by
  have HS0 := pl_entry h (obNd nd0)
  have hbw := PL.lt h
  have q2 : (w.alloc (.cells #[.int .i64 0, .slice none 0 0, .string ⟨#[]⟩, .int .i64 0, .int .i64 0, .int .i64 0, .int .i64 0] 53)).cell? ⟨b, 2, none⟩ = some (.int .i64 d) := PL.c2 HS0
  have HUE : Hid (∀ w', Hid (Up b (w.alloc (obNd nd0)) w') → Hid (Up b w w')) := fun w' hu => up_entry h hu
  have HPE : Hid (∀ w' l' n, Hid (PL (w.alloc (obNd nd0)) w' b s d l') → Hid (PL w (setNd w' w.heap.size n) b s d l')) := fun w' l' n h' => pl_exit7 h h' n
  have HAT := hide (NdAt.new w nd0)
  have hsz1 : (w.alloc (obNd nd0)).heap.size = w.heap.size + 1 := by simp
  have k8 : (d == 8) = false := by simp; omega
  clear h
  cases hi : sub l.tail with
  | error y =>
    have HI := hide hi
    clear hi
    go_enter Tryz.func310, Tryz.ntmps310
    go_wp2_with (first
      | (go_at_call 114; refine (qTake_yes HS0 40 h40).mono ?_; clear HS0 q2; rintro x w2 ⟨rfl, HS⟩; have q2 := PL.c2 HS; have f2 := PL.f2 HS)
      | (go_at_call 113; refine (outN_err (unhide HA _ _ (PL.base (PL.setDepth HS (d + 1)))) HI).mono ?_; rintro x w3 ⟨rfl, HU⟩; have HU2 := hide ((PL.up (PL.setDepth HS (d + 1))).trans (unhide HU))))
    exact ⟨rfl, rfl, unhide HUE _ HU2⟩
  | ok y =>
    obtain ⟨z, l1⟩ := y
    have HI := hide hi
    clear hi
    rw [grpP]
    by_cases h41 : hd l1 = 41
    · rw [if_pos h41]
      have H41 := hide h41
      clear h41
      go_enter Tryz.func310, Tryz.ntmps310
      go_wp2_with (first
        | (go_at_call 114; refine (qTake_yes HS0 40 h40).mono ?_; clear HS0 q2; rintro x w2 ⟨rfl, HS⟩; have q2 := PL.c2 HS; have f2 := PL.f2 HS; have hs2 := (PL.up HS).size)
        | (go_at_call 113; refine (outN_ok (unhide HA _ _ (PL.base (PL.setDepth HS (d + 1)))) HI).mono ?_; simp only [vNd]; rintro x w3 ⟨n, rfl, HN, HS3⟩; have HT3 := PL.join (PL.up (PL.setDepth HS (d + 1))) HS3; have hb3 := PL.lt HT3; have HT4 := PL.alloc HT3 (obNd n); clear q2 f2; have q2 := PL.c2 HT4; have f2 := PL.f2 HT4; have hb2 := PL.lt HS; have HT4' := PL.alloc (PL.setDepth HT3 d) (obNd n); clear HS HS3 HT3 HT4)
        | (go_at_call 114; refine (qTake_yes (PL.base HT4') 41 H41).mono ?_; rintro x w5 ⟨rfl, HS5⟩; have HT5 := PL.join (PL.up HT4') HS5; have HB5 := box_up hb3 (PL.up HS5); have HR5 := NdAt.up HAT (PL.up HT5) (by omega); obtain ⟨g0, g1, g2, g3, g4, g5, g6⟩ := NdAt.cells (unhide HB5); obtain ⟨c0, c1, c2, c3, c4, c5, c6⟩ := NdAt.cells (unhide HR5); have cf := NdAt.fz (unhide HR5); clear q2 f2 HT4'))
      change bodyPost _ _ _ _ _ (setNd w5 w.heap.size n)
      refine node_ret (rb := w.heap.size) (n := n) 2 rfl rfl rfl (hide (NdAt.set (unhide HR5))) ?_
      exact ⟨n, rfl, grp_node HN (by omega) hb2 (PL.up HS5), unhide HPE _ _ _ HT5⟩
    · rw [if_neg h41]
      have H41 := hide h41
      clear h41
      go_enter Tryz.func310, Tryz.ntmps310
      go_wp2_with (first
        | (go_at_call 114; refine (qTake_yes HS0 40 h40).mono ?_; clear HS0 q2; rintro x w2 ⟨rfl, HS⟩; have q2 := PL.c2 HS; have f2 := PL.f2 HS; have hs2 := (PL.up HS).size)
        | (go_at_call 113; refine (outN_ok (unhide HA _ _ (PL.base (PL.setDepth HS (d + 1)))) HI).mono ?_; simp only [vNd]; rintro x w3 ⟨n, rfl, HN, HS3⟩; have HT3 := PL.join (PL.up (PL.setDepth HS (d + 1))) HS3; have hb3 := PL.lt HT3; have HT4 := PL.alloc HT3 (obNd n); clear q2 f2; have q2 := PL.c2 HT4; have f2 := PL.f2 HT4; have HT4' := PL.alloc (PL.setDepth HT3 d) (obNd n); clear HS HS3 HT3 HT4)
        | (go_at_call 114; refine (qTake_no HT4' 41 H41).mono ?_; rintro x w5 ⟨rfl, HU⟩))
      exact ⟨rfl, rfl, unhide HUE _ HU⟩
end
end Go.Proofs.YtfolanohokflkabGreatDoor

namespace Go.Proofs.YtfolanohokflkabGreatDoor
open Go.RowKit
theorem ndCells_get : ∀ (nds : List Nd) (k : Nat) (h : k < nds.length) (j : Nat), j < 7 → (ndCells nds)[k * 7 + j]? = (cNd nds[k])[j]?
  | [], _, h, _, _ => absurd h (by simp)
  | n :: r, 0, _, j, hj => by
    rw [ndCells, List.getElem?_append_left (by simp [cNd]; omega)]
    simp
  | n :: r, k + 1, h, j, hj => by
    rw [ndCells, List.getElem?_append_right (by simp [cNd]; omega)]
    have e : (k + 1) * 7 + j - (cNd n).length = k * 7 + j := by simp [cNd]; omega
    rw [e, ndCells_get r k (by simpa using h) j hj]
    simp
/-- the cells of a node in a slice. -/
def NdCell (w : World) (g off : Nat) (n : Nd) : Prop := w.cell? ⟨g, off, none⟩ = some (.int .i64 n.sh) ∧ w.cell? ⟨g, off + 1, none⟩ = some (.slice n.pa n.pn n.pc) ∧ w.cell? ⟨g, off + 2, none⟩ = some (.string n.ss) ∧ w.cell? ⟨g, off + 3, none⟩ = some (.int .i64 n.le) ∧ w.cell? ⟨g, off + 4, none⟩ = some (.int .i64 n.mo) ∧ w.cell? ⟨g, off + 5, none⟩ = some (.int .i64 n.fa) ∧ w.cell? ⟨g, off + 6, none⟩ = some (.int .i64 n.sz)
theorem nd_cells {w : World} {g : Nat} {nds : List Nd} (hc : ∀ j, j < nds.length * 7 → w.cell? ⟨g, j, none⟩ = (ndCells nds)[j]?) (k : Nat) (h : k < nds.length) : NdCell w g (k * 7) nds[k] := by
  have hk : ∀ j, j < 7 → w.cell? ⟨g, k * 7 + j, none⟩ = (cNd nds[k])[j]? := fun j hj => (hc (k * 7 + j) (by omega)).trans (ndCells_get nds k h j hj)
  exact ⟨hk 0 (by decide), hk 1 (by decide), hk 2 (by decide), hk 3 (by decide), hk 4 (by decide), hk 5 (by decide), hk 6 (by decide)⟩
theorem NdCell.below {w w' : World} {g off B : Nat} {n : Nd} (h : NdCell w g off n) (hb : Below B w w') (hg : g < B) : NdCell w' g off n := by
  obtain ⟨h0, h1, h2, h3, h4, h5, h6⟩ := h
  have e : ∀ j v, w.cell? ⟨g, j, none⟩ = some v → w'.cell? ⟨g, j, none⟩ = some v := fun j v q => by rw [hb.cell (p := ⟨g, j, none⟩) hg]; exact q
  exact ⟨e _ _ h0, e _ _ h1, e _ _ h2, e _ _ h3, e _ _ h4, e _ _ h5, e _ _ h6⟩
theorem sc_os (w : World) (a : Addr) (v : Value) : (w.setCell a v).os = w.os := rfl
theorem setNd_os (w : World) (rb : Nat) (n : Nd) : (setNd w rb n).os = w.os := by
  unfold setNd
  iterate 7 rw [sc_os]
theorem sc_tape (w : World) (a : Addr) (v : Value) : (w.setCell a v).tape = w.tape := rfl
theorem setNd_tape (w : World) (rb : Nat) (n : Nd) : (setNd w rb n).tape = w.tape := by
  unfold setNd
  iterate 7 rw [sc_tape]
theorem sc_output (w : World) (a : Addr) (v : Value) : (w.setCell a v).output = w.output := rfl
theorem setNd_output (w : World) (rb : Nat) (n : Nd) : (setNd w rb n).output = w.output := by
  unfold setNd
  iterate 7 rw [sc_output]
theorem below_setNd {B : Nat} {w w' : World} (h : Below B w w') {rb : Nat} (hr : B ≤ rb) {n : Nd} : Hid (Below B w (setNd w' rb n)) :=
  ⟨(setNd_os w' rb n).trans h.os, (setNd_tape w' rb n).trans h.tape, (setNd_output w' rb n).trans h.output, by rw [setNd_size]; exact h.size, fun k hk => (setNd_other (by omega)).trans (h.block k hk)⟩
/-- the size that joined has come to. -/
def accZ (ps : List Pn) (k : Nat) : Int := min (((ps.length : Int) - 1) + sumZ (ps.take k)) 61
theorem accZ_zero {ps : List Pn} (h1 : ps.length ≤ 62) : accZ ps 0 = (ps.length : Int) - 1 := by simp [accZ, sumZ]; omega
theorem accZ_all (ps : List Pn) : accZ ps ps.length = zOf ps := by rw [accZ, List.take_length]; rfl
theorem AllB.take {ps : List Pn} (h : AllB ps) (k : Nat) : AllB (ps.take k) := fun p hp => h p (List.mem_of_mem_take hp)
theorem accZ_step {ps : List Pn} (hB : AllB ps) (k : Nat) (hk : k < ps.length) : accZ ps (k + 1) = cap61 (accZ ps k + ps[k].2) := by
  have hs := sumZ_ge (hB.take k)
  have hp := hB ps[k] (List.getElem_mem hk)
  rw [cap_min, accZ, accZ, List.take_succ_eq_append_getElem hk, sumZ_snoc]
  omega
theorem accZ_b {ps : List Pn} (hB : AllB ps) (h0 : 0 < ps.length) (k : Nat) : 0 ≤ accZ ps k ∧ accZ ps k ≤ 61 := by
  have hs := sumZ_ge (hB.take k)
  unfold accZ; omega
set_option maxRecDepth 100000 in
set_option maxHeartbeats 8000000 in
theorem joined_any (w : World) (sh : Int) (ao : Option Addr) (cap : Nat) (nds : List Nd) (ps : List Pn) {B : Nat} (h0 : 0 < nds.length) (h62 : nds.length ≤ 62) (ho : w.ownsRow B 53 7 (.slice ao nds.length cap) nds.length (ndCells nds))
    (hl : nds.length = ps.length) (hz : ∀ (i : Nat) (h : i < nds.length) (h' : i < ps.length), nds[i].sz = ps[i].2) (hB : AllB ps) :
    Calls Tryz.prog 180 #[.int .i64 sh, .slice ao nds.length cap] w fun x w' => x = .returned (vNd ⟨sh, ao, nds.length, cap, ⟨#[]⟩, 0, 0, 0, zOf ps⟩) ∧ Hid (Below w.heap.size w w') := by
  obtain ⟨ao', cap', e, hv⟩ := own_view ho
  obtain ⟨g, rfl, -, hg, hc, -⟩ := hv h0
  cases e
  have HC := hide hc
  have HZ := hide hz
  have HBB := hide hB
  have hz0 := accZ_zero (ps := ps) (by omega)
  rw [← hl] at hz0
  have hsz : (w.alloc (obNd nd0)).heap.size = w.heap.size + 1 := by simp
  have HAT := hide (NdAt.new w nd0)
  have HG : Hid (∀ k, k < w.heap.size → (w.alloc (obNd nd0)).heap[k]? = w.heap[k]?) := fun k hk => Below.heap_alloc w _ k hk
  have HLL := hide hl
  clear hc hv ho hz hB hl
  have hlI : ((nds.length : Int)) ≤ 62 := by omega
  go_enter Tryz.func180, Tryz.ntmps180
  go_wp2_with fail
  go_loopw [5, 13] (fun sz i wr => ∃ k : Nat, k ≤ nds.length ∧ i = .int .i64 k ∧ sz = .int .i64 (accZ ps k) ∧ Hid (Below (w.heap.size + 1) (w.alloc (obNd nd0)) wr)) (fun _ i _ => nds.length - (intOf i).toNat)
  case atStart => exact ⟨0, Nat.zero_le _, rfl, by rw [hz0], Below.refl _ _⟩
  case round =>
    obtain ⟨k, hk, rfl, rfl, HBW⟩ := hrel
    have hwr := (unhide HBW).size
    rw [hsz] at hwr
    have hl := unhide HLL
    obtain ⟨ha0, ha61⟩ := accZ_b (unhide HBB) (by omega) k
    by_cases hlt : k < nds.length
    · have hst := accZ_step (unhide HBB) k (by omega)
      have hpz := unhide HZ k hlt (by omega)
      have hpb := unhide HBB ps[k] (List.getElem_mem (by omega))
      rw [← hpz] at hst hpb
      have hcw : NdCell w g (k * 7) nds[k] := nd_cells (unhide HC) k hlt
      have hcw1 : NdCell (w.alloc (obNd nd0)) g (k * 7) nds[k] := hcw.below ((Below.refl _ w).alloc (Nat.le_refl _) _) hg
      obtain ⟨c0, c1, c2, c3, c4, c5, c6⟩ := hcw1.below (unhide HBW) (by omega)
      have HBW2 := hide ((unhide HBW).alloc hwr (obNd nds[k]))
      have HST := hide hst
      clear hst hcw hcw1 hpz hl
      generalize nds[k] = n at c0 c1 c2 c3 c4 c5 c6 HST hpb HBW2
      generalize accZ ps k = z at *
      obtain ⟨hn0, hn61⟩ := hpb
      go_wp2_with (go_at_call 231; refine (pCapped _ _).mono ?_; rintro x w6 ⟨rfl, rfl⟩)
      go_roundw
      case rel => exact ⟨k + 1, by omega, by go_num, by rw [unhide HST], HBW2⟩
      case measure => simp [intOf]; omega
    · have hkl : k = nds.length := by omega
      subst hkl
      have hall := accZ_all ps
      rw [← hl] at hall
      have HR := hide (NdAt.move (unhide HAT) ((unhide HBW).block w.heap.size (by omega)))
      obtain ⟨c0, c1, c2, c3, c4, c5, c6⟩ := NdAt.cells (unhide HR)
      have cf := NdAt.fz (unhide HR)
      rw [hall]
      clear hall ha0 ha61 hl
      go_wp2_with fail
      change bodyPost _ _ _ _ _ (setNd wr w.heap.size ⟨sh, some ⟨g, 0, none⟩, nds.length, cap, ⟨#[]⟩, 0, 0, 0, zOf ps⟩)
      refine node_ret (rb := w.heap.size) (n := ⟨sh, some ⟨g, 0, none⟩, nds.length, cap, ⟨#[]⟩, 0, 0, 0, zOf ps⟩) 4 rfl rfl rfl (hide (NdAt.set (unhide HR))) ?_
      exact ⟨rfl, below_setNd (((Below.refl _ w).alloc (Nat.le_refl _) (obNd nd0)).trans ((unhide HBW).mono (Nat.le_succ _))) (Nat.le_refl _)⟩
end Go.Proofs.YtfolanohokflkabGreatDoor
