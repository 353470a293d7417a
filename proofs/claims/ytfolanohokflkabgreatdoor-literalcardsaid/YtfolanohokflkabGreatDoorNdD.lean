import Derived.Test.YtfolanohokflkabGreatDoorProC
import Derived.Test.YtfolanohokflkabGreatDoorSvF
import Derived.Test.YtfolanohokflkabGreatDoorPlA
import Derived.WalkKit
import Derived.WalkSpells
import Derived.WalkLawsBesides
import Derived.WalkMore
/-
  The program's reader with nodes: its state, from the call's own world on.
-/
namespace Go.Proofs.YtfolanohokflkabGreatDoor
open Go.RowKit

/-- the program's reader, said of the symbols that are left. -/
def PL (w0 w : World) (b : Nat) (s : ByteArray) (d : Int) (l : List Sy) : Prop := ∃ p, PS w0 w b s p d ∧ symsFrom s p = l

section
variable {w0 w : World} {b : Nat} {s : ByteArray} {p : Nat} {d : Int} {l : List Sy}

theorem PL.of (h : Hid (PS w0 w b s p d)) : Hid (PL w0 w b s d (symsFrom s p)) := ⟨p, h, rfl⟩
theorem PL.base (h : Hid (PL w0 w b s d l)) : Hid (PL w w b s d l) := by
  obtain ⟨p, h1, e⟩ := unhide h
  exact ⟨p, ⟨h1.c0, h1.c1, h1.c2, h1.fz, h1.tabs, h1.b2, Up.refl _ _, h1.le, h1.small⟩, e⟩
theorem PL.up (h : Hid (PL w0 w b s d l)) : Up b w0 w := by
  obtain ⟨p, h1, e⟩ := unhide h
  exact h1.up
theorem PL.join {w' : World} (h : Up b w0 w) (k : Hid (PL w w' b s d l)) : Hid (PL w0 w' b s d l) := by
  obtain ⟨p, h1, e⟩ := unhide k
  exact ⟨p, ⟨h1.c0, h1.c1, h1.c2, h1.fz, h1.tabs, h1.b2, h.trans h1.up, h1.le, h1.small⟩, e⟩
theorem PL.below {w' : World} (h : Hid (PL w0 w b s d l)) (hb : Below w.heap.size w w') : Hid (PL w0 w' b s d l) := by
  obtain ⟨p, h1, e⟩ := unhide h
  exact ⟨p, unhide (PS.below (hide h1) hb), e⟩
theorem PL.lt (h : Hid (PL w0 w b s d l)) : b < w.heap.size := by
  obtain ⟨p, h1, e⟩ := unhide h
  exact h1.lt
theorem PL.len (h : Hid (PL w0 w b s d l)) : l.length ≤ 60 := by
  obtain ⟨p, h1, rfl⟩ := unhide h
  have := symsFrom_len s p
  have := h1.small
  omega
theorem PL.symOr (h : Hid (PL w0 w b s d l)) : SymOr (hd l) := by
  obtain ⟨p, h1, rfl⟩ := unhide h
  exact symOr_hd s p h1.le
theorem PL.allSym (h : Hid (PL w0 w b s d l)) : AllSym l := by
  obtain ⟨p, h1, rfl⟩ := unhide h
  exact symsFrom_sym s p
/-- a store into a block of the call's own. -/
theorem PL.set (h : Hid (PL w0 w b s d l)) {rb : Nat} (h0 : w0.heap.size ≤ rb) (hb : b < rb) (j : Nat) (u : Value) : Hid (PL w0 (w.setCell ⟨rb, j, none⟩ u) b s d l) := by
  obtain ⟨p, g, e⟩ := unhide h
  have hbl : ∀ k, k ≠ rb → (w.setCell ⟨rb, j, none⟩ u).heap[k]? = w.heap[k]? := fun k hk => Below.heap_setCell w ⟨rb, j, none⟩ u k hk
  have hc : ∀ i v, w.cell? ⟨b, i, none⟩ = some v → (w.setCell ⟨rb, j, none⟩ u).cell? ⟨b, i, none⟩ = some v := fun i v q => by
    rw [World.cell?_of_block (hbl b (by omega))]; exact q
  have hb2 := g.b2
  refine ⟨p, ⟨hc _ _ g.c0, hc _ _ g.c1, hc _ _ g.c2, fun k => by rw [World.frozen?_setCell]; exact g.fz k, tabs_of g.tabs (hbl _ (by omega)) (hbl _ (by omega)), g.b2, ?_, g.le, g.small⟩, e⟩
  exact ⟨g.up.os, g.up.tape, g.up.output, by have := g.up.size; simp [World.setCell]; exact this, fun k hk hkb => (hbl k (by omega)).trans (g.up.block k hk hkb)⟩
end
theorem up_cell {w w' : World} {b k j : Nat} {v : Value} (h : Up b w w') (hk : k ≠ b) (hc : w.cell? ⟨k, j, none⟩ = some v) : w'.cell? ⟨k, j, none⟩ = some v := by
  rw [World.cell?_of_block (h.block k (World.block_lt_of_cell? w _ hc) hk)]; exact hc
theorem up_frozen {w w' : World} {b k j : Nat} (h : Up b w w') (hk : k ≠ b) (hlt : k < w.heap.size) (hc : w.frozen? ⟨k, j, none⟩ = false) : w'.frozen? ⟨k, j, none⟩ = false := by
  rw [World.frozen?_of_block (h.block k hlt hk)]; exact hc
theorem own_up {w w' : World} {b base e size n : Nat} {v : Value} {xs : List Value} (h : w.ownsRow base e size v n xs) (hu : Up b w w') (hb : v.ownBlock ≠ some b) : w'.ownsRow base e size v n xs := by
  obtain ⟨hl, hx | ⟨g, cap, cur, hv, hb', hg, rest⟩⟩ := h
  · exact ⟨hl, .inl hx⟩
  · have hlt : g < w.heap.size := (Array.getElem?_eq_some_iff.1 hg).1
    exact ⟨hl, .inr ⟨g, cap, cur, hv, hb', by rw [hu.block g hlt (fun e => hb (by rw [hv, e]; rfl))]; exact hg, rest⟩⟩

/-! nodes in memory -/
structure Nd where
  sh : Int
  pa : Option Addr
  pn : Nat
  pc : Nat
  ss : ByteArray
  le : Int
  mo : Int
  fa : Int
  sz : Int
@[reducible] def Nd.pv (n : Nd) : Value := .slice n.pa n.pn n.pc
def vNd (n : Nd) : Value := .agg #[.int .i64 n.sh, .slice n.pa n.pn n.pc, .string n.ss, .int .i64 n.le, .int .i64 n.mo, .int .i64 n.fa, .int .i64 n.sz]
def cNd (n : Nd) : List Value := [.int .i64 n.sh, .slice n.pa n.pn n.pc, .string n.ss, .int .i64 n.le, .int .i64 n.mo, .int .i64 n.fa, .int .i64 n.sz]
theorem infoNd : (Tryz.prog.info? 53).map (fun i => (i.zero, i.size, i.bytes)) = some (some (vNd ⟨0, none, 0, 0, ⟨#[]⟩, 0, 0, 0, 0⟩), 7, 80) := by kernel_rfl
def ndCells : List Nd → List Value
  | [] => []
  | n :: r => cNd n ++ ndCells r
theorem ndCells_append (a c : List Nd) : ndCells (a ++ c) = ndCells a ++ ndCells c := by
  induction a with
  | nil => rfl
  | cons x a ih => simp [ndCells, ih]
theorem ndCells_length (a : List Nd) : (ndCells a).length = a.length * 7 := by
  induction a with
  | nil => rfl
  | cons x a ih => simp [ndCells, ih, cNd]; omega
/-- a slice of nodes, in a block of some. -/
def PartsV (w : World) (F : Nat → Prop) (pv : Value) (nds : List Nd) : Prop := w.ownsRow 0 53 7 pv nds.length (ndCells nds) ∧ ∀ k, pv.ownBlock = some k → F k
theorem own_move {w w' : World} {base e size n : Nat} {v : Value} {xs : List Value} (h : w.ownsRow base e size v n xs) (hk : ∀ k, v.ownBlock = some k → k < w.heap.size → w'.heap[k]? = w.heap[k]?) : w'.ownsRow base e size v n xs := by
  obtain ⟨hl, hx | ⟨g, cap, cur, hv, hb', hg, rest⟩⟩ := h
  · exact ⟨hl, .inl hx⟩
  · have hlt : g < w.heap.size := (Array.getElem?_eq_some_iff.1 hg).1
    exact ⟨hl, .inr ⟨g, cap, cur, hv, hb', by rw [hk g (by rw [hv]; rfl) hlt]; exact hg, rest⟩⟩
theorem PartsV.move {w w' : World} {F G : Nat → Prop} {pv : Value} {nds : List Nd} (h : PartsV w F pv nds) (hm : ∀ k, F k → k < w.heap.size → w'.heap[k]? = w.heap[k]? ∧ G k) : PartsV w' G pv nds :=
  ⟨own_move h.1 fun k hk hl => (hm k (h.2 k hk) hl).1, fun k hk => (hm k (h.2 k hk) (h.1.lt k hk).2).2⟩
def mostV : Option Nat → Int
  | none => -1
  | some m => m
/-- a node stands for a tree; all of it lies in some blocks. -/
inductive NodeV (w : World) (F : Nat → Prop) : Nd → Pt → Prop where
  | set {n : Nd} {l : Spans} : n.sh = 0 → n.ss = encS l → n.pn = 0 → NodeV w F n (.set l)
  | grp {n : Nd} {k : Bool} {nds : List Nd} {ts : List Pt} : n.sh = (if k = true then 2 else 1) → PartsV w F n.pv nds → nds.length = ts.length → (∀ (i : Nat) (h : i < nds.length) (h' : i < ts.length), NodeV w F nds[i] ts[i]) → NodeV w F n (.grp k ts)
  | row {n : Nd} {nds : List Nd} {ts : List Pt} : n.sh = 3 → PartsV w F n.pv nds → nds.length = ts.length → (∀ (i : Nat) (h : i < nds.length) (h' : i < ts.length), NodeV w F nds[i] ts[i]) → NodeV w F n (.row ts)
  | not {n m : Nd} {t : Pt} : n.sh = 4 → PartsV w F n.pv [m] → NodeV w F m t → NodeV w F n (.not t)
  | rep {n m : Nd} {t : Pt} {least : Nat} {most : Option Nat} : n.sh = 5 → PartsV w F n.pv [m] → NodeV w F m t → n.le = least → n.mo = mostV most → NodeV w F n (.rep t least most)
  | one {n m : Nd} {t : Pt} : (n.sh = 1 ∨ n.sh = 2 ∨ n.sh = 3) → PartsV w F n.pv [m] → NodeV w F m t → NodeV w F n t
theorem NodeV.move {w w' : World} {F G : Nat → Prop} (hm : ∀ k, F k → k < w.heap.size → w'.heap[k]? = w.heap[k]? ∧ G k) {n : Nd} {t : Pt} (h : NodeV w F n t) : NodeV w' G n t := by
  induction h with
  | set h1 h2 h3 => exact .set h1 h2 h3
  | grp h1 h2 h3 _ ih => exact .grp h1 (h2.move hm) h3 ih
  | row h1 h2 h3 _ ih => exact .row h1 (h2.move hm) h3 ih
  | not h1 h2 _ ih => exact .not h1 (h2.move hm) ih
  | rep h1 h2 _ h3 h4 ih => exact .rep h1 (h2.move hm) ih h3 h4
  | one h1 h2 _ ih => exact .one h1 (h2.move hm) ih
def NodeOK (w : World) (F : Nat → Prop) (n : Nd) (p : Pn) : Prop := n.sz = p.2 ∧ NodeV w F n p.1
theorem NodeOK.move {w w' : World} {F G : Nat → Prop} {n : Nd} {p : Pn} (h : Hid (NodeOK w F n p)) (hm : ∀ k, F k → k < w.heap.size → w'.heap[k]? = w.heap[k]? ∧ G k) : Hid (NodeOK w' G n p) := ⟨(unhide h).1, (unhide h).2.move hm⟩
/-- the nodes of a slice stand for parts. -/
def AllOK (w : World) (F : Nat → Prop) (nds : List Nd) (ps : List Pn) : Prop := nds.length = ps.length ∧ ∀ (i : Nat) (h : i < nds.length) (h' : i < ps.length), NodeOK w F nds[i] ps[i]
theorem AllOK.move {w w' : World} {F G : Nat → Prop} {nds : List Nd} {ps : List Pn} (h : AllOK w F nds ps) (hm : ∀ k, F k → k < w.heap.size → w'.heap[k]? = w.heap[k]? ∧ G k) : AllOK w' G nds ps := ⟨h.1, fun i a c => NodeOK.move (h.2 i a c) hm⟩
theorem AllOK.snoc {w : World} {F : Nat → Prop} {nds : List Nd} {ps : List Pn} {n : Nd} {p : Pn} (h : AllOK w F nds ps) (hn : NodeOK w F n p) : AllOK w F (nds ++ [n]) (ps ++ [p]) := by
  refine ⟨by simp [h.1], fun i a c => ?_⟩
  simp only [List.length_append, List.length_cons, List.length_nil] at a c
  by_cases hi : i < nds.length
  · rw [List.getElem_append_left hi, List.getElem_append_left (by have := h.1; omega)]
    exact h.2 i hi (by have := h.1; omega)
  · have e : i = nds.length := by omega
    subst e
    simp [h.1]
    exact hn
def vOften (o : Often) : Value := .agg #[.int .i64 o.1, .int .i64 (mostV o.2.1), .int .i64 o.2.2]
/-- what a part of the reader answers: a value that is plain, or the panic. -/
def OutV {a : Type} (R : Res a) (val : a → Value) (w0 : World) (b : Nat) (s : ByteArray) (d : Int) (x : Ending) (w' : World) : Prop :=
  match R with
  | .ok y => x = .returned (val y.1) ∧ Hid (PL w0 w' b s d y.2)
  | .error y => x = Pan y.1 y.2 ∧ Hid (Up b w0 w')
/-- .. a node, or the panic. -/
def OutN (R : Res Pn) (w0 : World) (b : Nat) (s : ByteArray) (d : Int) (x : Ending) (w' : World) : Prop :=
  match R with
  | .ok y => ∃ n, x = .returned (vNd n) ∧ Hid (NodeOK w' (fun k => w0.heap.size ≤ k) n y.1) ∧ Hid (PL w0 w' b s d y.2)
  | .error y => x = Pan y.1 y.2 ∧ Hid (Up b w0 w')
end Go.Proofs.YtfolanohokflkabGreatDoor

namespace Go.Proofs.YtfolanohokflkabGreatDoor
open Go.RowKit

section
variable {w0 w : World} {b : Nat} {s : ByteArray} {p : Nat} {d : Int} {l : List Sy}
theorem PL.of' (h : Hid (PS w0 w b s p d)) (e : Hid (symsFrom s p = l)) : Hid (PL w0 w b s d l) := ⟨p, h, e⟩
theorem qLook (h : Hid (PL w0 w b s d l)) {c : Int} (hc : Hid (hd l = c)) :
    Calls Tryz.prog 233 #[.pointer (some ⟨b, 0, none⟩)] w fun x w' => x = .returned (.int .i32 c) ∧ Hid (PL w0 w' b s d l) := by
  obtain ⟨p, h1, rfl⟩ := unhide h
  replace h := hide h1
  refine (pLook h).mono ?_
  rintro x w' ⟨rfl, h'⟩
  exact ⟨by rw [unhide hc], PL.of h'⟩
theorem qStep (h : Hid (PL w0 w b s d l)) :
    Calls Tryz.prog 234 #[.pointer (some ⟨b, 0, none⟩)] w fun x w' => x = .returned (.tuple #[]) ∧ Hid (PL w0 w' b s d l.tail) := by
  obtain ⟨p, h1, rfl⟩ := unhide h
  replace h := hide h1
  refine (pStep h).mono ?_
  rintro x w' ⟨rfl, p', h', e⟩
  exact ⟨rfl, PL.of' h' e⟩
theorem qMet_yes (h : Hid (PL w0 w b s d l)) (c : Int) (hc : Hid (hd l = c)) :
    Calls Tryz.prog 183 #[.pointer (some ⟨b, 0, none⟩), .int .i32 c] w fun x w' => x = .returned (.bool true) ∧ Hid (PL w0 w' b s d l.tail) := by
  obtain ⟨p, h1, rfl⟩ := unhide h
  replace h := hide h1
  refine (pMet_yes h c hc).mono ?_
  rintro x w' ⟨rfl, p', h', e⟩
  exact ⟨rfl, PL.of' h' e⟩
theorem qMet_no (h : Hid (PL w0 w b s d l)) (c : Int) (hc : Hid (¬ hd l = c)) :
    Calls Tryz.prog 183 #[.pointer (some ⟨b, 0, none⟩), .int .i32 c] w fun x w' => x = .returned (.bool false) ∧ Hid (PL w0 w' b s d l) := by
  obtain ⟨p, h1, rfl⟩ := unhide h
  replace h := hide h1
  refine (pMet_no h c hc).mono ?_
  rintro x w' ⟨rfl, h'⟩
  exact ⟨rfl, PL.of h'⟩
theorem qRefuse (h : Hid (PL w0 w b s d l)) (e : Int) :
    Calls Tryz.prog 184 #[.pointer (some ⟨b, 0, none⟩), .int .i64 e] w fun x w' => x = Pan e (plc s.size l) ∧ Hid (Up b w0 w') := by
  obtain ⟨p, h1, rfl⟩ := unhide h
  replace h := hide h1
  rw [plc_syms (unhide h).le]
  exact pRefuse h e
theorem qTake_yes (h : Hid (PL w0 w b s d l)) (c : Int) (hc : Hid (hd l = c)) :
    Calls Tryz.prog 114 #[.pointer (some ⟨b, 0, none⟩), .int .i32 c] w fun x w' => x = .returned (.tuple #[]) ∧ Hid (PL w0 w' b s d l.tail) := by
  obtain ⟨p, h1, rfl⟩ := unhide h
  replace h := hide h1
  refine (pTake_yes h c hc).mono ?_
  rintro x w' ⟨rfl, p', h', e⟩
  exact ⟨rfl, PL.of' h' e⟩
theorem qTake_no (h : Hid (PL w0 w b s d l)) (c : Int) (hc : Hid (¬ hd l = c)) :
    Calls Tryz.prog 114 #[.pointer (some ⟨b, 0, none⟩), .int .i32 c] w fun x w' => x = Pan 2 (plc s.size l) ∧ Hid (Up b w0 w') := by
  obtain ⟨p, h1, rfl⟩ := unhide h
  replace h := hide h1
  rw [plc_syms (unhide h).le]
  exact pTake_no h c hc
theorem hd_ge' (l : List Sy) : -1 ≤ hd l := by cases l <;> simp [hd] <;> omega


theorem outV_err {a : Type} {R : Res a} {val : a → Value} {f : Nat} {args : Array Value} (H : Calls Tryz.prog f args w (OutV R val w0 b s d)) {y : Int × Int} (hR : Hid (R = .error y)) :
    Calls Tryz.prog f args w fun x w' => x = Pan y.1 y.2 ∧ Hid (Up b w0 w') := by
  rw [unhide hR] at H; exact H
theorem outV_ok {a : Type} {R : Res a} {val : a → Value} {f : Nat} {args : Array Value} (H : Calls Tryz.prog f args w (OutV R val w0 b s d)) {z : a} {l1 : List Sy} (hR : Hid (R = .ok (z, l1))) :
    Calls Tryz.prog f args w fun x w' => x = .returned (val z) ∧ Hid (PL w0 w' b s d l1) := by
  rw [unhide hR] at H; exact H
theorem outN_err {R : Res Pn} {f : Nat} {args : Array Value} (H : Calls Tryz.prog f args w (OutN R w0 b s d)) {y : Int × Int} (hR : Hid (R = .error y)) :
    Calls Tryz.prog f args w fun x w' => x = Pan y.1 y.2 ∧ Hid (Up b w0 w') := by
  rw [unhide hR] at H; exact H
theorem outN_ok {R : Res Pn} {f : Nat} {args : Array Value} (H : Calls Tryz.prog f args w (OutN R w0 b s d)) {z : Pn} {l1 : List Sy} (hR : Hid (R = .ok (z, l1))) :
    Calls Tryz.prog f args w fun x w' => ∃ n, x = .returned (vNd n) ∧ Hid (NodeOK w' (fun k => w0.heap.size ≤ k) n z) ∧ Hid (PL w0 w' b s d l1) := by
  rw [unhide hR] at H; exact H
theorem qNumber (h : Hid (PL w0 w b s d l)) (a : Int) : Calls Tryz.prog 325 #[.pointer (some ⟨b, 0, none⟩), .int .i64 a] w (OutV (numberS s.size a l) vInt w0 b s d) := by
  obtain ⟨p, h1, rfl⟩ := unhide h
  refine (pNumber (hide h1) a).mono fun x w' h => ?_
  cases hR : numberS s.size a (symsFrom s p) with
  | error y => rw [hR] at h; exact h
  | ok y => rw [hR] at h; obtain ⟨h1, p', h2, h3⟩ := h; exact ⟨h1, p', h2, h3⟩
end
end Go.Proofs.YtfolanohokflkabGreatDoor

namespace Go.Proofs.YtfolanohokflkabGreatDoor
open Go.RowKit

theorem pos1_max {m : Int} (h : 0 ≤ m) : pos1 m = max m 1 := by unfold pos1; split <;> omega
theorem numV_ge' (l : List Sy) (h : isDig (hd l) = true) : 0 ≤ (numV l).1 := by
  simp only [isDig, decide_eq_true_eq] at h
  unfold numV
  split
  · rename_i h2
    simp only [isDig, decide_eq_true_eq] at h2
    dsimp only; omega
  · dsimp only; omega
theorem numberS_b {n : Nat} {least a : Int} {l l1 : List Sy} (h : numberS n least l = .ok (a, l1)) : 0 ≤ a ∧ a ≤ 12 := by
  unfold numberS at h
  split at h
  · rename_i hd
    split at h
    · cases h
    · rename_i h2
      have e : numV l = (a, l1) := by injection h
      have := numV_ge' l hd
      rw [e] at h2 this
      dsimp only at h2 this
      omega
  · cases h

/-! a result of three cells in a block of the call's own -/
def Res3 (w : World) (rb : Nat) : Prop := ∀ j, j < 3 → (∃ u : Int, w.cell? ⟨rb, j, none⟩ = some (.int .i64 u)) ∧ w.frozen? ⟨rb, j, none⟩ = false
theorem Res3.of {W : World} {rb : Nat} {t : TypeId} (h : W.heap[rb]? = some (.cells #[.int .i64 0, .int .i64 0, .int .i64 0] t (0, 0))) : Res3 W rb := by
  intro j hj
  refine ⟨⟨0, ?_⟩, by simp [World.frozen?, h]⟩
  have : j = 0 ∨ j = 1 ∨ j = 2 := by omega
  rcases this with rfl | rfl | rfl <;> simp [World.cell?, h]
theorem Res3.new (w : World) (t : TypeId) : Res3 (w.alloc (.cells #[.int .i64 0, .int .i64 0, .int .i64 0] t)) w.heap.size := Res3.of (heap_alloc_new w _)
theorem Res3.up {w w' : World} {rb b : Nat} (h : Hid (Res3 w rb)) (hu : Up b w w') (hb : rb ≠ b) : Res3 w' rb := by
  intro j hj
  obtain ⟨⟨u, hc⟩, hf⟩ := unhide h j hj
  exact ⟨⟨u, up_cell hu hb hc⟩, up_frozen hu hb (World.block_lt_of_cell? w _ hc) hf⟩
theorem res3_cells {W : World} {rb : Nat} {v0 v1 v2 : Value} (u0 u1 u2 : Value) (c0 : W.cell? ⟨rb, 0, none⟩ = some v0) (c1 : W.cell? ⟨rb, 1, none⟩ = some v1) (c2 : W.cell? ⟨rb, 2, none⟩ = some v2) :
    (((W.setCell ⟨rb, 0, none⟩ u0).setCell ⟨rb, 1, none⟩ u1).setCell ⟨rb, 2, none⟩ u2).cell? ⟨rb, 0, none⟩ = some u0 ∧ (((W.setCell ⟨rb, 0, none⟩ u0).setCell ⟨rb, 1, none⟩ u1).setCell ⟨rb, 2, none⟩ u2).cell? ⟨rb, 1, none⟩ = some u1 ∧ (((W.setCell ⟨rb, 0, none⟩ u0).setCell ⟨rb, 1, none⟩ u1).setCell ⟨rb, 2, none⟩ u2).cell? ⟨rb, 2, none⟩ = some u2 := by
  have d0 : (W.setCell ⟨rb, 0, none⟩ u0).cell? ⟨rb, 0, none⟩ = some u0 := World.cell?_setCell_same _ _ _ c0
  have d1 : (W.setCell ⟨rb, 0, none⟩ u0).cell? ⟨rb, 1, none⟩ = some v1 := pcs_other c1 (by decide)
  have d2 : (W.setCell ⟨rb, 0, none⟩ u0).cell? ⟨rb, 2, none⟩ = some v2 := pcs_other c2 (by decide)
  have e0 := pcs_other (k := 1) (u := u1) d0 (by decide)
  have e1 : ((W.setCell ⟨rb, 0, none⟩ u0).setCell ⟨rb, 1, none⟩ u1).cell? ⟨rb, 1, none⟩ = some u1 := World.cell?_setCell_same _ _ _ d1
  have e2 := pcs_other (k := 1) (u := u1) d2 (by decide)
  exact ⟨pcs_other e0 (by decide), pcs_other e1 (by decide), World.cell?_setCell_same _ _ _ e2⟩
section
variable {w0 w : World} {b : Nat} {s : ByteArray} {d : Int} {l : List Sy}
theorem up_alloc (w : World) (o : Obj) : Up b w (w.alloc o) := Up.below ((Below.refl _ w).alloc (Nat.le_refl _) o)
theorem up_entry {w' : World} {o : Obj} (h : Hid (PL w0 w b s d l)) (hu : Hid (Up b (w.alloc o) w')) : Hid (Up b w0 w') := (PL.up h).trans ((up_alloc w o).trans (unhide hu))
theorem pl_entry (h : Hid (PL w0 w b s d l)) (o : Obj) : Hid (PL (w.alloc o) (w.alloc o) b s d l) := PL.base (PL.below h ((Below.refl _ w).alloc (Nat.le_refl _) o))
theorem pl_exit3 {w' : World} {o : Obj} {l' : List Sy} (h : Hid (PL w0 w b s d l)) (h' : Hid (PL (w.alloc o) w' b s d l')) (u0 u1 u2 : Value) :
    Hid (PL w0 (((w'.setCell ⟨w.heap.size, 0, none⟩ u0).setCell ⟨w.heap.size, 1, none⟩ u1).setCell ⟨w.heap.size, 2, none⟩ u2) b s d l') := by
  have hlt := PL.lt h
  have hsz := (PL.up h).size
  have h1 := PL.join ((PL.up h).trans (up_alloc w o)) h'
  exact PL.set (PL.set (PL.set h1 hsz hlt 0 u0) hsz hlt 1 u1) hsz hlt 2 u2

set_option maxRecDepth 100000 in
set_option maxHeartbeats 8000000 in
theorem qBounds (h : Hid (PL w0 w b s d l)) :
    Calls Tryz.prog 313 #[.pointer (some ⟨b, 0, none⟩)] w (OutV (boundsP s.size l) vOften w0 b s d) := by
  have HR3 := hide (Res3.new w 51)
  have HS0 := pl_entry h (.cells #[.int .i64 0, .int .i64 0, .int .i64 0] 51)
  have hne : w.heap.size ≠ b := by have := PL.lt h; omega
  have HUE : Hid (∀ w', Hid (Up b (w.alloc (.cells #[.int .i64 0, .int .i64 0, .int .i64 0] 51)) w') → Hid (Up b w0 w')) := fun w' hu => up_entry h hu
  have HPE : Hid (∀ w' l' u0 u1 u2, Hid (PL (w.alloc (.cells #[.int .i64 0, .int .i64 0, .int .i64 0] 51)) w' b s d l') → Hid (PL w0 (((w'.setCell ⟨w.heap.size, 0, none⟩ u0).setCell ⟨w.heap.size, 1, none⟩ u1).setCell ⟨w.heap.size, 2, none⟩ u2) b s d l')) := fun w' l' u0 u1 u2 h' => pl_exit3 h h' u0 u1 u2
  obtain ⟨R, hR⟩ : ∃ R, boundsP s.size l = R := ⟨_, rfl⟩
  rw [hR]
  cases hn : numberS s.size 0 l with
  | error y =>
    have HX : Hid (R = .error y) := by show _ = _; rw [← hR, boundsP, hn]
    have HN1 := hide hn
    clear hn hR h
    go_enter Tryz.func313, Tryz.ntmps313
    go_wp2_with (go_at_call 325; refine (outV_err (qNumber HS0 0) HN1).mono ?_; rintro x w1 ⟨rfl, HU⟩)
    rw [unhide HX]
    exact ⟨rfl, rfl, unhide HUE _ HU⟩
  | ok y =>
    obtain ⟨a, l1⟩ := y
    obtain ⟨ha0, ha12⟩ := numberS_b hn
    have hea : ((a.toNat : Nat) : Int) = a := by omega
    have HN1 := hide hn
    have hR2 : R = if hd l1 = 44 then (if hd l1.tail = 125 then .ok ((a.toNat, none, a + 1), l1.tail.tail) else match numberS s.size a l1.tail with | .error x => .error x | .ok (m, l2) => closeP s.size (a.toNat, some m.toNat, pos1 m) l2) else closeP s.size (a.toNat, some a.toNat, pos1 a) l1 := by
      rw [← hR, boundsP, hn]; rfl
    clear hn hR h
    by_cases hcm : hd l1 = 44
    · have HCM := hide hcm
      rw [if_pos hcm] at hR2
      by_cases hcl : hd l1.tail = 125
      · have HX := hide (hR2.trans (if_pos hcl))
        have HCL := hide hcl
        clear hcl hcm hR2
        go_enter Tryz.func313, Tryz.ntmps313
        go_wp2_with (first
          | (go_at_call 325; refine (outV_ok (qNumber HS0 0) HN1).mono ?_; clear HS0 HN1; rintro x w1 ⟨rfl, HS⟩)
          | (go_at_call 183; have HCM1 := HCM; clear HCM; refine (qMet_yes HS 44 HCM1).mono ?_; clear HS; rintro x w2 ⟨rfl, HS⟩)
          | (go_at_call 183; refine (qMet_yes HS 125 HCL).mono ?_; clear HS; rintro x w3 ⟨rfl, HS⟩; have H3 := Res3.up HR3 (PL.up HS) hne; obtain ⟨⟨z0, c0⟩, f0⟩ := H3 0 (by omega); obtain ⟨⟨z1, c1⟩, f1⟩ := H3 1 (by omega); obtain ⟨⟨z2, c2⟩, f2⟩ := H3 2 (by omega); clear H3))
        obtain ⟨k0, k1, k2⟩ := res3_cells (.int .i64 a) (.int .i64 (-1)) (.int .i64 (a + 1)) c0 c1 c2
        refine bodyPost_ret (v := vOften (a.toNat, none, a + 1)) (by simp [results, Tryz.results313, go_sem, k0, k1, k2, vOften, mostV, hea]) rfl ?_
        rw [unhide HX]
        exact ⟨rfl, unhide HPE _ _ _ _ _ HS⟩
      · rw [if_neg hcl] at hR2
        have HCL := hide hcl
        clear hcl hcm
        cases hn2 : numberS s.size a l1.tail with
        | error y =>
          rw [hn2] at hR2
          have HX : Hid (R = .error y) := hR2
          have HN2 := hide hn2
          clear hn2 hR2
          go_enter Tryz.func313, Tryz.ntmps313
          go_wp2_with (first
            | (go_at_call 325; refine (outV_ok (qNumber HS0 0) HN1).mono ?_; clear HS0 HN1; rintro x w1 ⟨rfl, HS⟩)
            | (go_at_call 183; have HCM1 := HCM; clear HCM; refine (qMet_yes HS 44 HCM1).mono ?_; clear HS; rintro x w2 ⟨rfl, HS⟩)
            | (go_at_call 183; refine (qMet_no HS 125 HCL).mono ?_; clear HS; rintro x w3 ⟨rfl, HS⟩)
            | (go_at_call 325; refine (outV_err (qNumber HS a) HN2).mono ?_; rintro x w4 ⟨rfl, HU⟩))
          rw [unhide HX]
          exact ⟨rfl, rfl, unhide HUE _ HU⟩
        | ok y =>
          obtain ⟨m, l2⟩ := y
          obtain ⟨hm0, hm12⟩ := numberS_b hn2
          have hem : ((m.toNat : Nat) : Int) = m := by omega
          rw [hn2] at hR2
          have hR3 : R = closeP s.size (a.toNat, some m.toNat, pos1 m) l2 := hR2
          have HN2 := hide hn2
          clear hn2 hR2
          by_cases hcl2 : hd l2 = 125
          · have HX : Hid (R = .ok ((a.toNat, some m.toNat, max m 1), l2.tail)) := by show _ = _; rw [hR3, closeP, if_pos hcl2, pos1_max hm0]
            have HCL2 := hide hcl2
            clear hcl2 hR3
            go_enter Tryz.func313, Tryz.ntmps313
            go_wp2_with (first
              | (go_at_call 325; refine (outV_ok (qNumber HS0 0) HN1).mono ?_; clear HS0 HN1; rintro x w1 ⟨rfl, HS⟩)
              | (go_at_call 183; have HCM1 := HCM; clear HCM; refine (qMet_yes HS 44 HCM1).mono ?_; clear HS; rintro x w2 ⟨rfl, HS⟩)
              | (go_at_call 183; refine (qMet_no HS 125 HCL).mono ?_; clear HS; rintro x w3 ⟨rfl, HS⟩)
              | (go_at_call 325; refine (outV_ok (qNumber HS a) HN2).mono ?_; clear HS; rintro x w4 ⟨rfl, HS⟩)
              | (go_at_call 114; refine (qTake_yes HS 125 HCL2).mono ?_; clear HS; rintro x w5 ⟨rfl, HS⟩; have H3 := Res3.up HR3 (PL.up HS) hne; obtain ⟨⟨z0, c0⟩, f0⟩ := H3 0 (by omega); obtain ⟨⟨z1, c1⟩, f1⟩ := H3 1 (by omega); obtain ⟨⟨z2, c2⟩, f2⟩ := H3 2 (by omega); clear H3))
            obtain ⟨k0, k1, k2⟩ := res3_cells (.int .i64 a) (.int .i64 m) (.int .i64 (max m 1)) c0 c1 c2
            refine bodyPost_ret (v := vOften (a.toNat, some m.toNat, max m 1)) (by simp [results, Tryz.results313, go_sem, k0, k1, k2, vOften, mostV, hea, hem]) rfl ?_
            rw [unhide HX]
            exact ⟨rfl, unhide HPE _ _ _ _ _ HS⟩
          · have HX : Hid (R = .error (2, plc s.size l2)) := by show _ = _; rw [hR3, closeP, if_neg hcl2]; rfl
            have HCL2 := hide hcl2
            clear hcl2 hR3
            go_enter Tryz.func313, Tryz.ntmps313
            go_wp2_with (first
              | (go_at_call 325; refine (outV_ok (qNumber HS0 0) HN1).mono ?_; clear HS0 HN1; rintro x w1 ⟨rfl, HS⟩)
              | (go_at_call 183; have HCM1 := HCM; clear HCM; refine (qMet_yes HS 44 HCM1).mono ?_; clear HS; rintro x w2 ⟨rfl, HS⟩)
              | (go_at_call 183; refine (qMet_no HS 125 HCL).mono ?_; clear HS; rintro x w3 ⟨rfl, HS⟩)
              | (go_at_call 325; refine (outV_ok (qNumber HS a) HN2).mono ?_; clear HS; rintro x w4 ⟨rfl, HS⟩)
              | (go_at_call 114; refine (qTake_no HS 125 HCL2).mono ?_; rintro x w5 ⟨rfl, HU⟩))
            rw [unhide HX]
            exact ⟨rfl, rfl, unhide HUE _ HU⟩
    · rw [if_neg hcm] at hR2
      have HCM := hide hcm
      clear hcm
      by_cases hcl2 : hd l1 = 125
      · have HX : Hid (R = .ok ((a.toNat, some a.toNat, max a 1), l1.tail)) := by show _ = _; rw [hR2, closeP, if_pos hcl2, pos1_max ha0]
        have HCL2 := hide hcl2
        clear hcl2 hR2
        go_enter Tryz.func313, Tryz.ntmps313
        go_wp2_with (first
          | (go_at_call 325; refine (outV_ok (qNumber HS0 0) HN1).mono ?_; clear HS0 HN1; rintro x w1 ⟨rfl, HS⟩)
          | (go_at_call 183; refine (qMet_no HS 44 HCM).mono ?_; clear HS; rintro x w2 ⟨rfl, HS⟩)
          | (go_at_call 114; refine (qTake_yes HS 125 HCL2).mono ?_; clear HS; rintro x w5 ⟨rfl, HS⟩; have H3 := Res3.up HR3 (PL.up HS) hne; obtain ⟨⟨z0, c0⟩, f0⟩ := H3 0 (by omega); obtain ⟨⟨z1, c1⟩, f1⟩ := H3 1 (by omega); obtain ⟨⟨z2, c2⟩, f2⟩ := H3 2 (by omega); clear H3))
        obtain ⟨k0, k1, k2⟩ := res3_cells (.int .i64 a) (.int .i64 a) (.int .i64 (max a 1)) c0 c1 c2
        refine bodyPost_ret (v := vOften (a.toNat, some a.toNat, max a 1)) (by simp [results, Tryz.results313, go_sem, k0, k1, k2, vOften, mostV, hea]) rfl ?_
        rw [unhide HX]
        exact ⟨rfl, unhide HPE _ _ _ _ _ HS⟩
      · have HX : Hid (R = .error (2, plc s.size l1)) := by show _ = _; rw [hR2, closeP, if_neg hcl2]; rfl
        have HCL2 := hide hcl2
        clear hcl2 hR2
        go_enter Tryz.func313, Tryz.ntmps313
        go_wp2_with (first
          | (go_at_call 325; refine (outV_ok (qNumber HS0 0) HN1).mono ?_; clear HS0 HN1; rintro x w1 ⟨rfl, HS⟩)
          | (go_at_call 183; refine (qMet_no HS 44 HCM).mono ?_; clear HS; rintro x w2 ⟨rfl, HS⟩)
          | (go_at_call 114; refine (qTake_no HS 125 HCL2).mono ?_; rintro x w5 ⟨rfl, HU⟩))
        rw [unhide HX]
        exact ⟨rfl, rfl, unhide HUE _ HU⟩
end
end Go.Proofs.YtfolanohokflkabGreatDoor

namespace Go.Proofs.YtfolanohokflkabGreatDoor
open Go.RowKit
section
variable {w0 w : World} {b : Nat} {s : ByteArray} {d : Int} {l : List Sy}
set_option maxRecDepth 100000 in
set_option maxHeartbeats 8000000 in
theorem qRepeat (h : Hid (PL w0 w b s d l)) (hrp : isRep (hd l) = true) :
    Calls Tryz.prog 291 #[.pointer (some ⟨b, 0, none⟩)] w (OutV (repeatP s.size l) vOften w0 b s d) := by
  have HR3 := hide (Res3.new w 51)
  have HS0 := pl_entry h (.cells #[.int .i64 0, .int .i64 0, .int .i64 0] 51)
  have hne : w.heap.size ≠ b := by have := PL.lt h; omega
  have HUE : Hid (∀ w', Hid (Up b (w.alloc (.cells #[.int .i64 0, .int .i64 0, .int .i64 0] 51)) w') → Hid (Up b w0 w')) := fun w' hu => up_entry h hu
  have HPE : Hid (∀ w' l' u0 u1 u2, Hid (PL (w.alloc (.cells #[.int .i64 0, .int .i64 0, .int .i64 0] 51)) w' b s d l') → Hid (PL w0 (((w'.setCell ⟨w.heap.size, 0, none⟩ u0).setCell ⟨w.heap.size, 1, none⟩ u1).setCell ⟨w.heap.size, 2, none⟩ u2) b s d l')) := fun w' l' u0 u1 u2 h' => pl_exit3 h h' u0 u1 u2
  obtain ⟨R, hR⟩ : ∃ R, repeatP s.size l = R := ⟨_, rfl⟩
  rw [hR]
  unfold repeatP at hR
  simp only [isRep, decide_eq_true_eq] at hrp
  clear h
  by_cases h42 : hd l = 42
  · rw [if_neg (by omega), if_pos h42] at hR
    have HX := hide hR.symm
    have HC42 := hide h42
    clear h42 hR hrp
    go_enter Tryz.func291, Tryz.ntmps291
    go_wp2_with (first
      | (go_at_call 183; have HQ := HC42; clear HC42; refine (qMet_yes HS0 42 HQ).mono ?_; clear HS0; rintro x w42 ⟨rfl, HS⟩; have H3 := Res3.up HR3 (PL.up HS) hne; obtain ⟨⟨z0, c0⟩, f0⟩ := H3 0 (by omega); obtain ⟨⟨z1, c1⟩, f1⟩ := H3 1 (by omega); obtain ⟨⟨z2, c2⟩, f2⟩ := H3 2 (by omega); clear H3))
    obtain ⟨k0, k1, k2⟩ := res3_cells (.int .i64 0) (.int .i64 (-1)) (.int .i64 2) c0 c1 c2
    refine bodyPost_ret (v := vOften (0, none, 2)) (by simp [results, Tryz.results291, go_sem, k0, k1, k2, vOften, mostV]) rfl ?_
    rw [unhide HX]
    exact ⟨rfl, unhide HPE _ _ _ _ _ HS⟩
  by_cases h43 : hd l = 43
  · rw [if_neg (by omega), if_neg h42, if_pos h43] at hR
    have HX := hide hR.symm
    have HC42 := hide h42
    have HC43 := hide h43
    clear h42 h43 hR hrp
    go_enter Tryz.func291, Tryz.ntmps291
    go_wp2_with (first
      | (go_at_call 183; have HQ := HC42; clear HC42; refine (qMet_no HS0 42 HQ).mono ?_; clear HS0; rintro x w42 ⟨rfl, HS⟩)
      | (go_at_call 183; have HQ := HC43; clear HC43; refine (qMet_yes HS 43 HQ).mono ?_; clear HS; rintro x w43 ⟨rfl, HS⟩; have H3 := Res3.up HR3 (PL.up HS) hne; obtain ⟨⟨z0, c0⟩, f0⟩ := H3 0 (by omega); obtain ⟨⟨z1, c1⟩, f1⟩ := H3 1 (by omega); obtain ⟨⟨z2, c2⟩, f2⟩ := H3 2 (by omega); clear H3))
    obtain ⟨k0, k1, k2⟩ := res3_cells (.int .i64 1) (.int .i64 (-1)) (.int .i64 2) c0 c1 c2
    refine bodyPost_ret (v := vOften (1, none, 2)) (by simp [results, Tryz.results291, go_sem, k0, k1, k2, vOften, mostV]) rfl ?_
    rw [unhide HX]
    exact ⟨rfl, unhide HPE _ _ _ _ _ HS⟩
  by_cases h63 : hd l = 63
  · rw [if_neg (by omega), if_neg h42, if_neg h43] at hR
    have HX := hide hR.symm
    have HC42 := hide h42
    have HC43 := hide h43
    have HC63 := hide h63
    clear h42 h43 h63 hR hrp
    go_enter Tryz.func291, Tryz.ntmps291
    go_wp2_with (first
      | (go_at_call 183; have HQ := HC42; clear HC42; refine (qMet_no HS0 42 HQ).mono ?_; clear HS0; rintro x w42 ⟨rfl, HS⟩)
      | (go_at_call 183; have HQ := HC43; clear HC43; refine (qMet_no HS 43 HQ).mono ?_; clear HS; rintro x w43 ⟨rfl, HS⟩)
      | (go_at_call 183; have HQ := HC63; clear HC63; refine (qMet_yes HS 63 HQ).mono ?_; clear HS; rintro x w63 ⟨rfl, HS⟩; have H3 := Res3.up HR3 (PL.up HS) hne; obtain ⟨⟨z0, c0⟩, f0⟩ := H3 0 (by omega); obtain ⟨⟨z1, c1⟩, f1⟩ := H3 1 (by omega); obtain ⟨⟨z2, c2⟩, f2⟩ := H3 2 (by omega); clear H3))
    obtain ⟨k0, k1, k2⟩ := res3_cells (.int .i64 0) (.int .i64 1) (.int .i64 2) c0 c1 c2
    refine bodyPost_ret (v := vOften (0, some 1, 2)) (by simp [results, Tryz.results291, go_sem, k0, k1, k2, vOften, mostV]) rfl ?_
    rw [unhide HX]
    exact ⟨rfl, unhide HPE _ _ _ _ _ HS⟩
  have h123 : hd l = 123 := by omega
  rw [if_pos h123] at hR
  have HC42 := hide h42
  have HC43 := hide h43
  have HC63 := hide h63
  have HC123 := hide h123
  clear h42 h43 h63 h123 hrp
  cases R with
  | error y =>
    have HR := hide hR
    clear hR
    go_enter Tryz.func291, Tryz.ntmps291
    go_wp2_with (first
      | (go_at_call 183; have HQ := HC42; clear HC42; refine (qMet_no HS0 42 HQ).mono ?_; clear HS0; rintro x w42 ⟨rfl, HS⟩)
      | (go_at_call 183; have HQ := HC43; clear HC43; refine (qMet_no HS 43 HQ).mono ?_; clear HS; rintro x w43 ⟨rfl, HS⟩)
      | (go_at_call 183; have HQ := HC63; clear HC63; refine (qMet_no HS 63 HQ).mono ?_; clear HS; rintro x w63 ⟨rfl, HS⟩)
      | (go_at_call 114; refine (qTake_yes HS 123 HC123).mono ?_; clear HS; rintro x w5 ⟨rfl, HS⟩)
      | (go_at_call 313; refine (outV_err (qBounds HS) HR).mono ?_; rintro x w6 ⟨rfl, HU⟩))
    exact ⟨rfl, rfl, unhide HUE _ HU⟩
  | ok y =>
    obtain ⟨o, l1⟩ := y
    have HR := hide hR
    clear hR
    go_enter Tryz.func291, Tryz.ntmps291
    go_wp2_with (first
      | (go_at_call 183; have HQ := HC42; clear HC42; refine (qMet_no HS0 42 HQ).mono ?_; clear HS0; rintro x w42 ⟨rfl, HS⟩)
      | (go_at_call 183; have HQ := HC43; clear HC43; refine (qMet_no HS 43 HQ).mono ?_; clear HS; rintro x w43 ⟨rfl, HS⟩)
      | (go_at_call 183; have HQ := HC63; clear HC63; refine (qMet_no HS 63 HQ).mono ?_; clear HS; rintro x w63 ⟨rfl, HS⟩)
      | (go_at_call 114; refine (qTake_yes HS 123 HC123).mono ?_; clear HS; rintro x w5 ⟨rfl, HS⟩)
      | (go_at_call 313; refine (outV_ok (qBounds HS) HR).mono ?_; clear HS; simp only [vOften]; rintro x w6 ⟨rfl, HS⟩; have H3 := Res3.up HR3 (PL.up HS) hne; obtain ⟨⟨z0, c0⟩, f0⟩ := H3 0 (by omega); obtain ⟨⟨z1, c1⟩, f1⟩ := H3 1 (by omega); obtain ⟨⟨z2, c2⟩, f2⟩ := H3 2 (by omega); clear H3))
    obtain ⟨k0, k1, k2⟩ := res3_cells (.int .i64 o.1) (.int .i64 (mostV o.2.1)) (.int .i64 o.2.2) c0 c1 c2
    refine bodyPost_ret (v := vOften o) (by simp [results, Tryz.results291, go_sem, k0, k1, k2, vOften]) rfl ?_
    exact ⟨rfl, unhide HPE _ _ _ _ _ HS⟩
end
end Go.Proofs.YtfolanohokflkabGreatDoor
