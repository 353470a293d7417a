import Derived.Test.YtfolanohokflkaaGreatDoorProC
import Derived.Test.YtfolanohokflkaaGreatDoorSvF
import Derived.Test.YtfolanohokflkaaGreatDoorPSpec
import Derived.WalkKit
import Derived.WalkSpells
import Derived.WalkLawsBesides
import Derived.WalkMore
/-
  The program's reader with nodes: its state, from the call's own world on.
-/
namespace Go.Proofs.YtfolanohokflkaaGreatDoor
open Go.RowKit

/-- the program's reader, said of the symbols that are left. -/
def PL (w0 w : World) (b : Nat) (s : ByteArray) (d : Int) (l : List Sy) : Prop := ∃ p, PS w0 w b s p d ∧ symsFrom s p = l

section
variable {w0 w : World} {b : Nat} {s : ByteArray} {p : Nat} {d : Int} {l : List Sy}

theorem PL.of (h : Hid (PS w0 w b s p d)) : Hid (PL w0 w b s d (symsFrom s p)) := ⟨p, h, rfl⟩
theorem PL.base (h : Hid (PL w0 w b s d l)) : Hid (PL w w b s d l) := by
  obtain ⟨p, h1, e⟩ := unhide h
  exact ⟨p, ⟨h1.c0, h1.c1, h1.c2, h1.fz, h1.tabs, h1.b2, Up.refl _ _, h1.le, h1.small⟩, e⟩
theorem PL.up (h : Hid (PL w0 w b s d l)) : Up b w0 w := by
  obtain ⟨p, h1, e⟩ := unhide h
  exact h1.up
theorem PL.join {w' : World} (h : Up b w0 w) (k : Hid (PL w w' b s d l)) : Hid (PL w0 w' b s d l) := by
  obtain ⟨p, h1, e⟩ := unhide k
  exact ⟨p, ⟨h1.c0, h1.c1, h1.c2, h1.fz, h1.tabs, h1.b2, h.trans h1.up, h1.le, h1.small⟩, e⟩
theorem PL.below {w' : World} (h : Hid (PL w0 w b s d l)) (hb : Below w.heap.size w w') : Hid (PL w0 w' b s d l) := by
  obtain ⟨p, h1, e⟩ := unhide h
  exact ⟨p, unhide (PS.below (hide h1) hb), e⟩
theorem PL.lt (h : Hid (PL w0 w b s d l)) : b < w.heap.size := by
  obtain ⟨p, h1, e⟩ := unhide h
  exact h1.lt
theorem PL.len (h : Hid (PL w0 w b s d l)) : l.length ≤ 60 := by
  obtain ⟨p, h1, rfl⟩ := unhide h
  have := symsFrom_len s p
  have := h1.small
  omega
theorem PL.symOr (h : Hid (PL w0 w b s d l)) : SymOr (hd l) := by
  obtain ⟨p, h1, rfl⟩ := unhide h
  exact symOr_hd s p h1.le
theorem PL.allSym (h : Hid (PL w0 w b s d l)) : AllSym l := by
  obtain ⟨p, h1, rfl⟩ := unhide h
  exact symsFrom_sym s p
/-- a store into a block of the call's own. -/
theorem PL.set (h : Hid (PL w0 w b s d l)) {rb : Nat} (h0 : w0.heap.size ≤ rb) (hb : b < rb) (j : Nat) (u : Value) : Hid (PL w0 (w.setCell ⟨rb, j, none⟩ u) b s d l) := by
  obtain ⟨p, g, e⟩ := unhide h
  have hbl : ∀ k, k ≠ rb → (w.setCell ⟨rb, j, none⟩ u).heap[k]? = w.heap[k]? := fun k hk => Below.heap_setCell w ⟨rb, j, none⟩ u k hk
  have hc : ∀ i v, w.cell? ⟨b, i, none⟩ = some v → (w.setCell ⟨rb, j, none⟩ u).cell? ⟨b, i, none⟩ = some v := fun i v q => by
    rw [World.cell?_of_block (hbl b (by omega))]; exact q
  have hb2 := g.b2
  refine ⟨p, ⟨hc _ _ g.c0, hc _ _ g.c1, hc _ _ g.c2, fun k => by rw [World.frozen?_setCell]; exact g.fz k, tabs_of g.tabs (hbl _ (by omega)) (hbl _ (by omega)), g.b2, ?_, g.le, g.small⟩, e⟩
  exact ⟨g.up.os, g.up.tape, g.up.output, by have := g.up.size; simp [World.setCell]; exact this, fun k hk hkb => (hbl k (by omega)).trans (g.up.block k hk hkb)⟩
end
theorem up_cell {w w' : World} {b k j : Nat} {v : Value} (h : Up b w w') (hk : k ≠ b) (hc : w.cell? ⟨k, j, none⟩ = some v) : w'.cell? ⟨k, j, none⟩ = some v := by
  rw [World.cell?_of_block (h.block k (World.block_lt_of_cell? w _ hc) hk)]; exact hc
theorem up_frozen {w w' : World} {b k j : Nat} (h : Up b w w') (hk : k ≠ b) (hlt : k < w.heap.size) (hc : w.frozen? ⟨k, j, none⟩ = false) : w'.frozen? ⟨k, j, none⟩ = false := by
  rw [World.frozen?_of_block (h.block k hlt hk)]; exact hc
theorem own_up {w w' : World} {b base e size n : Nat} {v : Value} {xs : List Value} (h : w.ownsRow base e size v n xs) (hu : Up b w w') (hb : v.ownBlock ≠ some b) : w'.ownsRow base e size v n xs := by
  obtain ⟨hl, hx | ⟨g, cap, cur, hv, hb', hg, rest⟩⟩ := h
  · exact ⟨hl, .inl hx⟩
  · have hlt : g < w.heap.size := (Array.getElem?_eq_some_iff.1 hg).1
    exact ⟨hl, .inr ⟨g, cap, cur, hv, hb', by rw [hu.block g hlt (fun e => hb (by rw [hv, e]; rfl))]; exact hg, rest⟩⟩

/-! nodes in memory -/
structure Nd where
  sh : Int
  pa : Option Addr
  pn : Nat
  pc : Nat
  ss : ByteArray
  le : Int
  mo : Int
  fa : Int
  sz : Int
@[reducible] def Nd.pv (n : Nd) : Value := .slice n.pa n.pn n.pc
def vNd (n : Nd) : Value := .agg #[.int .i64 n.sh, .slice n.pa n.pn n.pc, .string n.ss, .int .i64 n.le, .int .i64 n.mo, .int .i64 n.fa, .int .i64 n.sz]
def cNd (n : Nd) : List Value := [.int .i64 n.sh, .slice n.pa n.pn n.pc, .string n.ss, .int .i64 n.le, .int .i64 n.mo, .int .i64 n.fa, .int .i64 n.sz]
theorem infoNd : (Tryz.prog.info? 65).map (fun i => (i.zero, i.size, i.bytes)) = some (some (vNd ⟨0, none, 0, 0, ⟨#[]⟩, 0, 0, 0, 0⟩), 7, 80) := by kernel_rfl
def ndCells : List Nd → List Value
  | [] => []
  | n :: r => cNd n ++ ndCells r
theorem ndCells_append (a c : List Nd) : ndCells (a ++ c) = ndCells a ++ ndCells c := by
  induction a with
  | nil => rfl
  | cons x a ih => simp [ndCells, ih]
theorem ndCells_length (a : List Nd) : (ndCells a).length = a.length * 7 := by
  induction a with
  | nil => rfl
  | cons x a ih => simp [ndCells, ih, cNd]; omega
/-- a slice of nodes, in a block of some. -/
def PartsV (w : World) (F : Nat → Prop) (pv : Value) (nds : List Nd) : Prop := w.ownsRow 0 65 7 pv nds.length (ndCells nds) ∧ ∀ k, pv.ownBlock = some k → F k
theorem own_move {w w' : World} {base e size n : Nat} {v : Value} {xs : List Value} (h : w.ownsRow base e size v n xs) (hk : ∀ k, v.ownBlock = some k → k < w.heap.size → w'.heap[k]? = w.heap[k]?) : w'.ownsRow base e size v n xs := by
  obtain ⟨hl, hx | ⟨g, cap, cur, hv, hb', hg, rest⟩⟩ := h
  · exact ⟨hl, .inl hx⟩
  · have hlt : g < w.heap.size := (Array.getElem?_eq_some_iff.1 hg).1
    exact ⟨hl, .inr ⟨g, cap, cur, hv, hb', by rw [hk g (by rw [hv]; rfl) hlt]; exact hg, rest⟩⟩
theorem PartsV.move {w w' : World} {F G : Nat → Prop} {pv : Value} {nds : List Nd} (h : PartsV w F pv nds) (hm : ∀ k, F k → k < w.heap.size → w'.heap[k]? = w.heap[k]? ∧ G k) : PartsV w' G pv nds :=
  ⟨own_move h.1 fun k hk hl => (hm k (h.2 k hk) hl).1, fun k hk => (hm k (h.2 k hk) (h.1.lt k hk).2).2⟩
def mostV : Option Nat → Int
  | none => -1
  | some m => m
/-- a node stands for a tree; all of it lies in some blocks. -/
inductive NodeV (w : World) (F : Nat → Prop) : Nd → Pt → Prop where
  | set {n : Nd} {l : Spans} : n.sh = 0 → n.ss = encS l → n.pn = 0 → NodeV w F n (.set l)
  | grp {n : Nd} {k : Bool} {nds : List Nd} {ts : List Pt} : n.sh = (if k = true then 2 else 1) → PartsV w F n.pv nds → nds.length = ts.length → (∀ (i : Nat) (h : i < nds.length) (h' : i < ts.length), NodeV w F nds[i] ts[i]) → NodeV w F n (.grp k ts)
  | row {n : Nd} {nds : List Nd} {ts : List Pt} : n.sh = 3 → PartsV w F n.pv nds → nds.length = ts.length → (∀ (i : Nat) (h : i < nds.length) (h' : i < ts.length), NodeV w F nds[i] ts[i]) → NodeV w F n (.row ts)
  | not {n m : Nd} {t : Pt} : n.sh = 4 → PartsV w F n.pv [m] → NodeV w F m t → NodeV w F n (.not t)
  | rep {n m : Nd} {t : Pt} {least : Nat} {most : Option Nat} : n.sh = 5 → PartsV w F n.pv [m] → NodeV w F m t → n.le = least → n.mo = mostV most → NodeV w F n (.rep t least most)
  | one {n m : Nd} {t : Pt} : (n.sh = 1 ∨ n.sh = 2 ∨ n.sh = 3) → PartsV w F n.pv [m] → NodeV w F m t → NodeV w F n t
theorem NodeV.move {w w' : World} {F G : Nat → Prop} (hm : ∀ k, F k → k < w.heap.size → w'.heap[k]? = w.heap[k]? ∧ G k) {n : Nd} {t : Pt} (h : NodeV w F n t) : NodeV w' G n t := by
  induction h with
  | set h1 h2 h3 => exact .set h1 h2 h3
  | grp h1 h2 h3 _ ih => exact .grp h1 (h2.move hm) h3 ih
  | row h1 h2 h3 _ ih => exact .row h1 (h2.move hm) h3 ih
  | not h1 h2 _ ih => exact .not h1 (h2.move hm) ih
  | rep h1 h2 _ h3 h4 ih => exact .rep h1 (h2.move hm) ih h3 h4
  | one h1 h2 _ ih => exact .one h1 (h2.move hm) ih
def NodeOK (w : World) (F : Nat → Prop) (n : Nd) (p : Pn) : Prop := n.sz = p.2 ∧ NodeV w F n p.1
theorem NodeOK.move {w w' : World} {F G : Nat → Prop} {n : Nd} {p : Pn} (h : Hid (NodeOK w F n p)) (hm : ∀ k, F k → k < w.heap.size → w'.heap[k]? = w.heap[k]? ∧ G k) : Hid (NodeOK w' G n p) := ⟨(unhide h).1, (unhide h).2.move hm⟩
/-- the nodes of a slice stand for parts. -/
def AllOK (w : World) (F : Nat → Prop) (nds : List Nd) (ps : List Pn) : Prop := nds.length = ps.length ∧ ∀ (i : Nat) (h : i < nds.length) (h' : i < ps.length), NodeOK w F nds[i] ps[i]
theorem AllOK.move {w w' : World} {F G : Nat → Prop} {nds : List Nd} {ps : List Pn} (h : AllOK w F nds ps) (hm : ∀ k, F k → k < w.heap.size → w'.heap[k]? = w.heap[k]? ∧ G k) : AllOK w' G nds ps := ⟨h.1, fun i a c => NodeOK.move (h.2 i a c) hm⟩
theorem AllOK.snoc {w : World} {F : Nat → Prop} {nds : List Nd} {ps : List Pn} {n : Nd} {p : Pn} (h : AllOK w F nds ps) (hn : NodeOK w F n p) : AllOK w F (nds ++ [n]) (ps ++ [p]) := by
  refine ⟨by simp [h.1], fun i a c => ?_⟩
  simp only [List.length_append, List.length_cons, List.length_nil] at a c
  by_cases hi : i < nds.length
  · rw [List.getElem_append_left hi, List.getElem_append_left (by have := h.1; omega)]
    exact h.2 i hi (by have := h.1; omega)
  · have e : i = nds.length := by omega
    subst e
    simp [h.1]
    exact hn
def vOften (o : Often) : Value := .agg #[.int .i64 o.1, .int .i64 (mostV o.2.1), .int .i64 o.2.2]
/-- what a part of the reader answers: a value that is plain, or the panic. -/
def OutV {a : Type} (R : Res a) (val : a → Value) (w0 : World) (b : Nat) (s : ByteArray) (d : Int) (x : Ending) (w' : World) : Prop :=
  match R with
  | .ok y => x = .returned (val y.1) ∧ Hid (PL w0 w' b s d y.2)
  | .error y => x = Pan y.1 y.2 ∧ Hid (Up b w0 w')
/-- .. a node, or the panic. -/
def OutN (R : Res Pn) (w0 : World) (b : Nat) (s : ByteArray) (d : Int) (x : Ending) (w' : World) : Prop :=
  match R with
  | .ok y => ∃ n, x = .returned (vNd n) ∧ Hid (NodeOK w' (fun k => w0.heap.size ≤ k) n y.1) ∧ Hid (PL w0 w' b s d y.2)
  | .error y => x = Pan y.1 y.2 ∧ Hid (Up b w0 w')
end Go.Proofs.YtfolanohokflkaaGreatDoor

namespace Go.Proofs.YtfolanohokflkaaGreatDoor
open Go.RowKit

section
variable {w0 w : World} {b : Nat} {s : ByteArray} {p : Nat} {d : Int} {l : List Sy}
theorem PL.of' (h : Hid (PS w0 w b s p d)) (e : Hid (symsFrom s p = l)) : Hid (PL w0 w b s d l) := ⟨p, h, e⟩
theorem qLook (h : Hid (PL w0 w b s d l)) {c : Int} (hc : Hid (hd l = c)) :
    Calls Tryz.prog 251 #[.pointer (some ⟨b, 0, none⟩)] w fun x w' => x = .returned (.int .i32 c) ∧ Hid (PL w0 w' b s d l) := by
  obtain ⟨p, h1, rfl⟩ := unhide h
  replace h := hide h1
  refine (pLook h).mono ?_
  rintro x w' ⟨rfl, h'⟩
  exact ⟨by rw [unhide hc], PL.of h'⟩
theorem qStep (h : Hid (PL w0 w b s d l)) :
    Calls Tryz.prog 252 #[.pointer (some ⟨b, 0, none⟩)] w fun x w' => x = .returned (.tuple #[]) ∧ Hid (PL w0 w' b s d l.tail) := by
  obtain ⟨p, h1, rfl⟩ := unhide h
  replace h := hide h1
  refine (pStep h).mono ?_
  rintro x w' ⟨rfl, p', h', e⟩
  exact ⟨rfl, PL.of' h' e⟩
theorem qMet_yes (h : Hid (PL w0 w b s d l)) (c : Int) (hc : Hid (hd l = c)) :
    Calls Tryz.prog 219 #[.pointer (some ⟨b, 0, none⟩), .int .i32 c] w fun x w' => x = .returned (.bool true) ∧ Hid (PL w0 w' b s d l.tail) := by
  obtain ⟨p, h1, rfl⟩ := unhide h
  replace h := hide h1
  refine (pMet_yes h c hc).mono ?_
  rintro x w' ⟨rfl, p', h', e⟩
  exact ⟨rfl, PL.of' h' e⟩
theorem qMet_no (h : Hid (PL w0 w b s d l)) (c : Int) (hc : Hid (¬ hd l = c)) :
    Calls Tryz.prog 219 #[.pointer (some ⟨b, 0, none⟩), .int .i32 c] w fun x w' => x = .returned (.bool false) ∧ Hid (PL w0 w' b s d l) := by
  obtain ⟨p, h1, rfl⟩ := unhide h
  replace h := hide h1
  refine (pMet_no h c hc).mono ?_
  rintro x w' ⟨rfl, h'⟩
  exact ⟨rfl, PL.of h'⟩
theorem qRefuse (h : Hid (PL w0 w b s d l)) (e : Int) :
    Calls Tryz.prog 220 #[.pointer (some ⟨b, 0, none⟩), .int .i64 e] w fun x w' => x = Pan e (plc s.size l) ∧ Hid (Up b w0 w') := by
  obtain ⟨p, h1, rfl⟩ := unhide h
  replace h := hide h1
  rw [plc_syms (unhide h).le]
  exact pRefuse h e
theorem qTake_yes (h : Hid (PL w0 w b s d l)) (c : Int) (hc : Hid (hd l = c)) :
    Calls Tryz.prog 148 #[.pointer (some ⟨b, 0, none⟩), .int .i32 c] w fun x w' => x = .returned (.tuple #[]) ∧ Hid (PL w0 w' b s d l.tail) := by
  obtain ⟨p, h1, rfl⟩ := unhide h
  replace h := hide h1
  refine (pTake_yes h c hc).mono ?_
  rintro x w' ⟨rfl, p', h', e⟩
  exact ⟨rfl, PL.of' h' e⟩
theorem qTake_no (h : Hid (PL w0 w b s d l)) (c : Int) (hc : Hid (¬ hd l = c)) :
    Calls Tryz.prog 148 #[.pointer (some ⟨b, 0, none⟩), .int .i32 c] w fun x w' => x = Pan 2 (plc s.size l) ∧ Hid (Up b w0 w') := by
  obtain ⟨p, h1, rfl⟩ := unhide h
  replace h := hide h1
  rw [plc_syms (unhide h).le]
  exact pTake_no h c hc
theorem hd_ge' (l : List Sy) : -1 ≤ hd l := by cases l <;> simp [hd] <;> omega


theorem outV_err {a : Type} {R : Res a} {val : a → Value} {f : Nat} {args : Array Value} (H : Calls Tryz.prog f args w (OutV R val w0 b s d)) {y : Int × Int} (hR : Hid (R = .error y)) :
    Calls Tryz.prog f args w fun x w' => x = Pan y.1 y.2 ∧ Hid (Up b w0 w') := by
  rw [unhide hR] at H; exact H
theorem outV_ok {a : Type} {R : Res a} {val : a → Value} {f : Nat} {args : Array Value} (H : Calls Tryz.prog f args w (OutV R val w0 b s d)) {z : a} {l1 : List Sy} (hR : Hid (R = .ok (z, l1))) :
    Calls Tryz.prog f args w fun x w' => x = .returned (val z) ∧ Hid (PL w0 w' b s d l1) := by
  rw [unhide hR] at H; exact H
theorem outN_err {R : Res Pn} {f : Nat} {args : Array Value} (H : Calls Tryz.prog f args w (OutN R w0 b s d)) {y : Int × Int} (hR : Hid (R = .error y)) :
    Calls Tryz.prog f args w fun x w' => x = Pan y.1 y.2 ∧ Hid (Up b w0 w') := by
  rw [unhide hR] at H; exact H
theorem outN_ok {R : Res Pn} {f : Nat} {args : Array Value} (H : Calls Tryz.prog f args w (OutN R w0 b s d)) {z : Pn} {l1 : List Sy} (hR : Hid (R = .ok (z, l1))) :
    Calls Tryz.prog f args w fun x w' => ∃ n, x = .returned (vNd n) ∧ Hid (NodeOK w' (fun k => w0.heap.size ≤ k) n z) ∧ Hid (PL w0 w' b s d l1) := by
  rw [unhide hR] at H; exact H
theorem qNumber (h : Hid (PL w0 w b s d l)) (a : Int) : Calls Tryz.prog 335 #[.pointer (some ⟨b, 0, none⟩), .int .i64 a] w (OutV (numberS s.size a l) vInt w0 b s d) := by
  obtain ⟨p, h1, rfl⟩ := unhide h
  refine (pNumber (hide h1) a).mono fun x w' h => ?_
  cases hR : numberS s.size a (symsFrom s p) with
  | error y => rw [hR] at h; exact h
  | ok y => rw [hR] at h; obtain ⟨h1, p', h2, h3⟩ := h; exact ⟨h1, p', h2, h3⟩
end
end Go.Proofs.YtfolanohokflkaaGreatDoor
