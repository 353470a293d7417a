import Derived.Test.YtfolanohokflkaaGreatDoorNdN
import Derived.WalkKit
import Derived.WalkSpells
import Derived.WalkLawsBesides
import Derived.WalkMore
namespace Go.Proofs.YtfolanohokflkaaGreatDoor
open Go.RowKit
section
variable {w0 w : World} {b : Nat} {s : ByteArray} {d : Int} {l : List Sy}
theorem PL.c2 (h : Hid (PL w0 w b s d l)) : w.cell? ⟨b, 2, none⟩ = some (.int .i64 d) := by
  obtain ⟨p, h1, rfl⟩ := unhide h
  exact h1.c2
theorem PL.f2 (h : Hid (PL w0 w b s d l)) : w.frozen? ⟨b, 2, none⟩ = false := by
  obtain ⟨p, h1, rfl⟩ := unhide h
  exact h1.fz 2
theorem PL.setDepth (h : Hid (PL w0 w b s d l)) (d' : Int) : Hid (PL w0 (w.setCell ⟨b, 2, none⟩ (.int .i64 d')) b s d' l) := by
  obtain ⟨p, h1, rfl⟩ := unhide h
  exact PL.of (PS.setDepth h1 d')
/-- the body of a call with a node as its result: from the world behind the result's block. -/
theorem up_entry' {w' : World} {o : Obj} (h : Hid (PL w w b s d l)) (hu : Hid (Up b (w.alloc o) w')) : Hid (Up b w w') := up_entry h hu

set_option maxRecDepth 100000 in
set_option maxHeartbeats 4000000 in
theorem qGroup_deep (h : Hid (PL w w b s 8 l)) :
    Calls Tryz.prog 320 #[.pointer (some ⟨b, 0, none⟩)] w (OutN (bad 4 s.size l) w b s d) := by
  have HS0 := pl_entry h (obNd nd0)
  have q2 : (w.alloc (.cells #[.int .i64 0, .slice none 0 0, .string ⟨#[]⟩, .int .i64 0, .int .i64 0, .int .i64 0, .int .i64 0] 65)).cell? ⟨b, 2, none⟩ = some (.int .i64 8) := PL.c2 HS0
  have HUE : Hid (∀ w', Hid (Up b (w.alloc (obNd nd0)) w') → Hid (Up b w w')) := fun w' hu => up_entry h hu
  clear h
  go_enter Tryz.func320, Tryz.ntmps320
  go_wp2_with (first
    | (go_at_call 220; refine (qRefuse HS0 4).mono ?_; rintro x w2 ⟨rfl, HU⟩))
  exact ⟨rfl, rfl, unhide HUE _ HU⟩

/-- where the node of a group lies, it stays. -/
theorem grp_node {w2 w3 w5 : World} {o : Obj} {n m : Nd} {z : Pn} {u u' : Value} {wz : Nat}
    (HN : Hid (NodeOK w3 (fun k => (w2.setCell ⟨b, 2, none⟩ u).heap.size ≤ k) n z)) (hz : wz < w2.heap.size) (hb : b < w2.heap.size)
    (hu : Up b ((w3.setCell ⟨b, 2, none⟩ u').alloc o) w5) : Hid (NodeOK (setNd w5 wz m) (fun k => wz ≤ k) n z) := by
  have e2 : (w2.setCell ⟨b, 2, none⟩ u).heap.size = w2.heap.size := by simp [World.setCell]
  refine NodeOK.move HN fun k hk hl => ?_
  rw [e2] at hk
  refine ⟨?_, by omega⟩
  rw [setNd_other (by omega), hu.block k (by simp [World.setCell]; omega) (by omega), Below.heap_alloc _ o k (by simpa [World.setCell] using hl), Below.heap_setCell _ ⟨b, 2, none⟩ _ k (by show k ≠ b; omega)]
theorem box_up {w3 w5 : World} {n : Nd} {u : Value} (hb : b < w3.heap.size) (hu : Up b ((w3.setCell ⟨b, 2, none⟩ u).alloc (obNd n)) w5) : Hid (NdAt w5 w3.heap.size n) := by
  have e : (w3.setCell ⟨b, 2, none⟩ u).heap.size = w3.heap.size := by simp [World.setCell]
  have hn := NdAt.new (w3.setCell ⟨b, 2, none⟩ u) n
  rw [e] at hn
  exact NdAt.move hn (hu.block w3.heap.size (by simp [World.setCell]) (by omega))

set_option maxRecDepth 100000 in
set_option maxHeartbeats 8000000 in
theorem qGroup {sub : List Sy → Res Pn} (HA : Hid (PartC 147 sub b s (d + 1))) (hd0 : 0 ≤ d) (hd8 : d < 8) (h : Hid (PL w w b s d l)) (h40 : Hid (hd l = 40)) :
    Calls Tryz.prog 320 #[.pointer (some ⟨b, 0, none⟩)] w (OutN (grpP s.size (sub l.tail)) w b s d) := by
  have HS0 := pl_entry h (obNd nd0)
  have hbw := PL.lt h
  have q2 : (w.alloc (.cells #[.int .i64 0, .slice none 0 0, .string ⟨#[]⟩, .int .i64 0, .int .i64 0, .int .i64 0, .int .i64 0] 65)).cell? ⟨b, 2, none⟩ = some (.int .i64 d) := PL.c2 HS0
  have HUE : Hid (∀ w', Hid (Up b (w.alloc (obNd nd0)) w') → Hid (Up b w w')) := fun w' hu => up_entry h hu
  have HPE : Hid (∀ w' l' n, Hid (PL (w.alloc (obNd nd0)) w' b s d l') → Hid (PL w (setNd w' w.heap.size n) b s d l')) := fun w' l' n h' => pl_exit7 h h' n
  have HAT := hide (NdAt.new w nd0)
  have hsz1 : (w.alloc (obNd nd0)).heap.size = w.heap.size + 1 := by simp
  have k8 : (d == 8) = false := by simp; omega
  clear h
  cases hi : sub l.tail with
  | error y =>
    have HI := hide hi
    clear hi
    go_enter Tryz.func320, Tryz.ntmps320
    go_wp2_with (first
      | (go_at_call 148; refine (qTake_yes HS0 40 h40).mono ?_; clear HS0 q2; rintro x w2 ⟨rfl, HS⟩; have q2 := PL.c2 HS; have f2 := PL.f2 HS)
      | (go_at_call 147; refine (outN_err (unhide HA _ _ (PL.base (PL.setDepth HS (d + 1)))) HI).mono ?_; rintro x w3 ⟨rfl, HU⟩; have HU2 := hide ((PL.up (PL.setDepth HS (d + 1))).trans (unhide HU))))
    exact ⟨rfl, rfl, unhide HUE _ HU2⟩
  | ok y =>
    obtain ⟨z, l1⟩ := y
    have HI := hide hi
    clear hi
    rw [grpP]
    by_cases h41 : hd l1 = 41
    · rw [if_pos h41]
      have H41 := hide h41
      clear h41
      go_enter Tryz.func320, Tryz.ntmps320
      go_wp2_with (first
        | (go_at_call 148; refine (qTake_yes HS0 40 h40).mono ?_; clear HS0 q2; rintro x w2 ⟨rfl, HS⟩; have q2 := PL.c2 HS; have f2 := PL.f2 HS; have hs2 := (PL.up HS).size)
        | (go_at_call 147; refine (outN_ok (unhide HA _ _ (PL.base (PL.setDepth HS (d + 1)))) HI).mono ?_; simp only [vNd]; rintro x w3 ⟨n, rfl, HN, HS3⟩; have HT3 := PL.join (PL.up (PL.setDepth HS (d + 1))) HS3; have hb3 := PL.lt HT3; have HT4 := PL.alloc HT3 (obNd n); clear q2 f2; have q2 := PL.c2 HT4; have f2 := PL.f2 HT4; have hb2 := PL.lt HS; have HT4' := PL.alloc (PL.setDepth HT3 d) (obNd n); clear HS HS3 HT3 HT4)
        | (go_at_call 148; refine (qTake_yes (PL.base HT4') 41 H41).mono ?_; rintro x w5 ⟨rfl, HS5⟩; have HT5 := PL.join (PL.up HT4') HS5; have HB5 := box_up hb3 (PL.up HS5); have HR5 := NdAt.up HAT (PL.up HT5) (by omega); obtain ⟨g0, g1, g2, g3, g4, g5, g6⟩ := NdAt.cells (unhide HB5); obtain ⟨c0, c1, c2, c3, c4, c5, c6⟩ := NdAt.cells (unhide HR5); have cf := NdAt.fz (unhide HR5); clear q2 f2 HT4'))
      change bodyPost _ _ _ _ _ (setNd w5 w.heap.size n)
      refine node_ret (rb := w.heap.size) (n := n) 2 rfl rfl rfl (hide (NdAt.set (unhide HR5))) ?_
      exact ⟨n, rfl, grp_node HN (by omega) hb2 (PL.up HS5), unhide HPE _ _ _ HT5⟩
    · rw [if_neg h41]
      have H41 := hide h41
      clear h41
      go_enter Tryz.func320, Tryz.ntmps320
      go_wp2_with (first
        | (go_at_call 148; refine (qTake_yes HS0 40 h40).mono ?_; clear HS0 q2; rintro x w2 ⟨rfl, HS⟩; have q2 := PL.c2 HS; have f2 := PL.f2 HS; have hs2 := (PL.up HS).size)
        | (go_at_call 147; refine (outN_ok (unhide HA _ _ (PL.base (PL.setDepth HS (d + 1)))) HI).mono ?_; simp only [vNd]; rintro x w3 ⟨n, rfl, HN, HS3⟩; have HT3 := PL.join (PL.up (PL.setDepth HS (d + 1))) HS3; have hb3 := PL.lt HT3; have HT4 := PL.alloc HT3 (obNd n); clear q2 f2; have q2 := PL.c2 HT4; have f2 := PL.f2 HT4; have HT4' := PL.alloc (PL.setDepth HT3 d) (obNd n); clear HS HS3 HT3 HT4)
        | (go_at_call 148; refine (qTake_no HT4' 41 H41).mono ?_; rintro x w5 ⟨rfl, HU⟩))
      exact ⟨rfl, rfl, unhide HUE _ HU⟩
end
end Go.Proofs.YtfolanohokflkaaGreatDoor

namespace Go.Proofs.YtfolanohokflkaaGreatDoor
open Go.RowKit
theorem ndCells_get : ∀ (nds : List Nd) (k : Nat) (h : k < nds.length) (j : Nat), j < 7 → (ndCells nds)[k * 7 + j]? = (cNd nds[k])[j]?
  | [], _, h, _, _ => absurd h (by simp)
  | n :: r, 0, _, j, hj => by
    rw [ndCells, List.getElem?_append_left (by simp [cNd]; omega)]
    simp
  | n :: r, k + 1, h, j, hj => by
    rw [ndCells, List.getElem?_append_right (by simp [cNd]; omega)]
    have e : (k + 1) * 7 + j - (cNd n).length = k * 7 + j := by simp [cNd]; omega
    rw [e, ndCells_get r k (by simpa using h) j hj]
    simp
/-- the cells of a node in a slice. -/
def NdCell (w : World) (g off : Nat) (n : Nd) : Prop := w.cell? ⟨g, off, none⟩ = some (.int .i64 n.sh) ∧ w.cell? ⟨g, off + 1, none⟩ = some (.slice n.pa n.pn n.pc) ∧ w.cell? ⟨g, off + 2, none⟩ = some (.string n.ss) ∧ w.cell? ⟨g, off + 3, none⟩ = some (.int .i64 n.le) ∧ w.cell? ⟨g, off + 4, none⟩ = some (.int .i64 n.mo) ∧ w.cell? ⟨g, off + 5, none⟩ = some (.int .i64 n.fa) ∧ w.cell? ⟨g, off + 6, none⟩ = some (.int .i64 n.sz)
theorem nd_cells {w : World} {g : Nat} {nds : List Nd} (hc : ∀ j, j < nds.length * 7 → w.cell? ⟨g, j, none⟩ = (ndCells nds)[j]?) (k : Nat) (h : k < nds.length) : NdCell w g (k * 7) nds[k] := by
  have hk : ∀ j, j < 7 → w.cell? ⟨g, k * 7 + j, none⟩ = (cNd nds[k])[j]? := fun j hj => (hc (k * 7 + j) (by omega)).trans (ndCells_get nds k h j hj)
  exact ⟨hk 0 (by decide), hk 1 (by decide), hk 2 (by decide), hk 3 (by decide), hk 4 (by decide), hk 5 (by decide), hk 6 (by decide)⟩
theorem NdCell.below {w w' : World} {g off B : Nat} {n : Nd} (h : NdCell w g off n) (hb : Below B w w') (hg : g < B) : NdCell w' g off n := by
  obtain ⟨h0, h1, h2, h3, h4, h5, h6⟩ := h
  have e : ∀ j v, w.cell? ⟨g, j, none⟩ = some v → w'.cell? ⟨g, j, none⟩ = some v := fun j v q => by rw [hb.cell (p := ⟨g, j, none⟩) hg]; exact q
  exact ⟨e _ _ h0, e _ _ h1, e _ _ h2, e _ _ h3, e _ _ h4, e _ _ h5, e _ _ h6⟩
theorem sc_os (w : World) (a : Addr) (v : Value) : (w.setCell a v).os = w.os := rfl
theorem setNd_os (w : World) (rb : Nat) (n : Nd) : (setNd w rb n).os = w.os := by
  unfold setNd
  iterate 7 rw [sc_os]
theorem sc_tape (w : World) (a : Addr) (v : Value) : (w.setCell a v).tape = w.tape := rfl
theorem setNd_tape (w : World) (rb : Nat) (n : Nd) : (setNd w rb n).tape = w.tape := by
  unfold setNd
  iterate 7 rw [sc_tape]
theorem sc_output (w : World) (a : Addr) (v : Value) : (w.setCell a v).output = w.output := rfl
theorem setNd_output (w : World) (rb : Nat) (n : Nd) : (setNd w rb n).output = w.output := by
  unfold setNd
  iterate 7 rw [sc_output]
theorem below_setNd {B : Nat} {w w' : World} (h : Below B w w') {rb : Nat} (hr : B ≤ rb) {n : Nd} : Hid (Below B w (setNd w' rb n)) :=
  ⟨(setNd_os w' rb n).trans h.os, (setNd_tape w' rb n).trans h.tape, (setNd_output w' rb n).trans h.output, by rw [setNd_size]; exact h.size, fun k hk => (setNd_other (by omega)).trans (h.block k hk)⟩
/-- the size that joined has come to. -/
def accZ (ps : List Pn) (k : Nat) : Int := min (((ps.length : Int) - 1) + sumZ (ps.take k)) 61
theorem accZ_zero {ps : List Pn} (h1 : ps.length ≤ 62) : accZ ps 0 = (ps.length : Int) - 1 := by simp [accZ, sumZ]; omega
theorem accZ_all (ps : List Pn) : accZ ps ps.length = zOf ps := by rw [accZ, List.take_length]; rfl
theorem AllB.take {ps : List Pn} (h : AllB ps) (k : Nat) : AllB (ps.take k) := fun p hp => h p (List.mem_of_mem_take hp)
theorem accZ_step {ps : List Pn} (hB : AllB ps) (k : Nat) (hk : k < ps.length) : accZ ps (k + 1) = cap61 (accZ ps k + ps[k].2) := by
  have hs := sumZ_ge (hB.take k)
  have hp := hB ps[k] (List.getElem_mem hk)
  rw [cap_min, accZ, accZ, List.take_succ_eq_append_getElem hk, sumZ_snoc]
  omega
theorem accZ_b {ps : List Pn} (hB : AllB ps) (h0 : 0 < ps.length) (k : Nat) : 0 ≤ accZ ps k ∧ accZ ps k ≤ 61 := by
  have hs := sumZ_ge (hB.take k)
  unfold accZ; omega
set_option maxRecDepth 100000 in
set_option maxHeartbeats 8000000 in
theorem joined_any (w : World) (sh : Int) (ao : Option Addr) (cap : Nat) (nds : List Nd) (ps : List Pn) {B : Nat} (h0 : 0 < nds.length) (h62 : nds.length ≤ 62) (ho : w.ownsRow B 65 7 (.slice ao nds.length cap) nds.length (ndCells nds))
    (hl : nds.length = ps.length) (hz : ∀ (i : Nat) (h : i < nds.length) (h' : i < ps.length), nds[i].sz = ps[i].2) (hB : AllB ps) :
    Calls Tryz.prog 216 #[.int .i64 sh, .slice ao nds.length cap] w fun x w' => x = .returned (vNd ⟨sh, ao, nds.length, cap, ⟨#[]⟩, 0, 0, 0, zOf ps⟩) ∧ Hid (Below w.heap.size w w') := by
  obtain ⟨ao', cap', e, hv⟩ := own_view ho
  obtain ⟨g, rfl, -, hg, hc, -⟩ := hv h0
  cases e
  have HC := hide hc
  have HZ := hide hz
  have HBB := hide hB
  have hz0 := accZ_zero (ps := ps) (by omega)
  rw [← hl] at hz0
  have hsz : (w.alloc (obNd nd0)).heap.size = w.heap.size + 1 := by simp
  have HAT := hide (NdAt.new w nd0)
  have HG : Hid (∀ k, k < w.heap.size → (w.alloc (obNd nd0)).heap[k]? = w.heap[k]?) := fun k hk => Below.heap_alloc w _ k hk
  have HLL := hide hl
  clear hc hv ho hz hB hl
  have hlI : ((nds.length : Int)) ≤ 62 := by omega
  go_enter Tryz.func216, Tryz.ntmps216
  go_wp2_with fail
  go_loopw [5, 13] (fun sz i wr => ∃ k : Nat, k ≤ nds.length ∧ i = .int .i64 k ∧ sz = .int .i64 (accZ ps k) ∧ Hid (Below (w.heap.size + 1) (w.alloc (obNd nd0)) wr)) (fun _ i _ => nds.length - (intOf i).toNat)
  case atStart => exact ⟨0, Nat.zero_le _, rfl, by rw [hz0], Below.refl _ _⟩
  case round =>
    obtain ⟨k, hk, rfl, rfl, HBW⟩ := hrel
    have hwr := (unhide HBW).size
    rw [hsz] at hwr
    have hl := unhide HLL
    obtain ⟨ha0, ha61⟩ := accZ_b (unhide HBB) (by omega) k
    by_cases hlt : k < nds.length
    · have hst := accZ_step (unhide HBB) k (by omega)
      have hpz := unhide HZ k hlt (by omega)
      have hpb := unhide HBB ps[k] (List.getElem_mem (by omega))
      rw [← hpz] at hst hpb
      have hcw : NdCell w g (k * 7) nds[k] := nd_cells (unhide HC) k hlt
      have hcw1 : NdCell (w.alloc (obNd nd0)) g (k * 7) nds[k] := hcw.below ((Below.refl _ w).alloc (Nat.le_refl _) _) hg
      obtain ⟨c0, c1, c2, c3, c4, c5, c6⟩ := hcw1.below (unhide HBW) (by omega)
      have HBW2 := hide ((unhide HBW).alloc hwr (obNd nds[k]))
      have HST := hide hst
      clear hst hcw hcw1 hpz hl
      generalize nds[k] = n at c0 c1 c2 c3 c4 c5 c6 HST hpb HBW2
      generalize accZ ps k = z at *
      obtain ⟨hn0, hn61⟩ := hpb
      go_wp2_with (go_at_call 249; refine (pCapped _ _).mono ?_; rintro x w6 ⟨rfl, rfl⟩)
      go_roundw
      case rel => exact ⟨k + 1, by omega, by go_num, by rw [unhide HST], HBW2⟩
      case measure => simp [intOf]; omega
    · have hkl : k = nds.length := by omega
      subst hkl
      have hall := accZ_all ps
      rw [← hl] at hall
      have HR := hide (NdAt.move (unhide HAT) ((unhide HBW).block w.heap.size (by omega)))
      obtain ⟨c0, c1, c2, c3, c4, c5, c6⟩ := NdAt.cells (unhide HR)
      have cf := NdAt.fz (unhide HR)
      rw [hall]
      clear hall ha0 ha61 hl
      go_wp2_with fail
      change bodyPost _ _ _ _ _ (setNd wr w.heap.size ⟨sh, some ⟨g, 0, none⟩, nds.length, cap, ⟨#[]⟩, 0, 0, 0, zOf ps⟩)
      refine node_ret (rb := w.heap.size) (n := ⟨sh, some ⟨g, 0, none⟩, nds.length, cap, ⟨#[]⟩, 0, 0, 0, zOf ps⟩) 4 rfl rfl rfl (hide (NdAt.set (unhide HR))) ?_
      exact ⟨rfl, below_setNd (((Below.refl _ w).alloc (Nat.le_refl _) (obNd nd0)).trans ((unhide HBW).mono (Nat.le_succ _))) (Nat.le_refl _)⟩
end Go.Proofs.YtfolanohokflkaaGreatDoor
