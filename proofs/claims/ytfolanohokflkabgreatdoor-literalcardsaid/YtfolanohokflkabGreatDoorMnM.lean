import Derived.Test.YtfolanohokflkabGreatDoorMtC
import Derived.Deep.RegionHeld
/-
  What Minimal does under attempt, where the pattern is a literal.
-/
namespace Go.Proofs.YtfolanohokflkabGreatDoor
open Go.RowKit
attribute [local go_sem ↓] Go.wp_at_zero Go.wp_at_succ
/-- the answer of Minimal: so many lines. -/
def MinS (u : List Nat) (s : List UInt8) : Prop := s.count 59 = u.length + 2 ∧ s.length ≤ 100000
theorem sm_lit {w : World} {t : TB} {T : List Te} {n : Nat} {u : List Nat} {B : Int} {b0 : Nat} {w0 : World} (hR : LitR2 u n T) (hT : Hid (Tab w t T (numPairs T) [] [])) (hu : u.length ≤ 20) (hB : (u.length : Int) + 2 ≤ B) (hd : Hid (DbOk w)) (hf : ∀ k, TF t k → b0 ≤ k) (hg : 3 < b0) (hs : b0 ≤ w.heap.size) (hb : Hid (Below b0 w0 w)) :
    Calls Tryz.prog 26 #[.pointer (some ⟨t.tb, 0, none⟩), .int .i64 n, .int .i64 B] w fun e w' => ∃ s, e = .returned (.string (tx s)) ∧ Hid (MinS u s) ∧ Hid (Below b0 w0 w') := by
  obtain ⟨h1, h2, h3⟩ := hR
  obtain ⟨E, v, e, A⟩ := lit_ls h1 h3 hu
  have hTS : Hid (TS w t T) := ⟨[], [], unhide hT, ⟨List.nodup_nil, fun p hp => by cases hp⟩, ⟨List.nodup_nil, fun p hp => by cases hp⟩⟩
  have hc := smallest_any (B := B) hTS (h1.tok (Nat.le_trans h2 (by decide))) A hB hd (fun e => by have := hf _ e; omega)
  rw [e] at hc
  refine hc.mono ?_
  rintro e w' ⟨t', s, rfl, c1, c2, _, f⟩
  refine ⟨s, rfl, ⟨c1, c2⟩, ?_⟩
  have f := unhide f
  have b := unhide hb
  exact ⟨f.os.trans b.os, f.tape.trans b.tape, f.output.trans b.output, Nat.le_trans b.size f.size, fun k hk => (f.block k (by omega) (fun e => by have := hf k e; omega)).trans (b.block k hk)⟩
set_option maxRecDepth 100000 in
set_option maxHeartbeats 4000000 in
theorem work_min {w : World} {u : List Nat} {k0 k1 k2 : Nat} {m : Nd} {B : Int} (hu : u.length ≤ 20) (hB : (u.length : Int) + 2 ≤ B) (h0 : Hid (NdAt w k0 m)) (h1 : w.cell? ⟨k1, 0, none⟩ = some (.int .i64 B)) (h2 : w.cell? ⟨k2, 0, none⟩ = some (.string ⟨#[]⟩)) (h2z : w.frozen? ⟨k2, 0, none⟩ = false) (hk02 : k2 ≠ k0) (hk12 : k2 ≠ k1) (hd : Hid (DbOk w))
    (HO : Hid (∀ (X : World) (t : TB), Hid (Below w.heap.size w X) → Hid (Tab X t tab0 (numPairs tab0) [] []) → Calls Tryz.prog 27 #[.pointer (some ⟨t.tb, 0, none⟩), vNd m] X fun e w' => ∃ (n : Nat) (t' : TB) (T : List Te), e = .returned (.int .i64 n) ∧ Hid (LitR2 u n T) ∧ Hid (Tab w' t' T (numPairs T) [] []) ∧ Hid (TFr t t' X w'))) :
    Calls Tryz.prog 24 #[.pointer (some ⟨k0, 0, none⟩), .pointer (some ⟨k1, 0, none⟩), .pointer (some ⟨k2, 0, none⟩)] w fun e w' => e = .returned (.tuple #[]) ∧ ∃ W s, Hid (MinS u s) ∧ Hid (Below w.heap.size w W) ∧ w' = W.setCell ⟨k2, 0, none⟩ (.string (tx s)) := by
  have hl0 : k0 < w.heap.size := (Array.getElem?_eq_some_iff.1 (unhide h0)).1
  have hl1 := World.block_lt_of_cell? w _ h1
  have hl2 := World.block_lt_of_cell? w _ h2
  have HD := hd
  have H0 := h0
  have H1 := hide h1
  have H2 := hide h2
  have H2Z := hide h2z
  have HL1 : Hid (k1 < w.heap.size) := hl1
  have HL2 : Hid (k2 < w.heap.size) := hl2
  have HL0 : Hid (k0 < w.heap.size) := hl0
  clear h0 h1 h2 h2z hd hl0 hl1 hl2
  simp only [vNd] at HO
  go_enter Tryz.func24, Tryz.ntmps24
  go_wp2_with (go_at_call 25; refine (newTable_any _).mono ?_; rintro x w1 ⟨t1, rfl, HT1, HB1, hF1⟩)
  have HF1 := hide hF1
  clear hF1
  have HBD : Hid (Below w.heap.size w w1.drew) := by
    have hb := unhide HB1
    exact ⟨hb.os, hb.tape, hb.output, hb.size, hb.block⟩
  have HTD : Hid (Tab w1.drew t1 tab0 (numPairs tab0) [] []) := (unhide HT1).drew 1
  have HO1 := hide (unhide HO w1.drew t1 HBD HTD)
  clear HO HT1 HB1
  obtain ⟨c0, c1, c2, c3, c4, c5, c6⟩ := NdAt.cells (unhide (NdAt.under (W' := w1.drew) (W := w) HBD H0))
  have d0 : w1.drew.cell? ⟨k1, 0, none⟩ = some (.int .i64 B) := cell_under HBD (unhide HL1) (unhide H1)
  have HN3 : Hid (∀ (w3 : World) (t3 : TB), TFr t1 t3 w1.drew w3 → Below w.heap.size w w3 ∧ (∀ k, TF t3 k → w.heap.size ≤ k) ∧ DbOk w3) := fun w3 t3 f => by
    have hb := unhide HBD
    have hf := unhide HF1
    have hb3 : Below w.heap.size w w3 := ⟨f.os.trans hb.os, f.tape.trans hb.tape, f.output.trans hb.output, Nat.le_trans hb.size f.size, fun k hk => (f.block k (Nat.lt_of_lt_of_le hk hb.size) (fun e => by have := hf k e; omega)).trans (hb.block k hk)⟩
    refine ⟨hb3, fun k hk => ?_, (unhide HD).below hb3⟩
    rcases f.foot hk with e | e
    · exact hf k e
    · exact Nat.le_trans hb.size e
  go_region_held (fun w' => w'.cell? ⟨k0, 0, none⟩ = some (.int .i64 m.sh) ∧ w'.cell? ⟨k0, 1, none⟩ = some (.slice m.pa m.pn m.pc) ∧ w'.cell? ⟨k0, 2, none⟩ = some (.string m.ss) ∧ w'.cell? ⟨k0, 3, none⟩ = some (.int .i64 m.le) ∧ w'.cell? ⟨k0, 4, none⟩ = some (.int .i64 m.mo) ∧ w'.cell? ⟨k0, 5, none⟩ = some (.int .i64 m.fa) ∧ w'.cell? ⟨k0, 6, none⟩ = some (.int .i64 m.sz) ∧ w'.cell? ⟨k1, 0, none⟩ = some (.int .i64 B)) (go_keep)
    (first
      | (go_at_call 27; refine (unhide HO1).mono ?_; clear HO1; rintro x w3 ⟨n, t3, T, rfl, HR3, HT3, HF3⟩; obtain ⟨hb3, hf3, hd3⟩ := unhide HN3 w3 t3 (unhide HF3); have HB3 := hide hb3; obtain ⟨e0, e1, e2, e3, e4, e5, e6⟩ := NdAt.cells (unhide (NdAt.under HB3 H0)); have g0 : w3.cell? ⟨k1, 0, none⟩ = some (.int .i64 B) := cell_under HB3 (unhide HL1) (unhide H1); have HSM := hide (sm_lit (B := B) (b0 := w.heap.size) (w0 := w) (unhide HR3) HT3 hu hB (hide hd3) hf3 (unhide HD).lt hb3.size HB3); rw [(unhide HF3).tb] at HSM; clear hb3 hf3 hd3)
      | (go_at_call 26; refine (unhide HSM).mono ?_; clear HSM; rintro x w4 ⟨s, rfl, HMS, HB4⟩; obtain ⟨f0, f1, f2, f3, f4, f5, f6⟩ := NdAt.cells (unhide (NdAt.under HB4 H0)); have l0 : w4.cell? ⟨k1, 0, none⟩ = some (.int .i64 B) := cell_under HB4 (unhide HL1) (unhide H1); have l2 : w4.cell? ⟨k2, 0, none⟩ = some (.string ⟨#[]⟩) := cell_under HB4 (unhide HL2) (unhide H2); have l3 : w4.frozen? ⟨k2, 0, none⟩ = false := (by rw [World.frozen?_of_block (a := ⟨k2, 0, none⟩) ((unhide HB4).block _ (unhide HL2))]; exact unhide H2Z)))
  go_end0
  exact ⟨rfl, w4, s, HMS, HB4, rfl⟩
end Go.Proofs.YtfolanohokflkabGreatDoor
