import Derived.Test.YtfolanohokflkabGreatDoorBecB
import Derived.WalkKit
import Derived.WalkSpells
import Derived.WalkLawsBesides
import Derived.WalkMore
import Derived.Deep.QuietTactic
import Derived.BigQuiet
import Derived.Deep.RegionHeld3
import Derived.Test.YtfolanohokflkabGreatDoorMeetA
import Derived.Test.YtfolanohokflkabGreatDoorNdL
namespace Go.Proofs.YtfolanohokflkabGreatDoor
open Go.RowKit
section
variable {w : World} {t : TB} {T : List Te} {N S C : List (Value × Value)} {k : Ky}
theorem becOf_set {n : Nat} {b : Bool} {c : Int} (h : Hid (Tab w t T (numPairs T) S C)) (hc : Hid (CV w t T C)) (hv : Hid (SV T S)) (hx : T[n]? = some (k, b)) (hn : n ≤ LIM) (hsy : isSym c = true) (hk : k.kd = 0) {l : Spans} (hs : IsSet k.st l) :
    Calls Tryz.prog 58 #[.pointer (some ⟨t.tb, 0, none⟩), .int .i64 n, .int .i32 c] w (BOut T n c w t S (fun i => i ≤ n)) :=
  becomes_try h hc hv hx hn (l0 := l) ⟨_, hx, .inl ⟨hk, hs⟩⟩ hsy (m := 0) hk (by decide) rfl (callFunc_enter Tryz.func116 (by kernel_rfl) (by kernel_rfl)) (hide fun _ _ _ _ _ _ _ h hc hv => bec_set h hc hv hx hk hs _)
theorem becOf_empty {n : Nat} {b : Bool} {c : Int} (h : Hid (Tab w t T (numPairs T) S C)) (hc : Hid (CV w t T C)) (hv : Hid (SV T S)) (hx : T[n]? = some (k, b)) (hn : n ≤ LIM) (hsy : isSym c = true) (hk : k.kd = 1) :
    Calls Tryz.prog 58 #[.pointer (some ⟨t.tb, 0, none⟩), .int .i64 n, .int .i32 c] w (BOut T n c w t S (fun i => i ≤ n)) :=
  becomes_try h hc hv hx hn (l0 := []) ⟨_, hx, .inr (.inl ⟨hk, rfl⟩)⟩ hsy (m := 1) hk (by decide) rfl (callFunc_enter Tryz.func121 (by kernel_rfl) (by kernel_rfl)) (hide fun _ _ _ _ _ _ _ h hc hv => bec_empty h hc hv hx hk _)
theorem chain_01 {r j : Nat} (hr : r = 0 ∨ r = 1) : chainP 2 T r j = (T, if r = 1 then j else 0) := by
  unfold chainP
  rcases hr with rfl | rfl
  · simp
  · by_cases hj : j = 0
    · simp [hj]
    · simp [hj]
set_option maxRecDepth 100000 in
set_option maxHeartbeats 4000000 in
theorem bec_chain {n i j : Nat} {b : Bool} {c : Int} {y : Te} (h : Hid (Tab w t T (numPairs T) S C)) (hc : Hid (CV w t T C)) (hv : Hid (SV T S)) (hw : Wf1 T) (hT : 2 < T.length) (hTL : T.length ≤ LIM) (hx : T[n]? = some (k, b)) (hsy : isSym c = true) (hk : k.kd = 2) (hfi : k.fi = (i : Int)) (hse : k.se = (j : Int)) (hy : T[i]? = some y) (hin : i < n) (hj : j < T.length) (hye : y.2 = false) (hyk : y.1.kd = 0) {l : Spans} (hs : IsSet y.1.st l) :
    Calls Tryz.prog 124 #[.pointer (some ⟨t.tb, 0, none⟩), vKy k, .int .i32 c] w (BOut T n c w t S (fun i => i < n)) := by
  obtain ⟨kd, st, fi, se⟩ := k
  dsimp only at hk hfi hse
  subst hk
  subst hfi
  subst hse
  unfold vKy
  dsimp only
  have hlt : i < T.length := (List.getElem?_eq_some_iff.1 hy).1
  have HA := Tab.alloc h (.cells #[.int .i64 2, .string st, .int .i64 i, .int .i64 j] 99)
  have HFr : Hid (TFr t t w (w.alloc (.cells #[.int .i64 2, .string st, .int .i64 i, .int .i64 j] 99))) := TFr.below ((Below.refl _ _).alloc (Nat.le_refl _) _)
  have HCA := CV.move (w' := w.alloc (.cells #[.int .i64 2, .string st, .int .i64 i, .int .i64 j] 99)) hc (fun k hk _ => Below.heap_alloc w _ k hk)
  have HBO := hide (fun q => becOf_set (w := (w.alloc (.cells #[.int .i64 2, .string st, .int .i64 i, .int .i64 j] 99)).drewN q) (hide ((unhide HA).drew q)) (CV.move HCA (fun _ _ _ => rfl)) hv (k := y.1) (b := y.2) hy (by omega) hsy hyk hs)
  have HR1 : Hid (∀ r, BecR T i c r → (r = if inS l c = true then 1 else 0)) := by
    intro r ⟨z, hz, hh⟩
    rw [hy] at hz
    cases hz
    rcases hh with ⟨_, l2, s2, e⟩ | ⟨h1, _⟩ | ⟨h1, _⟩
    · rw [IsSet.uniq hs s2]; exact e
    · omega
    · omega
  have HBR : Hid (∀ r, (r = if inS l c = true then j else 0) → BecR T n c r) := fun r hr => ⟨_, hx, .inr (.inr ⟨rfl, i, j, y, rfl, rfl, hy, hin, hj, hye, hyk, l, hs, hr⟩)⟩
  have HCH := hide (fun (w1 : World) (t1 : TB) (S1 C1 : List (Value × Value)) (r : Nat) (hr : r = 0 ∨ r = 1) (h1 : Hid (Tab w1 t1 T (numPairs T) S1 C1)) => chain_any (S := S1) (C := C1) 2 w1 t1 T r j (by omega) h1 hw (by omega) (by omega) hj (by rw [chain_01 hr]; exact hTL))
  have HKB := hide (heap_alloc_new w (.cells #[.int .i64 2, .string st, .int .i64 i, .int .i64 j] 99))
  have hnot : ¬ TF t w.heap.size := Tab.new_not h (Nat.le_refl _)
  have hltk : w.heap.size < (w.alloc (.cells #[.int .i64 2, .string st, .int .i64 i, .int .i64 j] 99)).heap.size := by simp
  have HY := hide hy
  have hI : (i : Int) < (T.length : Int) := by omega
  have hI0 : (0 : Int) ≤ (i : Int) := by omega
  clear h hc hv hx hy hs HA HCA
  go_enter Tryz.func124, Tryz.ntmps124
  go_wp2_with fail
  generalize w.alloc (.cells #[.int .i64 2, .string st, .int .i64 i, .int .i64 j] 99) = Wk at *
  obtain ⟨k0, k1, k2, k3⟩ := ky_cells (unhide HKB)
  generalize hkb : w.heap.size = kb at *
  go_region_held3 (fun w' => w'.cell? ⟨kb, 2, none⟩ = some (.int .i64 i) ∧ w'.cell? ⟨kb, 3, none⟩ = some (.int .i64 j)) (go_keep)
    (first
      | (go_at_call 58; refine (unhide HBO 1).mono ?_; clear HBO; rintro x w1 ⟨r1, t1, S1, C1, rfl, hb1, HT1, HC1, HV1, HF1, hk1⟩; have HKB1 := hide (TFr.own HF1 hltk hnot (unhide HKB)); obtain ⟨r0, r1', r2, r3⟩ := ky_cells (unhide HKB1); have hr1 := unhide HR1 r1 hb1; have hr01 : r1 = 0 ∨ r1 = 1 := (by rw [hr1]; split <;> simp); have HC2 := hide (unhide HCH w1 t1 S1 C1 r1 hr01 HT1); rw [chain_01 hr01, (unhide HF1).tb] at HC2; obtain ⟨rr, hrr⟩ : ∃ rr, (if r1 = 1 then j else 0) = rr := ⟨_, rfl⟩; rw [hrr] at HC2; have HRR := hide hrr; clear hrr; have HRX := hide hr1; clear hr1 hr01; have hnot1 : ¬ TF t1 kb := (fun hf => ((unhide HF1).foot hf).elim hnot (fun hle => absurd hltk (by have : Wk.heap.size ≤ kb := hle; omega))); have hlt1 : kb < w1.heap.size := Nat.lt_of_lt_of_le hltk (unhide HF1).size)
      | (go_at_call 91; refine (unhide HC2).mono ?_; clear HC2; rintro x w2 ⟨rfl, t2, HT2, HF2⟩; have HKB2 := hide (TFr.own HF2 hlt1 hnot1 (unhide HKB1)); obtain ⟨s0, s1, s2, s3⟩ := ky_cells (unhide HKB2)))
  have htb2 : t2.tb = t.tb := (unhide HF2).tb.trans (unhide HF1).tb
  obtain ⟨g, q2, -, -, -, -, a4⟩ := (unhide HT2).at (unhide HY)
  rw [htb2] at q2
  rw [hye] at a4
  have HCV := CV.fr HC1 HF2
  have hf1 := unhide HF1
  have HFF : Hid (TFr t t2 w w2) := ((unhide HFr).trans ⟨hf1.os, hf1.tape, hf1.output, hf1.size, hf1.block, hf1.tb, hf1.nb, hf1.sb, hf1.cb, hf1.row⟩).trans (unhide HF2)
  have HBX : Hid (BecR T n c rr) := unhide HBR rr (by
    have h1 := unhide HRX
    have h2 := unhide HRR
    rw [h1] at h2
    rw [← h2]
    split <;> simp)
  have HKK : Hid (∀ p ∈ S1, p ∈ S ∨ ∃ (i : Nat) (d : Int), i < n ∧ p.1 = vSt i d) := fun p hp => by
    rcases hk1 p hp with h1 | ⟨i', d, hi, h1⟩
    · exact .inl h1
    · exact .inr ⟨i', d, by omega, h1⟩
  clear HC1 HF1 HF2 HFr HRX HRR HBR HR1 HCH hk1 hf1 hb1 HKB HKB1 HKB2 k0 k1 k2 k3 r0 r1' r2 r3
  go_wp2_with fail
  go_quiet (fail)
  go_wp2_with fail
  go_ret
  have hff := unhide HFF
  exact ⟨rr, t2, S1, C1, rfl, unhide HBX, hide ((unhide HT2).drew nq), CV.move HCV (fun _ _ _ => rfl), HV1, ⟨hff.os, hff.tape, hff.output, hff.size, hff.block, hff.tb, hff.nb, hff.sb, hff.cb, hff.row⟩, unhide HKK⟩
theorem becOf_chain {n i j : Nat} {b : Bool} {c : Int} {y : Te} (h : Hid (Tab w t T (numPairs T) S C)) (hc : Hid (CV w t T C)) (hv : Hid (SV T S)) (hw : Wf1 T) (hT : 2 < T.length) (hTL : T.length ≤ LIM) (hx : T[n]? = some (k, b)) (hsy : isSym c = true) (hk : k.kd = 2) (hfi : k.fi = (i : Int)) (hse : k.se = (j : Int)) (hy : T[i]? = some y) (hin : i < n) (hj : j < T.length) (hye : y.2 = false) (hyk : y.1.kd = 0) {l : Spans} (hs : IsSet y.1.st l) :
    Calls Tryz.prog 58 #[.pointer (some ⟨t.tb, 0, none⟩), .int .i64 n, .int .i32 c] w (BOut T n c w t S (fun i => i ≤ n)) :=
  becomes_try h hc hv hx (by have := (List.getElem?_eq_some_iff.1 hx).1; omega) (l0 := l) ⟨_, hx, .inr (.inr ⟨hk, i, y, hfi, hy, hin, hye, hyk, hs⟩)⟩ hsy (m := 2) hk (by decide) rfl (callFunc_enter Tryz.func124 (by kernel_rfl) (by kernel_rfl)) (hide fun _ _ _ _ _ _ hsd h hc hv => bec_chain h hc hv hw hT hTL hx hsd hk hfi hse hy hin hj hye hyk hs)
end
end Go.Proofs.YtfolanohokflkabGreatDoor

/-
  newMeeting: nothing has been met.
-/
namespace Go.Proofs.YtfolanohokflkabGreatDoor
open Go.RowKit
set_option maxRecDepth 100000 in
set_option maxHeartbeats 4000000 in
theorem newMeeting_any (w : World) (B : Int) : Calls Tryz.prog 56 #[.int .i64 B] w fun e w' => ∃ mb, e = .returned (.agg #[.int .i64 B, .map (some mb)]) ∧ Hid (Met w' mb []) ∧ w.heap.size ≤ mb ∧ Hid (Below w.heap.size w w') := by
  have hm1 : ∀ w : World, (Instr.makeMap 110 none).run Tryz.prog w = .ok (.map (some w.heap.size)) (w.alloc (mkMap [])) := fun w => rfl
  go_enter Tryz.func56, Tryz.ntmps56
  go_wp2_with fail
  have hsz : (w.alloc (.cells #[.int .i64 B, .map (some (w.heap.size + 1))] 112)).heap.size = w.heap.size + 1 := by simp
  have k0 : ((w.alloc (.cells #[.int .i64 B, .map (some (w.heap.size + 1))] 112)).alloc (mkMap [])).cell? ⟨w.heap.size, 0, none⟩ = some (.int .i64 B) := by
    rw [World.cell?_of_block (a := ⟨w.heap.size, 0, none⟩) (Below.heap_alloc _ _ w.heap.size (by rw [hsz]; omega))]
    exact cells_at rfl 0 rfl
  have k1 : ((w.alloc (.cells #[.int .i64 B, .map (some (w.heap.size + 1))] 112)).alloc (mkMap [])).cell? ⟨w.heap.size, 1, none⟩ = some (.map (some (w.heap.size + 1))) := by
    rw [World.cell?_of_block (a := ⟨w.heap.size, 1, none⟩) (Below.heap_alloc _ _ w.heap.size (by rw [hsz]; omega))]
    exact cells_at rfl 1 rfl
  refine bodyPost_ret (v := .agg #[.int .i64 B, .map (some (w.heap.size + 1))]) ?_ rfl ⟨w.heap.size + 1, rfl, hide ⟨?_, (fun n hn => by cases hn), List.nodup_nil⟩, by omega, ?_⟩
  · simp [results, Tryz.results56, go_sem, k0, k1]
  · have h := heap_alloc_new (w.alloc (.cells #[.int .i64 B, .map (some (w.heap.size + 1))] 112)) (mkMap [])
    rw [hsz] at h
    exact h
  · exact ((Below.refl w.heap.size w).alloc (Nat.le_refl _) _).alloc (by rw [hsz]; omega) _
end Go.Proofs.YtfolanohokflkabGreatDoor

/-
  The search through a text: whether all of it is a word.
-/
namespace Go.Proofs.YtfolanohokflkabGreatDoor
open Go.RowKit
theorem RowAt.block {w : World} {t : TB} {g cap : Nat} {lows : List Int} (h : RowAt w t g cap lows) : ∃ cur, w.heap[g]? = some (.cells cur 21 (0, 0)) := by
  obtain ⟨hl, hx | ⟨g', cap', cur, hv, hb', hg, rest⟩⟩ := h.own
  · exact absurd hx.1 (by simp)
  · have e' : g' = g := by injection hv with e; injection e with e; injection e with e; exact e.symm
    subst e'
    exact ⟨cur, hg⟩
theorem CV.besides {w w' : World} {t : TB} {T : List Te} {C : List (Value × Value)} {mb : Nat} {l0 : List (Value × Value)} (h : CV w t T C) (hm : w.heap[mb]? = some (mkMap l0)) (hb : ∀ k, k < w.heap.size → k ≠ mb → w'.heap[k]? = w.heap[k]?) : CV w' t T C := by
  refine ⟨h.1, fun p hp => ?_⟩
  obtain ⟨n, g, cap, l, e, h1, h2, h3⟩ := h.2 p hp
  obtain ⟨cur, hg⟩ := h3.block
  refine ⟨n, g, cap, l, e, h1, h2, h3.move (hb g h3.lt (fun e => ?_))⟩
  subst e
  rw [hg] at hm
  cases hm
/-- a search on its way: the table, what has been met, the blocks that stay. -/
structure Sr (w0 w : World) (b0 mb tb : Nat) (t : TB) (T : List Te) (S C : List (Value × Value)) (M : List Nat) (KP : Nat → Prop) : Prop where
  tab : Tab w t T (numPairs T) S C
  cv : CV w t T C
  sv : SV T S
  met : Met w mb M
  etb : t.tb = tb
  apart : ¬ TF t mb
  kap : ∀ k, KP k → k < w.heap.size ∧ ¬ TF t k ∧ k ≠ mb
  keep : ∀ k, KP k → w.heap[k]? = w0.heap[k]?
  foot : ∀ k, TF t k → b0 ≤ k
  mb0 : b0 ≤ mb
  sz : b0 ≤ w.heap.size
  below : Below b0 w0 w
section
variable {w0 w w' : World} {b0 mb tb : Nat} {t t' : TB} {T : List Te} {S C S' C' : List (Value × Value)} {M M' : List Nat} {KP : Nat → Prop}
theorem Sr.mlt (h : Sr w0 w b0 mb tb t T S C M KP) : mb < w.heap.size := (Array.getElem?_eq_some_iff.1 h.met.at_).1
theorem Sr.bec (h : Hid (Sr w0 w b0 mb tb t T S C M KP)) (h1 : Hid (Tab w' t' T (numPairs T) S' C')) (h2 : Hid (CV w' t' T C')) (h3 : Hid (SV T S')) (h4 : Hid (TFr t t' w w')) : Hid (Sr w0 w' b0 mb tb t' T S' C' M KP) := by
  have g := unhide h
  have f := unhide h4
  have hm := g.mlt
  have hft : ∀ k, k < w.heap.size → ¬ TF t k → ¬ TF t' k := fun k hk hn hf => by
    rcases f.foot hf with e | e
    · exact hn e
    · omega
  refine ⟨unhide h1, unhide h2, unhide h3, g.met.move (f.block mb hm g.apart), f.tb.trans g.etb, hft mb hm g.apart, fun k hk => ?_, fun k hk => ?_, fun k hk => ?_, g.mb0, Nat.le_trans g.sz f.size, ?_⟩
  · obtain ⟨a1, a2, a3⟩ := g.kap k hk
    exact ⟨Nat.lt_of_lt_of_le a1 f.size, hft k a1 a2, a3⟩
  · obtain ⟨a1, a2, a3⟩ := g.kap k hk
    exact (f.block k a1 a2).trans (g.keep k hk)
  · rcases f.foot hk with e | e
    · exact g.foot k e
    · exact Nat.le_trans g.sz e
  · exact ⟨f.os.trans g.below.os, f.tape.trans g.below.tape, f.output.trans g.below.output, Nat.le_trans g.below.size f.size, fun k hk => (f.block k (Nat.lt_of_lt_of_le hk g.sz) (fun hf => by have := g.foot k hf; omega)).trans (g.below.block k hk)⟩
theorem Sr.meet (h : Hid (Sr w0 w b0 mb tb t T S C M KP)) (h1 : Hid (Met w' mb M')) (hs : w.heap.size ≤ w'.heap.size) (ho : w'.os = w.os) (ht : w'.tape = w.tape) (hu : w'.output = w.output) (hb : ∀ k, k < w.heap.size → k ≠ mb → w'.heap[k]? = w.heap[k]?) : Hid (Sr w0 w' b0 mb tb t T S C M' KP) := by
  have g := unhide h
  have hm := g.mlt
  refine ⟨g.tab.move (fun k hk hl => hb k hl (fun e => g.apart (e ▸ hk))), g.cv.besides g.met.at_ hb, g.sv, unhide h1, g.etb, g.apart, fun k hk => ?_, fun k hk => ?_, g.foot, g.mb0, Nat.le_trans g.sz hs, ?_⟩
  · obtain ⟨a1, a2, a3⟩ := g.kap k hk
    exact ⟨Nat.lt_of_lt_of_le a1 hs, a2, a3⟩
  · obtain ⟨a1, a2, a3⟩ := g.kap k hk
    exact (hb k a1 a3).trans (g.keep k hk)
  · exact ⟨ho.trans g.below.os, ht.trans g.below.tape, hu.trans g.below.output, Nat.le_trans g.below.size hs, fun k hk => (hb k (Nat.lt_of_lt_of_le hk g.sz) (fun e => by have := g.mb0; omega)).trans (g.below.block k hk)⟩
theorem Sr.cell (h : Sr w0 w b0 mb tb t T S C M KP) {k j : Nat} {x : Value} (hk : KP k) (hx : w0.cell? ⟨k, j, none⟩ = some x) : w.cell? ⟨k, j, none⟩ = some x := by
  rw [World.cell?_of_block (a := ⟨k, j, none⟩) (h.keep k hk)]
  exact hx
end
/-- a number and what has been met, behind a symbol. -/
def trP (stp : Nat → Int → Nat) (p : Nat × List Nat) (c : Int) : Nat × List Nat := (stp p.1 c, addM p.2 (stp p.1 c))
theorem addM_le (M : List Nat) (n : Nat) : M.length ≤ (addM M n).length := by
  unfold addM
  split
  · exact Nat.le_refl _
  · simp
theorem trP_le (stp : Nat → Int → Nat) : ∀ (l : List Int) (p : Nat × List Nat), p.2.length ≤ (l.foldl (trP stp) p).2.length
  | [], _ => Nat.le_refl _
  | c :: l, p => Nat.le_trans (addM_le _ _) (trP_le stp l (trP stp p c))
theorem trP_take (stp : Nat → Int → Nat) (L : List Int) (k : Nat) (p : Nat × List Nat) : ((L.take k).foldl (trP stp) p).2.length ≤ (L.foldl (trP stp) p).2.length := by
  have h := trP_le stp (L.drop k) ((L.take k).foldl (trP stp) p)
  rwa [← List.foldl_append, List.take_append_drop] at h
theorem trP_next (stp : Nat → Int → Nat) (L : List Int) (k : Nat) (hk : k < L.length) (p : Nat × List Nat) : (L.take (k + 1)).foldl (trP stp) p = trP stp ((L.take k).foldl (trP stp) p) (L.getD k 0) := by
  rw [List.take_succ_eq_append_getElem hk, List.foldl_append]
  simp [List.getD, hk]
end Go.Proofs.YtfolanohokflkabGreatDoor

/-
  takesAll.
-/
namespace Go.Proofs.YtfolanohokflkabGreatDoor
open Go.RowKit
/-- the search in its block, and the symbols of the text in theirs. -/
structure SrAt (w : World) (sb mb tb : Nat) (B : Int) (n0 : Nat) (L : List Int) (ao : Option Addr) (cap : Nat) (KP : Nat → Prop) : Prop where
  c0 : w.cell? ⟨sb, 0, none⟩ = some (.pointer (some ⟨tb, 0, none⟩))
  c1 : w.cell? ⟨sb, 1, none⟩ = some (.int .i64 B)
  c2 : w.cell? ⟨sb, 2, none⟩ = some (.map (some mb))
  c3 : w.cell? ⟨sb, 3, none⟩ = some (.int .i64 n0)
  c4 : w.cell? ⟨sb, 4, none⟩ = some (.slice ao L.length cap)
  kp : KP sb
  row : ∀ k, k < L.length → ∃ g, ao = some ⟨g, 0, none⟩ ∧ KP g ∧ w.cell? ⟨g, k, none⟩ = some (.int .i32 (L.getD k 0))
section
variable {w0 w : World} {b0 sb mb tb : Nat} {t : TB} {T : List Te} {S C : List (Value × Value)} {M : List Nat} {KP : Nat → Prop} {B : Int} {n0 : Nat} {L : List Int} {ao : Option Addr} {cap : Nat}
theorem SrAt.cells (h : SrAt w0 sb mb tb B n0 L ao cap KP) (g : Sr w0 w b0 mb tb t T S C M KP) : w.cell? ⟨sb, 0, none⟩ = some (.pointer (some ⟨tb, 0, none⟩)) ∧ w.cell? ⟨sb, 1, none⟩ = some (.int .i64 B) ∧ w.cell? ⟨sb, 2, none⟩ = some (.map (some mb)) ∧ w.cell? ⟨sb, 3, none⟩ = some (.int .i64 n0) ∧ w.cell? ⟨sb, 4, none⟩ = some (.slice ao L.length cap) :=
  ⟨g.cell h.kp h.c0, g.cell h.kp h.c1, g.cell h.kp h.c2, g.cell h.kp h.c3, g.cell h.kp h.c4⟩
theorem meet_over {n : Nat} (h : Hid (Sr w0 w b0 mb tb t T S C M KP)) (hn : n ≤ LIM) (hB : B < ((addM M n).length : Int)) :
    Calls Tryz.prog 57 #[.agg #[.int .i64 B, .map (some mb)], .int .i64 n] w fun e w' => e = Pan 7 0 ∧ Hid (Sr w0 w' b0 mb tb t T S C (addM M n) KP) := by
  refine (meet_any (B := B) (n := n) (hide (unhide h).met) hn).mono ?_
  rintro x w2 ⟨e, HM2, s2, o2, t2, u2, b2⟩
  rw [if_pos hB] at e
  exact ⟨e, Sr.meet h HM2 s2 o2 t2 u2 b2⟩
theorem meet_in {n : Nat} (h : Hid (Sr w0 w b0 mb tb t T S C M KP)) (hn : n ≤ LIM) (hB : ¬ B < ((addM M n).length : Int)) :
    Calls Tryz.prog 57 #[.agg #[.int .i64 B, .map (some mb)], .int .i64 n] w fun e w' => e = .returned (.bool (decide (n ∉ M))) ∧ Hid (Sr w0 w' b0 mb tb t T S C (addM M n) KP) := by
  refine (meet_any (B := B) (n := n) (hide (unhide h).met) hn).mono ?_
  rintro x w2 ⟨e, HM2, s2, o2, t2, u2, b2⟩
  rw [if_neg hB] at e
  exact ⟨e, Sr.meet h HM2 s2 o2 t2 u2 b2⟩
end
set_option maxRecDepth 100000 in
set_option maxHeartbeats 4000000 in
theorem takesAll_go {Q : Ending → World → Prop} {w : World} {b0 sb mb tb : Nat} {t : TB} {T : List Te} {S C : List (Value × Value)} {KP : Nat → Prop} {B : Int} {n0 : Nat} {L : List Int} {ao : Option Addr} {cap : Nat} {P : Nat → Prop} {stp : Nat → Int → Nat} {ok : Nat → Nat → Prop}
    (h : Hid (Sr w w b0 mb tb t T S C [] KP)) (ha : Hid (SrAt w sb mb tb B n0 L ao cap KP)) (hL : L.length ≤ 60) (hsy : ∀ k, k < L.length → isSym (L.getD k 0) = true) (hP0 : P n0) (hPl : ∀ n, P n → n ≤ LIM ∧ n < T.length)
    (HS : Hid (∀ (n : Nat) (c : Int) (w : World) (t : TB) (S C : List (Value × Value)), P n → isSym c = true → Hid (Tab w t T (numPairs T) S C) → Hid (CV w t T C) → Hid (SV T S) → Calls Tryz.prog 58 #[.pointer (some ⟨t.tb, 0, none⟩), .int .i64 n, .int .i32 c] w (BOut T n c w t S (ok n))))
    (HC : Hid (∀ (n : Nat) (c : Int) (r : Nat), P n → isSym c = true → BecR T n c r → r = stp n c ∧ P r))
    (HQ1 : Hid (B < ((L.foldl (trP stp) (n0, [n0])).2.length : Int) → ∀ w', Hid (Below b0 w w') → Q (Pan 7 0) w')) (HQ2 : Hid (((L.foldl (trP stp) (n0, [n0])).2.length : Int) ≤ B → ∀ w', Hid (Below b0 w w') → Q (.returned (.bool ((T.map (·.2)).getD (L.foldl (trP stp) (n0, [n0])).1 false))) w')) :
    Calls Tryz.prog 33 #[.pointer (some ⟨sb, 0, none⟩)] w Q := by
  obtain ⟨c0, c1, c2, c3, c4⟩ := (unhide ha).cells (unhide h)
  have hT0 := hide (trP_le stp L (n0, [n0]))
  have HR : Hid (∀ k, k < L.length → ∃ g, ao = some ⟨g, 0, none⟩ ∧ KP g ∧ w.cell? ⟨g, k, none⟩ = some (.int .i32 (L.getD k 0))) := (unhide ha).row
  by_cases hB0 : B < 1
  · have HM := hide (meet_over h (hPl n0 hP0).1 (show B < ((addM [] n0).length : Int) from hB0))
    have hB' : B < ((L.foldl (trP stp) (n0, [n0])).2.length : Int) := by
      have := unhide hT0
      have e : ((n0, [n0]) : Nat × List Nat).2.length = 1 := rfl
      omega
    have HQ := hide (unhide HQ1 hB')
    clear HQ1 HQ2
    go_enter Tryz.func33, Tryz.ntmps33
    go_wp2_with (go_at_call 57; refine (unhide HM).mono ?_; clear HM; rintro x w2 ⟨rfl, HM2⟩)
    exact ⟨rfl, unhide HQ _ (unhide HM2).below⟩
  · have HM := hide (meet_in h (hPl n0 hP0).1 (show ¬ B < ((addM [] n0).length : Int) from hB0))
    rw [show addM [] n0 = [n0] from rfl] at HM
    have HB0 : Hid ((1 : Int) ≤ B) := Int.not_lt.1 hB0
    clear hB0
    go_enter Tryz.func33, Tryz.ntmps33
    go_wp2_with (go_at_call 57; refine (unhide HM).mono ?_; clear HM; rintro x w2 ⟨rfl, HS2⟩; clear c0 c1 c2 c3 c4; obtain ⟨c0, c1, c2, c3, c4⟩ := (unhide ha).cells (unhide HS2))
    clear c0 c1 c2 c3 c4
    go_loopw [3, 21] (fun v i wr => ∃ (k n : Nat) (t' : TB) (S' C' : List (Value × Value)), k ≤ L.length ∧ v = .int .i64 (n : Int) ∧ i = .int .i64 (k : Int) ∧ Hid (n = ((L.take k).foldl (trP stp) (n0, [n0])).1 ∧ P n) ∧ Hid ((((L.take k).foldl (trP stp) (n0, [n0])).2.length : Int) ≤ B) ∧ Hid (Sr w wr b0 mb tb t' T S' C' ((L.take k).foldl (trP stp) (n0, [n0])).2 KP)) (fun _ i _ => L.length - (intOf i).toNat)
    case atStart => exact ⟨0, n0, t, S, C, Nat.zero_le _, rfl, rfl, ⟨rfl, hP0⟩, HB0, HS2⟩
    case round =>
      obtain ⟨k, n, t', S', C', hk, rfl, rfl, HN, HB, HSr⟩ := hrel
      clear HS2 hT0
      obtain ⟨c0, c1, c2, c3, c4⟩ := (unhide ha).cells (unhide HSr)
      by_cases hlt : k < L.length
      · obtain ⟨g, rfl, hKg, hcg⟩ := unhide HR k hlt
        have cg := (unhide HSr).cell hKg hcg
        have HNX := hide (trP_next stp L k hlt (n0, [n0]))
        have HTK := hide (trP_take stp L (k + 1) (n0, [n0]))
        have hsk := hsy k hlt
        generalize L.getD k 0 = c at *
        generalize (L.take k).foldl (trP stp) (n0, [n0]) = p at *
        obtain ⟨en, hPn⟩ := unhide HN
        have HBC := hide (unhide HS n c wr t' S' C' hPn hsk (hide (unhide HSr).tab) (hide (unhide HSr).cv) (hide (unhide HSr).sv))
        rw [(unhide HSr).etb] at HBC
        have hlk : n ≤ LIM := (hPl n hPn).1
        clear hcg
        have HQC := hide (unhide HC n c)
        by_cases hBn : B < ((addM p.2 (stp n c)).length : Int)
        · have HQ := hide (unhide HQ1 (by
            have h1 := unhide HTK
            rw [unhide HNX] at h1
            have h2 : (trP stp p c).2 = addM p.2 (stp n c) := by rw [trP, ← en]
            rw [h2] at h1
            omega))
          have HBN := hide hBn
          clear HQ1 HQ2 HS HC HR hsy HNX HTK hBn en HN
          go_wp2_with (first
            | (go_at_call 58; refine (unhide HBC).mono ?_; clear HBC; rintro x w3 ⟨r, t3, S3, C3, rfl, hbr, HT3, HC3, HV3, HF3, -⟩; obtain ⟨er, hPr⟩ := unhide HQC r hPn hsk hbr; have hrl := (hPl r hPr).1; have HS3 := Sr.bec HSr HT3 HC3 HV3 HF3; clear c0 c1 c2 c3 c4 cg; obtain ⟨c0, c1, c2, c3, c4⟩ := (unhide ha).cells (unhide HS3); have HM3 := hide (meet_over (B := B) (n := r) HS3 (hPl r hPr).1 (by rw [er]; exact unhide HBN)); have HER := hide er; have HPR := hide hPr; clear er hPr hbr HQC)
            | (go_at_call 57; refine (unhide HM3).mono ?_; clear HM3; rintro x w4 ⟨rfl, HS4⟩))
          exact ⟨rfl, unhide HQ _ (unhide HS4).below⟩
        · have HBN := hide (Int.not_lt.1 hBn)
          clear hBn HQ1 HQ2 HS HC HR
          have h2 : Hid ((L.take (k + 1)).foldl (trP stp) (n0, [n0]) = (stp n c, addM p.2 (stp n c))) := by
            show _ = _
            rw [unhide HNX, trP, ← en]
          clear HNX HTK en HN hsy
          go_wp2_with (first
            | (go_at_call 58; refine (unhide HBC).mono ?_; clear HBC; rintro x w3 ⟨r, t3, S3, C3, rfl, hbr, HT3, HC3, HV3, HF3, -⟩; obtain ⟨er, hPr⟩ := unhide HQC r hPn hsk hbr; have hrl := (hPl r hPr).1; have HS3 := Sr.bec HSr HT3 HC3 HV3 HF3; clear c0 c1 c2 c3 c4 cg; obtain ⟨c0, c1, c2, c3, c4⟩ := (unhide ha).cells (unhide HS3); have HM3 := hide (meet_in (B := B) (n := r) HS3 (hPl r hPr).1 (by rw [er]; exact Int.not_lt.2 (unhide HBN))); have HER := hide er; have HPR := hide hPr; clear er hPr hbr HQC)
            | (go_at_call 57; refine (unhide HM3).mono ?_; clear HM3; rintro x w4 ⟨rfl, HS4⟩))
          go_roundw
          case rel =>
            have er := unhide HER
            rw [er] at HS4
            refine ⟨k + 1, r, t3, S3, C3, by omega, rfl, by go_num, ?_, ?_, ?_⟩
            · rw [unhide h2]; exact ⟨er, unhide HPR⟩
            · rw [unhide h2]; exact unhide HBN
            · rw [unhide h2]; exact HS4
          case measure => simp [intOf]; omega
      · obtain rfl : k = L.length := by omega
        rw [List.take_length] at HN HB HSr
        have HQ := hide (unhide HQ2 (unhide HB))
        clear HQ1 HQ2 HB
        generalize L.foldl (trP stp) (n0, [n0]) = p at *
        obtain ⟨en, hPn⟩ := unhide HN
        rw [← en] at HQ
        clear HN
        have hlt := (hPl n hPn).2
        obtain ⟨g, d0, -, -, -, -, d5⟩ := (unhide HSr).tab.at (List.getElem?_eq_getElem hlt)
        rw [(unhide HSr).etb] at d0
        have HX := hide (show (T.map (·.2)).getD n false = T[n].2 from by simp [List.getD, hlt])
        generalize T[n].2 = hb at *
        have hlL := (hPl n hPn).1
        clear en HS HC HR hsy hPl hP0 h
        go_wp2_with fail
        have q := unhide HQ _ (unhide HSr).below
        rw [unhide HX] at q
        exact q
end Go.Proofs.YtfolanohokflkabGreatDoor

/-
  What becomes of sets, of the empty word and of chains of sets is a function, and stays among them.
-/
namespace Go.Proofs.YtfolanohokflkabGreatDoor
open Go.RowKit
theorem BecR.uniq {T : List Te} {n : Nat} {c : Int} {r r' : Nat} (h : BecR T n c r) (h' : BecR T n c r') : r = r' := by
  obtain ⟨x, hx, h⟩ := h
  obtain ⟨x', hx', h'⟩ := h'
  obtain rfl : x = x' := by rw [hx] at hx'; exact Option.some.inj hx'
  rcases h with ⟨k, l, hl, e⟩ | ⟨k, e⟩ | ⟨k, i, j, y, fi, se, hy, hi, hj, ye, yk, l, hl, e⟩ <;> rcases h' with ⟨k', l', hl', e'⟩ | ⟨k', e'⟩ | ⟨k', i', j', y', fi', se', hy', hi', hj', ye', yk', l', hl', e'⟩
  · rw [e, e', hl.uniq hl']
  · omega
  · omega
  · omega
  · omega
  · omega
  · omega
  · omega
  · obtain rfl : i = i' := by omega
    obtain rfl : j = j' := by omega
    obtain rfl : y = y' := by rw [hy] at hy'; exact Option.some.inj hy'
    rw [e, e', hl.uniq hl']
/-- a set, the empty word, or a chain of sets. -/
inductive Row (T : List Te) : Nat → Prop where
  | set {n : Nat} {k : Ky} {b : Bool} {l : Spans} : T[n]? = some (k, b) → k.kd = 0 → IsSet k.st l → Row T n
  | empty {n : Nat} {k : Ky} {b : Bool} : T[n]? = some (k, b) → k.kd = 1 → Row T n
  | chain {n i j : Nat} {k : Ky} {b : Bool} {y : Te} {l : Spans} : T[n]? = some (k, b) → k.kd = 2 → k.fi = (i : Int) → k.se = (j : Int) → T[i]? = some y → i < n → j < T.length → y.2 = false → y.1.kd = 0 → IsSet y.1.st l → Row T j → Row T n
theorem Row.lt {T : List Te} {n : Nat} (h : Row T n) : n < T.length := by
  cases h with
  | set h => exact (List.getElem?_eq_some_iff.1 h).1
  | empty h => exact (List.getElem?_eq_some_iff.1 h).1
  | chain h => exact (List.getElem?_eq_some_iff.1 h).1
theorem Row.becomes {T : List Te} (hw : Wf1 T) (hT : 2 < T.length) (hTL : T.length ≤ LIM) (n : Nat) (c : Int) (w : World) (t : TB) (S C : List (Value × Value)) (h : Row T n) (hsy : isSym c = true) (h1 : Hid (Tab w t T (numPairs T) S C)) (h2 : Hid (CV w t T C)) (h3 : Hid (SV T S)) :
    Calls Tryz.prog 58 #[.pointer (some ⟨t.tb, 0, none⟩), .int .i64 n, .int .i32 c] w (BOut T n c w t S (fun i => i ≤ n)) := by
  have hn : n ≤ LIM := by have := h.lt; omega
  cases h with
  | set a k s => exact becOf_set h1 h2 h3 a hn hsy k s
  | empty a k => exact becOf_empty h1 h2 h3 a hn hsy k
  | chain a k f s y i j e d l r => exact becOf_chain h1 h2 h3 hw hT hTL a hsy k f s y i j e d l
theorem Row.next {T : List Te} {n r : Nat} {c : Int} (h : Row T n) (h0 : Row T 0) (h1 : Row T 1) (hb : BecR T n c r) : Row T r := by
  obtain ⟨x, hx, hb⟩ := hb
  rcases hb with ⟨k, l, hl, e⟩ | ⟨k, e⟩ | ⟨k, i, j, y, fi, se, hy, hi, hj, ye, yk, l, hl, e⟩
  · subst e; split
    · exact h1
    · exact h0
  · subst e; exact h0
  · subst e; split
    · cases h with
      | set a k' s => rw [hx] at a; cases a; simp at k; omega
      | empty a k' => rw [hx] at a; cases a; simp at k; omega
      | @chain _ i' j' k' b' y' l' a k2 f s y2 i2 j2 e2 d2 l2 r2 =>
        rw [hx] at a; cases a
        have : (j : Int) = (j' : Int) := se.symm.trans s
        obtain rfl : j = j' := by omega
        exact r2
    · exact h0
open Classical in
/-- what a number becomes. -/
noncomputable def stpT (T : List Te) (n : Nat) (c : Int) : Nat := if h : ∃ r, BecR T n c r then Classical.choose h else 0
theorem stpT_eq {T : List Te} {n r : Nat} {c : Int} (h : BecR T n c r) : r = stpT T n c := by
  have he : ∃ r, BecR T n c r := ⟨r, h⟩
  unfold stpT
  rw [dif_pos he]
  exact h.uniq (Classical.choose_spec he)
end Go.Proofs.YtfolanohokflkabGreatDoor
