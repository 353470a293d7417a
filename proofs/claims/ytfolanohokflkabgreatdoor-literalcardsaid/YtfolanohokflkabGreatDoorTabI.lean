import Derived.Test.YtfolanohokflkabGreatDoorTabH
import Derived.WalkKit
import Derived.WalkSpells
import Derived.WalkLawsBesides
import Derived.WalkMore
import Derived.Laws.EntriesVeiled
namespace Go.Proofs.YtfolanohokflkabGreatDoor
open Go.RowKit
/-! the table is made -/
set_option maxRecDepth 100000 in
set_option maxHeartbeats 4000000 in
theorem b_ofSets (w : World) : Calls Tryz.prog 73 #[] w fun e w' => e = .returned (.agg #[fv 115, fv 116, fv 118]) ∧ Hid (Below w.heap.size w w') := by
  go_enter Tryz.func73, Tryz.ntmps73
  go_wp2_with fail
  refine bodyPost_ret (v := .agg #[fv 115, fv 116, fv 118]) ?_ ?_ ?_
  · simp [results, Tryz.results73, go_sem]
  · rfl
  · exact ⟨rfl, (Below.refl _ _).alloc (Nat.le_refl _) _⟩
set_option maxRecDepth 100000 in
set_option maxHeartbeats 4000000 in
theorem b_ofEmpty (w : World) : Calls Tryz.prog 74 #[] w fun e w' => e = .returned (.agg #[fv 120, fv 121, fv 122]) ∧ Hid (Below w.heap.size w w') := by
  go_enter Tryz.func74, Tryz.ntmps74
  go_wp2_with fail
  refine bodyPost_ret (v := .agg #[fv 120, fv 121, fv 122]) ?_ ?_ ?_
  · simp [results, Tryz.results74, go_sem]
  · rfl
  · exact ⟨rfl, (Below.refl _ _).alloc (Nat.le_refl _) _⟩
set_option maxRecDepth 100000 in
set_option maxHeartbeats 4000000 in
theorem b_ofChains (w : World) : Calls Tryz.prog 75 #[] w fun e w' => e = .returned (.agg #[fv 123, fv 124, fv 125]) ∧ Hid (Below w.heap.size w w') := by
  go_enter Tryz.func75, Tryz.ntmps75
  go_wp2_with fail
  refine bodyPost_ret (v := .agg #[fv 123, fv 124, fv 125]) ?_ ?_ ?_
  · simp [results, Tryz.results75, go_sem]
  · rfl
  · exact ⟨rfl, (Below.refl _ _).alloc (Nat.le_refl _) _⟩
set_option maxRecDepth 100000 in
set_option maxHeartbeats 4000000 in
theorem b_ofStars (w : World) : Calls Tryz.prog 76 #[] w fun e w' => e = .returned (.agg #[fv 127, fv 128, fv 129]) ∧ Hid (Below w.heap.size w w') := by
  go_enter Tryz.func76, Tryz.ntmps76
  go_wp2_with fail
  refine bodyPost_ret (v := .agg #[fv 127, fv 128, fv 129]) ?_ ?_ ?_
  · simp [results, Tryz.results76, go_sem]
  · rfl
  · exact ⟨rfl, (Below.refl _ _).alloc (Nat.le_refl _) _⟩
set_option maxRecDepth 100000 in
set_option maxHeartbeats 4000000 in
theorem b_ofAnys (w : World) : Calls Tryz.prog 77 #[] w fun e w' => e = .returned (.agg #[fv 130, fv 131, fv 134]) ∧ Hid (Below w.heap.size w w') := by
  go_enter Tryz.func77, Tryz.ntmps77
  go_wp2_with fail
  refine bodyPost_ret (v := .agg #[fv 130, fv 131, fv 134]) ?_ ?_ ?_
  · simp [results, Tryz.results77, go_sem]
  · rfl
  · exact ⟨rfl, (Below.refl _ _).alloc (Nat.le_refl _) _⟩
set_option maxRecDepth 100000 in
set_option maxHeartbeats 4000000 in
theorem b_ofAlls (w : World) : Calls Tryz.prog 78 #[] w fun e w' => e = .returned (.agg #[fv 135, fv 136, fv 137]) ∧ Hid (Below w.heap.size w w') := by
  go_enter Tryz.func78, Tryz.ntmps78
  go_wp2_with fail
  refine bodyPost_ret (v := .agg #[fv 135, fv 136, fv 137]) ?_ ?_ ?_
  · simp [results, Tryz.results78, go_sem]
  · rfl
  · exact ⟨rfl, (Below.refl _ _).alloc (Nat.le_refl _) _⟩
set_option maxRecDepth 100000 in
set_option maxHeartbeats 4000000 in
theorem b_ofNots (w : World) : Calls Tryz.prog 79 #[] w fun e w' => e = .returned (.agg #[fv 138, fv 139, fv 140]) ∧ Hid (Below w.heap.size w w') := by
  go_enter Tryz.func79, Tryz.ntmps79
  go_wp2_with fail
  refine bodyPost_ret (v := .agg #[fv 138, fv 139, fv 140]) ?_ ?_ ?_
  · simp [results, Tryz.results79, go_sem]
  · rfl
  · exact ⟨rfl, (Below.refl _ _).alloc (Nat.le_refl _) _⟩

theorem below_row {B g : Nat} {w0 w : World} (hb : Below B w0 w) (hg : B ≤ g) (cs : Array Value) : Below B w0 (w.setRow g cs) :=
  ⟨hb.os, hb.tape, hb.output, by rw [size_setRow]; exact hb.size, fun k hk => (setRow_other w g k cs (by omega)).trans (hb.block k hk)⟩
set_option maxRecDepth 100000 in
set_option maxHeartbeats 4000000 in
theorem behaviours_any (w : World) : Calls Tryz.prog 45 #[] w fun e w' => e = .returned (.agg kindCells.toArray) ∧ Hid (Below w.heap.size w w') := by
  go_enter Tryz.func45, Tryz.ntmps45
  have hb0 := heap_alloc_new w (.cells (List.replicate 21 Value.nilFunc).toArray 88)
  have hs0 : w.heap.size < (w.alloc (.cells (List.replicate 21 Value.nilFunc).toArray 88)).heap.size := by simp
  go_wp2_with (first
    | (go_at_call 73; refine (b_ofSets _).mono ?_; rintro x w1 ⟨rfl, HB1⟩; have hb1 := ((unhide HB1).block _ hs0).trans hb0; have hs1 := Nat.lt_of_lt_of_le hs0 (unhide HB1).size)
    | (go_at_call 74; refine (b_ofEmpty _).mono ?_; rintro x w2 ⟨rfl, HB2⟩; have hb2 := ((unhide HB2).block _ hs1).trans hb1; have hs2 := Nat.lt_of_lt_of_le hs1 (unhide HB2).size)
    | (go_at_call 75; refine (b_ofChains _).mono ?_; rintro x w3 ⟨rfl, HB3⟩; have hb3 := ((unhide HB3).block _ hs2).trans hb2; have hs3 := Nat.lt_of_lt_of_le hs2 (unhide HB3).size)
    | (go_at_call 76; refine (b_ofStars _).mono ?_; rintro x w4 ⟨rfl, HB4⟩; have hb4 := ((unhide HB4).block _ hs3).trans hb3; have hs4 := Nat.lt_of_lt_of_le hs3 (unhide HB4).size)
    | (go_at_call 77; refine (b_ofAnys _).mono ?_; rintro x w5 ⟨rfl, HB5⟩; have hb5 := ((unhide HB5).block _ hs4).trans hb4; have hs5 := Nat.lt_of_lt_of_le hs4 (unhide HB5).size)
    | (go_at_call 78; refine (b_ofAlls _).mono ?_; rintro x w6 ⟨rfl, HB6⟩; have hb6 := ((unhide HB6).block _ hs5).trans hb5; have hs6 := Nat.lt_of_lt_of_le hs5 (unhide HB6).size)
    | (go_at_call 79; refine (b_ofNots _).mono ?_; rintro x w7 ⟨rfl, HB7⟩; have hb7 := ((unhide HB7).block _ hs6).trans hb6; have hs7 := Nat.lt_of_lt_of_le hs6 (unhide HB7).size; clear hb0 hb1 hb2 hb3 hb4 hb5 hb6 hs0 hs1 hs2 hs3 hs4 hs5 hs6)
    | (refine wpList_store_row rfl _ _ _ rfl w.heap.size kindCells.toArray rfl rfl _ _ hb7 (by kernel_rfl) rfl (by kernel_rfl) ?_))
  have hq := setRow_heap w7 w.heap.size _ kindCells.toArray _ _ hb7
  have hr := run_loadVar_row (P := Tryz.prog) (w7.setRow w.heap.size kindCells.toArray) w.heap.size 88 88 kindCells.toArray (0, 0) _ hq Tryz.underlying88 rfl (by kernel_rfl)
  refine bodyPost_ret (v := .agg kindCells.toArray) ?_ ?_ ?_
  · unfold results
    rw [Tryz.results45]
    simp [Act.put, asAddr]
    exact hr
  · rfl
  · refine ⟨rfl, below_row ?_ (Nat.le_refl _) _⟩
    have h1 := ((Below.refl w.heap.size w).alloc (Nat.le_refl _) (.cells (List.replicate 21 Value.nilFunc).toArray 88))
    have b1 := h1.trans ((unhide HB1).mono h1.size)
    have b2 := b1.trans ((unhide HB2).mono b1.size)
    have b3 := b2.trans ((unhide HB3).mono b2.size)
    have b4 := b3.trans ((unhide HB4).mono b3.size)
    have b5 := b4.trans ((unhide HB5).mono b4.size)
    have b6 := b5.trans ((unhide HB6).mono b5.size)
    exact b6.trans ((unhide HB7).mono b6.size)

/-- the table with which each search begins. -/
def tab0 : List Te := [(⟨0, ⟨#[]⟩, 0, 0⟩, false), (⟨1, ⟨#[]⟩, 0, 0⟩, true), (⟨6, ⟨#[]⟩, 0, 0⟩, true)]
def ky0 : Ky := ⟨0, ⟨#[]⟩, 0, 0⟩
def ky1 : Ky := ⟨1, ⟨#[]⟩, 0, 0⟩
def ky6 : Ky := ⟨6, ⟨#[]⟩, 0, 0⟩
def tabA : List Te := [(ky0, false)]
def tabB : List Te := [(ky0, false), (ky1, true)]
theorem keepA : keepP [] ky0 = (tabA, 0) := by rfl
theorem keepB : keepP tabA ky1 = (tabB, 1) := by rfl
theorem keepC : keepP tabB ky6 = (tab0, 2) := by rfl
theorem keep_A {w : World} {t : TB} (h : Hid (Tab w t [] (numPairs []) [] [])) : Calls Tryz.prog 46 #[.pointer (some ⟨t.tb, 0, none⟩), .agg #[.int .i64 0, .string ⟨#[]⟩, .int .i64 0, .int .i64 0]] w fun e w' => e = .returned (.int .i64 (0 : Nat)) ∧ ∃ t', Hid (Tab w' t' tabA (numPairs tabA) [] []) ∧ Hid (TFr t t' w w') := by
  have h1 := keep_any (k := ky0) h ⟨wf_0, no_len, wf_0, wf_0⟩ (.inl rfl) (by rw [keepA]; decide)
  rw [keepA] at h1
  exact h1
theorem keep_B {w : World} {t : TB} (h : Hid (Tab w t tabA (numPairs tabA) [] [])) : Calls Tryz.prog 46 #[.pointer (some ⟨t.tb, 0, none⟩), .agg #[.int .i64 1, .string ⟨#[]⟩, .int .i64 0, .int .i64 0]] w fun e w' => e = .returned (.int .i64 (1 : Nat)) ∧ ∃ t', Hid (Tab w' t' tabB (numPairs tabB) [] []) ∧ Hid (TFr t t' w w') := by
  have h1 := keep_any (k := ky1) h ⟨wf_1, no_len, wf_0, wf_0⟩ (.inr (.inl rfl)) (by rw [keepB]; decide)
  rw [keepB] at h1
  exact h1
theorem keep_C {w : World} {t : TB} (h : Hid (Tab w t tabB (numPairs tabB) [] [])) : Calls Tryz.prog 46 #[.pointer (some ⟨t.tb, 0, none⟩), .agg #[.int .i64 6, .string ⟨#[]⟩, .int .i64 0, .int .i64 0]] w fun e w' => e = .returned (.int .i64 (2 : Nat)) ∧ ∃ t', Hid (Tab w' t' tab0 (numPairs tab0) [] []) ∧ Hid (TFr t t' w w') := by
  have h1 := keep_any (k := ky6) h ⟨wf_6, no_len, wf_0, wf_0⟩ (.inr (.inr (.inr ⟨.inr rfl, 0, by decide, rfl⟩))) (by rw [keepC]; decide)
  rw [keepC] at h1
  exact h1
/-- where a new table lies. -/
def tb0 (w : World) : TB := ⟨w.heap.size + 1 + 1 + 1, w.heap.size, w.heap.size + 1, w.heap.size + 1 + 1, none, 0, 0⟩
theorem tab_made (w : World) : Tab ((((w.alloc (mkMap [])).alloc (mkMap [])).alloc (mkMap [])).alloc (.cells (tbCells (tb0 w)).toArray 95)) (tb0 w) [] (numPairs []) [] [] := by
  have s1 : (w.alloc (mkMap [])).heap.size = w.heap.size + 1 := by simp
  have s2 : ((w.alloc (mkMap [])).alloc (mkMap [])).heap.size = w.heap.size + 1 + 1 := by simp
  have s3 : (((w.alloc (mkMap [])).alloc (mkMap [])).alloc (mkMap [])).heap.size = w.heap.size + 1 + 1 + 1 := by simp
  refine ⟨?_, ?_, ?_, ?_, World.ownsRow_nil _ _ _ _, ?_, (fun a h => by cases h), (fun x h => by cases h), List.nodup_nil⟩
  · have h := heap_alloc_new (((w.alloc (mkMap [])).alloc (mkMap [])).alloc (mkMap [])) (.cells (tbCells (tb0 w)).toArray 95)
    rw [s3] at h
    exact h
  · have h := heap_alloc_new w (mkMap [])
    exact (Below.heap_alloc _ _ _ (by rw [s3]; show w.heap.size < _; omega)).trans ((Below.heap_alloc _ _ _ (by rw [s2]; show w.heap.size < _; omega)).trans ((Below.heap_alloc _ _ _ (by rw [s1]; show w.heap.size < _; omega)).trans h))
  · have h := heap_alloc_new (w.alloc (mkMap [])) (mkMap [])
    rw [s1] at h
    exact (Below.heap_alloc _ _ _ (by rw [s3]; show w.heap.size + 1 < _; omega)).trans ((Below.heap_alloc _ _ _ (by rw [s2]; show w.heap.size + 1 < _; omega)).trans h)
  · have h := heap_alloc_new ((w.alloc (mkMap [])).alloc (mkMap [])) (mkMap [])
    rw [s2] at h
    exact (Below.heap_alloc _ _ _ (by rw [s3]; show w.heap.size + 1 + 1 < _; omega)).trans h
  · show w.heap.size + 1 + 1 + 1 ≠ w.heap.size ∧ w.heap.size + 1 + 1 + 1 ≠ w.heap.size + 1 ∧ w.heap.size + 1 + 1 + 1 ≠ w.heap.size + 1 + 1 ∧ w.heap.size ≠ w.heap.size + 1 ∧ w.heap.size ≠ w.heap.size + 1 + 1 ∧ w.heap.size + 1 ≠ w.heap.size + 1 + 1
    omega
theorem tb0_foot (w : World) : ∀ k, TF (tb0 w) k → w.heap.size ≤ k := by
  intro k hk
  have hk' : k = w.heap.size + 1 + 1 + 1 ∨ k = w.heap.size ∨ k = w.heap.size + 1 ∨ k = w.heap.size + 1 + 1 ∨ (none : Option Nat) = some k := hk
  rcases hk' with e | e | e | e | e
  · omega
  · omega
  · omega
  · omega
  · cases e
/-- what lies at or above a world's end is no block of its own. -/
theorem TFr.base {t t' : TB} {w0 w w' : World} (h : Hid (TFr t t' w w')) (hb : Hid (Below w0.heap.size w0 w)) (ht : ∀ k, TF t k → w0.heap.size ≤ k) : Hid (Below w0.heap.size w0 w') := by
  have h1 := unhide h
  have h2 := unhide hb
  exact ⟨h1.os.trans h2.os, h1.tape.trans h2.tape, h1.output.trans h2.output, Nat.le_trans h2.size h1.size, fun k hk => (h1.block k (Nat.lt_of_lt_of_le hk h2.size) (fun hf => by have := ht k hf; omega)).trans (h2.block k hk)⟩

set_option maxRecDepth 100000 in
set_option maxHeartbeats 4000000 in
theorem newTable_any (w : World) : Calls Tryz.prog 25 #[] w fun e w' => ∃ t, e = .returned (.pointer (some ⟨t.tb, 0, none⟩)) ∧ Hid (Tab w' t tab0 (numPairs tab0) [] []) ∧ Hid (Below w.heap.size w w') ∧ ∀ k, TF t k → w.heap.size ≤ k := by
  have hm1 : ∀ w : World, (Instr.makeMap 90 none).run Tryz.prog w = .ok (.map (some w.heap.size)) (w.alloc (mkMap [])) := fun w => rfl
  have hm2 : ∀ w : World, (Instr.makeMap 91 none).run Tryz.prog w = .ok (.map (some w.heap.size)) (w.alloc (mkMap [])) := fun w => rfl
  have hm3 : ∀ w : World, (Instr.makeMap 92 none).run Tryz.prog w = .ok (.map (some w.heap.size)) (w.alloc (mkMap [])) := fun w => rfl
  have HK1 : Hid (∀ w : World, Calls _ _ _ _ _) := fun w => keep_A (hide (tab_made w))
  have e1 : ∀ w : World, (tbCells (tb0 w)).toArray = #[fv 115, fv 116, fv 118, fv 120, fv 121, fv 122, fv 123, fv 124, fv 125, fv 127, fv 128, fv 129, fv 130, fv 131, fv 134, fv 135, fv 136, fv 137, fv 138, fv 139, fv 140, .map (some w.heap.size), .slice none 0 0, .map (some (w.heap.size + 1)), .map (some (w.heap.size + 1 + 1))] := fun w => rfl
  simp only [e1] at HK1
  clear e1
  go_enter Tryz.func25, Tryz.ntmps25
  go_wp2_with (first
    | (go_at_call 45; refine (behaviours_any _).mono ?_; simp only [kindCells]; rintro x w1 ⟨rfl, HB1⟩; have K1 := hide (unhide HK1 w1); clear HK1)
    | (go_at_call 46; refine (unhide K1).mono ?_; clear K1; rintro x w2 ⟨rfl, t1, HT1, HF1⟩; have K2 := hide (keep_B HT1); rw [(unhide HF1).tb] at K2)
    | (go_at_call 46; refine (unhide K2).mono ?_; clear K2; rintro x w3 ⟨rfl, t2, HT2, HF2⟩; have K3 := hide (keep_C HT2); rw [(unhide HF2).tb, (unhide HF1).tb] at K3)
    | (go_at_call 46; refine (unhide K3).mono ?_; clear K3; rintro x w4 ⟨rfl, t3, HT3, HF3⟩))
  go_ret
  have hf := ((unhide HF1).trans (unhide HF2)).trans (unhide HF3)
  have hb1 := unhide HB1
  refine ⟨t3, ?_, HT3, ?_, ?_⟩
  · rw [hf.tb]
    rfl
  · refine TFr.base (hide hf) ?_ (fun k hk => Nat.le_trans hb1.size (tb0_foot w1 k hk))
    exact (((hb1.alloc hb1.size _).alloc (by have := hb1.size; simp; omega) _).alloc (by have := hb1.size; simp; omega) _).alloc (by have := hb1.size; simp; omega) _
  · intro k hk
    rcases hf.foot hk with h | h
    · exact Nat.le_trans hb1.size (tb0_foot w1 k h)
    · refine Nat.le_trans hb1.size (Nat.le_trans ?_ h)
      simp
      omega
end Go.Proofs.YtfolanohokflkabGreatDoor
