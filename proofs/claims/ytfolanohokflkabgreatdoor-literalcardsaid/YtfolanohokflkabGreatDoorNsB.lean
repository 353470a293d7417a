import Derived.Test.YtfolanohokflkabGreatDoorNsA
import Derived.Deep.RegionHeld
/-
  newSearch: its struct literal draws its order.
-/
namespace Go.Proofs.YtfolanohokflkabGreatDoor
open Go.RowKit
theorem ns_way {w X Y : World} {pb mb : Nat} {m : Nd} {t1 t' : TB} (h : Hid (NS w X pb m t1)) (hm : Hid (Met X mb [])) (hmt : ¬ TF t1 mb) (hF : Hid (∀ k, TF t1 k → w.heap.size + 1 ≤ k)) (hf : Hid (TFr t1 t' X Y)) : Hid (Met Y mb []) ∧ ¬ TF t' mb ∧ (∀ k, TF t' k → w.heap.size ≤ k) ∧ Hid (Below w.heap.size w Y) := by
  have hlt : mb < X.heap.size := (Array.getElem?_eq_some_iff.1 (unhide hm).at_).1
  have f := unhide hf
  refine ⟨(unhide hm).move (f.block mb hlt hmt), fun e => ?_, fun k e => ?_, TFr.base hf (hide (unhide h).bl) (fun k hk => by have := unhide hF k hk; omega)⟩
  · rcases f.foot e with e | e
    · exact hmt e
    · omega
  · rcases f.foot e with e | e
    · have := unhide hF k e; omega
    · exact Nat.le_trans (unhide h).bl.size e
theorem cell_under {X Y : World} {a : Addr} {v : Value} (hb : Hid (Below X.heap.size X Y)) (hl : a.block < X.heap.size) (h : X.cell? a = some v) : Y.cell? a = some v := by
  rw [World.cell?_of_block (a := a) ((unhide hb).block _ hl)]
  exact h
set_option maxRecDepth 100000 in
set_option maxHeartbeats 4000000 in
theorem newSearch_any {w : World} {m : Nd} {cs : List Int} {B : Int} {R : Nat → List Te → Prop} (hl : cs.length ≤ 60) (hg : ∀ c ∈ cs, isSym c = true)
   (HO : Hid (∀ (X : World) (t : TB), Hid (Below w.heap.size w X) → Hid (Tab X t tab0 (numPairs tab0) [] []) → Calls Tryz.prog 27 #[.pointer (some ⟨t.tb, 0, none⟩), vNd m] X fun e w' => ∃ (n : Nat) (t' : TB) (T : List Te), e = .returned (.int .i64 n) ∧ Hid (R n T) ∧ Hid (Tab w' t' T (numPairs T) [] []) ∧ Hid (TFr t t' X w'))) :
   Calls Tryz.prog 32 #[vNd m, .string (runesBytes cs), .int .i64 B] w (NSOut w B cs R) := by
  have hcv := fun w => conv_text w cs (by omega) hg
  obtain ⟨cap, hc⟩ := Classical.axiomOfChoice hcv
  obtain ⟨wc, hc⟩ := Classical.axiomOfChoice hc
  clear hcv
  have HCB : Hid (∀ w, Hid (Below w.heap.size w (wc w))) := fun w => (hc w).2.1
  have HCR : Hid (∀ w : World, w.heap.size < (wc w).heap.size ∧ Hid (∀ j, j < cs.length → (wc w).cell? ⟨w.heap.size, j, none⟩ = some (.int .i32 (cs.getD j 0)))) := fun w => ⟨(hc w).2.2.1, (hc w).2.2.2⟩
  have hcv := fun w => (hc w).1
  clear hc
  have HK := hide (NdAt.new w m)
  have HA : Hid (Below w.heap.size w (w.alloc (obNd m))) := (Below.refl _ _).alloc (Nat.le_refl _) _
  have hsz : (w.alloc (obNd m)).heap.size = w.heap.size + 1 := by simp
  have HSZ := hide hsz
  clear hsz
  generalize runesBytes cs = s at *
  simp only [vNd] at HO ⊢
  generalize hQ : NSOut w B cs R = QQ
  have HQ := hide hQ
  clear hQ
  go_enter Tryz.func32, Tryz.ntmps32
  go_wp2_with (
    (go_at_call 25; refine (newTable_any _).mono ?_; rintro x w1 ⟨t1, rfl, HT1, HB1, hF1⟩))
  have HF : Hid (∀ k, TF t1 k → w.heap.size + 1 ≤ k) := fun k hk => by
    have h1 := hF1 k hk
    have h2 := unhide HSZ
    exact h2 ▸ h1
  have hp : ¬ TF t1 w.heap.size := fun h => by have := unhide HF _ h; omega
  have HN1 : Hid (NS w w1.drew w.heap.size m t1) := by
    have hb : Below w.heap.size w w1 := (unhide HA).trans ((unhide HB1).mono (unhide HA).size)
    exact ⟨(show NdAt w1 w.heap.size m from unhide (NdAt.under HB1 HK)), ⟨hb.os, hb.tape, hb.output, hb.size, hb.block⟩, (unhide HT1).drew 1⟩
  have HP := hide hp
  clear HB1 hF1 HT1 HK hp HSZ HA
  have HW : Hid (∀ (X : World) (t : TB), NS w X w.heap.size m t1 → _) := fun X t h => unhide HO X t1 (hide h.bl) (hide h.tb)
  have HQ' := HQ
  obtain ⟨pb, hpb⟩ : ∃ pb, w.heap.size = pb := ⟨_, rfl⟩
  rw [hpb] at HN1 HP HW ⊢
  have HPB := hide hpb
  clear hpb HQ' HO
  have HWC : Hid (∀ W, Hid (NS w W pb m t1) → _) := fun W h => NS.cells (NS.under (unhide HCB W) h)
  have HWD : Hid (∀ W, Hid (NdAt W pb m) → _) := fun W h => NdAt.cells (unhide (NdAt.under (unhide HCB W) h))
  obtain ⟨c0, c1, c2, c3, c4, c5, c6⟩ := NS.cells HN1
  go_region_held (fun w' => w'.cell? ⟨pb, 0, none⟩ = some (.int .i64 m.sh) ∧ w'.cell? ⟨pb, 1, none⟩ = some (.slice m.pa m.pn m.pc) ∧ w'.cell? ⟨pb, 2, none⟩ = some (.string m.ss) ∧ w'.cell? ⟨pb, 3, none⟩ = some (.int .i64 m.le) ∧ w'.cell? ⟨pb, 4, none⟩ = some (.int .i64 m.mo) ∧ w'.cell? ⟨pb, 5, none⟩ = some (.int .i64 m.fa) ∧ w'.cell? ⟨pb, 6, none⟩ = some (.int .i64 m.sz))
    (first
      | go_keep
      | exact unhide HWD _ HN3
      | exact unhide HWC _ HN2
      | exact unhide HWC _ HN1)
    (first
      | (go_at_call 56; refine (newMeeting_any _ B).mono ?_; rintro x w2 ⟨mb, rfl, HM2, hmb, HB2⟩; have HMB := hide hmb; clear hmb; have HN2 : Hid (NS w w2 pb m t1) := (by first | exact NS.under HB2 HN1 | exact NS.under HB2 (NS.under (unhide HCB _) HN1)); obtain ⟨d0, d1, d2, d3, d4, d5, d6⟩ := NS.cells HN2)
      | (go_at_call 27; refine (unhide HW _ t1 (by first | exact unhide HN2 | exact unhide (NS.under (unhide HCB _) HN2))).mono ?_; rintro x w3 ⟨n, t', T, rfl, HRn, HT3, HF3⟩; have HN3 : Hid (NdAt w3 pb m) := (by first | exact NS.after HN2 HF3 (unhide HP) | exact NS.after (NS.under (unhide HCB _) HN2) HF3 (unhide HP)); obtain ⟨e0, e1, e2, e3, e4, e5, e6⟩ := NdAt.cells (unhide HN3)))
  all_goals (clear c0 c1 c2 c3 c4 c5 c6 d0 d1 d2 d3 d4 d5 d6 e0 e1 e2 e3 e4 e5 e6)
  all_goals (go_wp2_with fail)
  all_goals rw [← unhide HQ]
  all_goals
    have hfoot : ∀ k, TF t1 k → k < w1.heap.size := fun k hk => (unhide HN1).tb.foot hk
    have htb' : t'.tb = t1.tb := (unhide HF3).tb
    have hmb := unhide HMB
    have hmlt : mb < w2.heap.size := (Array.getElem?_eq_some_iff.1 (unhide HM2).at_).1
    have hs2 := (unhide HB2).size
    have hs3 := (unhide HF3).size
    have hw0 : w.heap.size ≤ w1.heap.size := (unhide HN1).bl.size
  · have hmt : ¬ TF t1 mb := fun h => by have h1 := hfoot _ h; have h2 : w1.heap.size ≤ mb := hmb; omega
    obtain ⟨h1, h2, h3, h4⟩ := ns_way HN2 HM2 hmt HF HF3
    have hb4 := unhide (unhide HCB w3)
    have hlt3 : mb < w3.heap.size := by omega
    exact ns_end htb' (Tab.below HT3 hb4) ((unhide h1).move (hb4.block mb hlt3)) (unhide HCR w3).2 (unhide HCR w3).1 (by omega) (fun h => by have := (unhide HT3).foot h; omega) h2 h3 (by have h9 : w1.heap.size ≤ mb := hmb; omega) ((unhide h4).trans (hb4.mono (unhide h4).size)) HRn
  · have hmt : ¬ TF t1 mb := fun h => by have h1 := hfoot _ h; have h2 : w1.heap.size ≤ mb := hmb; omega
    have hb4 := unhide (unhide HCB w2)
    have hs2' : w1.heap.size ≤ w2.heap.size := hs2
    have hc2 := (unhide HCR w2).1
    obtain ⟨h1, h2, h3, h4⟩ := ns_way (NS.under (unhide HCB w2) HN2) ((unhide HM2).move (hb4.block mb hmlt)) hmt HF HF3
    have hnt : ¬ TF t1 w2.heap.size := fun h => by have := hfoot _ h; omega
    refine ns_end htb' HT3 h1 (hide fun j hj => ?_) (by omega) (by omega) (fun h => ?_) h2 h3 (by have h9 : w1.heap.size ≤ mb := hmb; omega) h4 HRn
    · rw [World.cell?_of_block (a := ⟨w2.heap.size, j, none⟩) ((unhide HF3).block _ hc2 hnt)]
      exact unhide (unhide HCR w2).2 j hj
    · rcases (unhide HF3).foot h with e | e
      · exact hnt e
      · omega
  · have hc1 : w1.heap.size < (wc w1.drew).heap.size := (unhide HCR w1.drew).1
    have hmt : ¬ TF t1 mb := fun h => by have h1 := hfoot _ h; omega
    obtain ⟨h1, h2, h3, h4⟩ := ns_way HN2 HM2 hmt HF HF3
    have hnt : ¬ TF t1 w1.heap.size := fun h => by have := hfoot _ h; omega
    refine ns_end htb' HT3 h1 (hide fun j hj => ?_) (by omega) (by omega) (fun h => ?_) h2 h3 (by omega) h4 HRn
    · rw [World.cell?_of_block (a := ⟨w1.heap.size, j, none⟩) ((unhide HF3).block _ (by show w1.heap.size < _; omega) hnt)]
      exact cell_under HB2 hc1 (unhide (unhide HCR w1.drew).2 j hj)
    · rcases (unhide HF3).foot h with e | e
      · exact hnt e
      · omega
end Go.Proofs.YtfolanohokflkabGreatDoor
