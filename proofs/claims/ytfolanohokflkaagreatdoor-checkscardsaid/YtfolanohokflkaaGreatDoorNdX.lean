import Derived.Test.YtfolanohokflkaaGreatDoorNdU
import Derived.WalkKit
import Derived.WalkSpells
import Derived.WalkLawsBesides
import Derived.WalkMore
namespace Go.Proofs.YtfolanohokflkaaGreatDoor
open Go.RowKit
section
variable {w0 w : World} {b : Nat} {s : ByteArray} {d : Int} {l : List Sy}

set_option maxRecDepth 100000 in
set_option maxHeartbeats 8000000 in
theorem qBoth {sub : List Sy → Res Pn} (HA : Hid (PartC 250 sub b s d)) (HLn : Hid (SubB sub)) : PartC 218 (sepP s.size sub 38 (mkGrp true)) b s d := by
  intro w l h
  rw [sepP_map]
  have hbw := PL.lt h
  have HS0 := pl_entry h (obNd nd0)
  have HUE : Hid (∀ w', Hid (Up b (w.alloc (obNd nd0)) w') → Hid (Up b w w')) := fun w' hu => up_entry h hu
  have HPE : Hid (∀ w' l' n, Hid (PL (w.alloc (obNd nd0)) w' b s d l') → Hid (PL w (setNd w' w.heap.size n) b s d l')) := fun w' l' n h' => pl_exit7 h h' n
  have HAT := hide (NdAt.new w nd0)
  have hsz1 : (w.alloc (obNd nd0)).heap.size = w.heap.size + 1 := by simp
  clear h
  cases hi : sepLP s.size sub 38 l with
  | error y =>
    have HI := hide hi
    clear hi
    go_enter Tryz.func218, Tryz.ntmps218
    go_wp2_with (go_at_call 217; refine (outS_err (qParted_row (by decide) HA HLn HS0) HI).mono ?_; rintro x w3 ⟨rfl, HU⟩)
    exact ⟨rfl, rfl, unhide HUE _ HU⟩
  | ok y =>
    obtain ⟨ps, l1⟩ := y
    have HI := hide hi
    clear hi
    go_enter Tryz.func218, Tryz.ntmps218
    go_wp2_with (first
      | (go_at_call 217; refine (outS_ok (qParted_row (by decide) HA HLn HS0) HI).mono ?_; clear HS0; rintro x w2 ⟨ao, cap, nds, rfl, HPT2, hn1, hn61, HT2⟩)
      | (go_at_call 216; refine (joined_any w2 2 ao cap nds ps hn1 (by omega) (unhide HPT2).1 (unhide HPT2).2.1.1 (fun i h h' => ((unhide HPT2).2.1.2 i h h').1) (unhide HPT2).2.2).mono ?_; simp only [vNd]; rintro x w3 ⟨rfl, HB3⟩; have HT3 := PL.below HT2 (unhide HB3); have HPT3 := PtsP.below HPT2 (unhide HB3); clear HT2 HPT2 HB3; have HR3 := NdAt.up HAT (PL.up HT3) (by omega); obtain ⟨c0, c1, c2, c3, c4, c5, c6⟩ := NdAt.cells (unhide HR3); have cf := NdAt.fz (unhide HR3)))
    change bodyPost _ _ _ _ _ (setNd w3 w.heap.size ⟨2, ao, nds.length, cap, ⟨#[]⟩, 0, 0, 0, zOf ps⟩)
    refine node_ret (rb := w.heap.size) (n := ⟨2, ao, nds.length, cap, ⟨#[]⟩, 0, 0, 0, zOf ps⟩) 2 rfl rfl rfl (hide (NdAt.set (unhide HR3))) ?_
    exact ⟨_, rfl, NodeOK.move (hide (pts_grp true (unhide HPT3))) fun j hj hl => ⟨setNd_other (by omega), by omega⟩, unhide HPE _ _ _ HT3⟩

set_option maxRecDepth 100000 in
set_option maxHeartbeats 8000000 in
theorem qChoice {sub : List Sy → Res Pn} (HA : Hid (PartC 218 sub b s d)) (HLn : Hid (SubB sub)) : PartC 147 (sepP s.size sub 124 (mkGrp false)) b s d := by
  intro w l h
  rw [sepP_map]
  have hbw := PL.lt h
  have HS0 := pl_entry h (obNd nd0)
  have HUE : Hid (∀ w', Hid (Up b (w.alloc (obNd nd0)) w') → Hid (Up b w w')) := fun w' hu => up_entry h hu
  have HPE : Hid (∀ w' l' n, Hid (PL (w.alloc (obNd nd0)) w' b s d l') → Hid (PL w (setNd w' w.heap.size n) b s d l')) := fun w' l' n h' => pl_exit7 h h' n
  have HAT := hide (NdAt.new w nd0)
  have hsz1 : (w.alloc (obNd nd0)).heap.size = w.heap.size + 1 := by simp
  clear h
  cases hi : sepLP s.size sub 124 l with
  | error y =>
    have HI := hide hi
    clear hi
    go_enter Tryz.func147, Tryz.ntmps147
    go_wp2_with (go_at_call 217; refine (outS_err (qParted_both (by decide) HA HLn HS0) HI).mono ?_; rintro x w3 ⟨rfl, HU⟩)
    exact ⟨rfl, rfl, unhide HUE _ HU⟩
  | ok y =>
    obtain ⟨ps, l1⟩ := y
    have HI := hide hi
    clear hi
    go_enter Tryz.func147, Tryz.ntmps147
    go_wp2_with (first
      | (go_at_call 217; refine (outS_ok (qParted_both (by decide) HA HLn HS0) HI).mono ?_; clear HS0; rintro x w2 ⟨ao, cap, nds, rfl, HPT2, hn1, hn61, HT2⟩)
      | (go_at_call 216; refine (joined_any w2 1 ao cap nds ps hn1 (by omega) (unhide HPT2).1 (unhide HPT2).2.1.1 (fun i h h' => ((unhide HPT2).2.1.2 i h h').1) (unhide HPT2).2.2).mono ?_; simp only [vNd]; rintro x w3 ⟨rfl, HB3⟩; have HT3 := PL.below HT2 (unhide HB3); have HPT3 := PtsP.below HPT2 (unhide HB3); clear HT2 HPT2 HB3; have HR3 := NdAt.up HAT (PL.up HT3) (by omega); obtain ⟨c0, c1, c2, c3, c4, c5, c6⟩ := NdAt.cells (unhide HR3); have cf := NdAt.fz (unhide HR3)))
    change bodyPost _ _ _ _ _ (setNd w3 w.heap.size ⟨1, ao, nds.length, cap, ⟨#[]⟩, 0, 0, 0, zOf ps⟩)
    refine node_ret (rb := w.heap.size) (n := ⟨1, ao, nds.length, cap, ⟨#[]⟩, 0, 0, 0, zOf ps⟩) 2 rfl rfl rfl (hide (NdAt.set (unhide HR3))) ?_
    exact ⟨_, rfl, NodeOK.move (hide (pts_grp false (unhide HPT3))) fun j hj hl => ⟨setNd_other (by omega), by omega⟩, unhide HPE _ _ _ HT3⟩

set_option maxRecDepth 100000 in
set_option maxHeartbeats 8000000 in
theorem qAtom40 {R : Res Pn} (HG : Hid (∀ w1, Hid (PL w1 w1 b s d l) → Calls Tryz.prog 320 #[.pointer (some ⟨b, 0, none⟩)] w1 (OutN R w1 b s d))) (h : Hid (PL w w b s d l)) (h40 : Hid (hd l = 40)) :
    Calls Tryz.prog 304 #[.pointer (some ⟨b, 0, none⟩)] w (OutN R w b s d) := by
  have hbw := PL.lt h
  have HS0 := pl_entry h (obNd nd0)
  have HUE : Hid (∀ w', Hid (Up b (w.alloc (obNd nd0)) w') → Hid (Up b w w')) := fun w' hu => up_entry h hu
  have HPE : Hid (∀ w' l' n, Hid (PL (w.alloc (obNd nd0)) w' b s d l') → Hid (PL w (setNd w' w.heap.size n) b s d l')) := fun w' l' n h' => pl_exit7 h h' n
  have HAT := hide (NdAt.new w nd0)
  have hsz1 : (w.alloc (obNd nd0)).heap.size = w.heap.size + 1 := by simp
  clear h
  cases R with
  | error y =>
    go_enter Tryz.func304, Tryz.ntmps304
    go_wp2_with (first
      | (go_at_call 251; refine (qLook HS0 h40).mono ?_; clear HS0; rintro x w1 ⟨rfl, HS⟩)
      | (go_at_call 320; refine (outN_err (unhide HG _ (PL.base HS)) (hide rfl)).mono ?_; rintro x w2 ⟨rfl, HU⟩; have HU2 := hide ((PL.up HS).trans (unhide HU))))
    exact ⟨rfl, rfl, unhide HUE _ HU2⟩
  | ok y =>
    obtain ⟨z, l1⟩ := y
    go_enter Tryz.func304, Tryz.ntmps304
    go_wp2_with (first
      | (go_at_call 251; refine (qLook HS0 h40).mono ?_; clear HS0; rintro x w1 ⟨rfl, HS⟩)
      | (go_at_call 320; refine (outN_ok (unhide HG _ (PL.base HS)) (hide rfl)).mono ?_; simp only [vNd]; rintro x w2 ⟨n, rfl, HN, HS2⟩; have HT2 := PL.join (PL.up HS) HS2; have hs1 := (PL.up HS).size; have HR2 := NdAt.up HAT (PL.up HT2) (by omega); obtain ⟨c0, c1, c2, c3, c4, c5, c6⟩ := NdAt.cells (unhide HR2); have cf := NdAt.fz (unhide HR2)))
    change bodyPost _ _ _ _ _ (setNd w2 w.heap.size n)
    refine node_ret (rb := w.heap.size) (n := n) 2 rfl rfl rfl (hide (NdAt.set (unhide HR2))) ?_
    exact ⟨n, rfl, NodeOK.move HN fun j hj hl => ⟨setNd_other (by omega), by omega⟩, unhide HPE _ _ _ HT2⟩
end
end Go.Proofs.YtfolanohokflkaaGreatDoor

namespace Go.Proofs.YtfolanohokflkaaGreatDoor
open Go.RowKit
theorem same_ok {a : List Sy → Res Int} {c : List Sy → Res Pn} (h : SameA a c) {l l' : List Sy} {v : Pn} (e : c l = .ok (v, l')) : a l = .ok (v.2, l') ∧ 0 ≤ v.2 ∧ v.2 ≤ 61 := by
  have h1 := (h l).1
  rw [e] at h1
  exact ⟨h1, (h l).2 _ _ e⟩
theorem subB_of {a : List Sy → Res Int} {c : List Sy → Res Pn} (h : SameA a c) (hl : Shr0 a) : SubB c := fun l v l' e => by
  obtain ⟨h1, h2, h3⟩ := same_ok h e
  exact ⟨hl l _ h1, h2, h3⟩
theorem bdP_of {a : List Sy → Res Int} {c : List Sy → Res Pn} (h : SameA a c) : BdP c := fun _ _ _ e => (same_ok h e).2
theorem itmB_of {n : Nat} {a : List Sy → Res Int} {c : List Sy → Res Pn} (h : SameA a c) (hl : Shr a) : ItmB n c := fun l v l' e => by
  have h1 := item_same (n := n) h (l.length + 1) l
  have h2 := h1.1
  rw [e] at h2
  exact ⟨itemS_len (n := n) hl (l.length + 1) (y := (v.2, l')) h2, h1.2 _ _ e⟩
theorem qChoiceAll {b : Nat} {s : ByteArray} {d : Int} {k : Nat} (h : PartC 304 (atomP s.size k) b s d) : PartC 147 (choiceP s.size (atomP s.size k)) b s d := by
  have hs := atom_same (n := s.size) k
  have hl := atomS_len s.size k
  have hi : PartC 280 (fun l => itemP s.size (atomP s.size k) (l.length + 1) l) b s d := fun w l hp => qItem (hide h) (hide (bdP_of hs)) hp
  have hr := qRow (hide hi) (hide (itmB_of hs hl))
  have hb := qBoth (hide hr) (hide (subB_of (row_same hs) (rowS_len hl)))
  exact qChoice (hide hb) (hide (subB_of (sep_same (row_same hs) 38 true) (bothS_len hl)))
theorem qAtom (b : Nat) (s : ByteArray) : ∀ (k : Nat), k ≤ 8 → PartC 304 (atomP s.size k) b s (8 - (k : Int))
  | 0, _ => by
    intro w l h
    rw [atomP]
    by_cases h40 : hd l = 40
    · rw [if_pos h40]
      exact qAtom40 (fun w1 h1 => qGroup_deep h1) h h40
    · rw [if_neg h40]
      exact qLeaf h h40
  | k + 1, hk => by
    intro w l h
    rw [atomP]
    by_cases h40 : hd l = 40
    · rw [if_pos h40]
      have hc := qChoiceAll (qAtom b s k (by omega))
      have e : (8 - ((k + 1 : Nat) : Int)) + 1 = 8 - (k : Int) := by omega
      rw [← e] at hc
      exact qAtom40 (fun w1 h1 => qGroup (hide hc) (by omega) (by omega) h1 h40) h h40
    · rw [if_neg h40]
      exact qLeaf h h40
theorem below_up {w w' : World} (h : Hid (Up w.heap.size w w')) : Hid (Below w.heap.size w w') :=
  ⟨(unhide h).os, (unhide h).tape, (unhide h).output, (unhide h).size, fun k hk => (unhide h).block k hk (Nat.ne_of_lt hk)⟩
theorem ps_new (w : World) (s : ByteArray) (hs : s.size ≤ 60) (ht : Lib.Utf8Tabs 4 5 w) : Hid (PL w (w.alloc (.cells #[.string s, .int .i64 0, .int .i64 0] 221)) w.heap.size s 0 (symsFrom s 0)) := by
  have hlt := tabs_lt ht
  refine ⟨0, ⟨?_, ?_, ?_, ?_, ?_, by omega, ?_, Nat.zero_le _, hs⟩, rfl⟩
  · exact cells_new w [.string s, .int .i64 0, .int .i64 0] _ 0 _ rfl
  · exact cells_new w [.string s, .int .i64 0, .int .i64 0] _ 1 _ rfl
  · exact cells_new w [.string s, .int .i64 0, .int .i64 0] _ 2 _ rfl
  · exact fun k => World.frozen?_alloc_at _ _ _ _ rfl
  · exact tabs_of ht (Below.heap_alloc w _ 4 (by omega)) (Below.heap_alloc w _ 5 (by omega))
  · exact Up.below ((Below.refl _ _).alloc (Nat.le_refl _) _)
/-- what readPattern answers. -/
def ROut (R : Res Pn) (n : Nat) (w : World) (x : Ending) (w' : World) : Prop :=
  match R with
  | .error y => x = Pan y.1 y.2 ∧ Hid (Below w.heap.size w w')
  | .ok y => (hd y.2 < 0 → ∃ m, x = .returned (vNd m) ∧ Hid (NodeOK w' (fun k => w.heap.size ≤ k) m y.1) ∧ Hid (Below w.heap.size w w')) ∧ (¬ hd y.2 < 0 → x = Pan 2 (plc n y.2) ∧ Hid (Below w.heap.size w w'))
end Go.Proofs.YtfolanohokflkaaGreatDoor

namespace Go.Proofs.YtfolanohokflkaaGreatDoor
open Go.RowKit
abbrev obRd (s : ByteArray) : Obj := .cells #[.string s, .int .i64 0, .int .i64 0] 221
theorem up_two {w w' : World} {o : Obj} (h0 : Up (w.heap.size + 1) (w.alloc o) w') : Below w.heap.size w w' := by
  have e : (w.alloc o).heap.size = w.heap.size + 1 := by simp
  have h := h0
  rw [← e] at h
  have h1 : Below w.heap.size w (w.alloc o) := (Below.refl _ w).alloc (Nat.le_refl _) _
  exact h1.trans ((unhide (below_up (hide h))).mono (by simp))
theorem box_at {w3 w4 : World} {b : Nat} {n : Nd} (hu : Up b (w3.alloc (obNd n)) w4) (hb : b < w3.heap.size) : Hid (NdAt w4 w3.heap.size n) := NdAt.up (hide (NdAt.new w3 n)) hu (by omega)
set_option maxRecDepth 100000 in
set_option maxHeartbeats 4000000 in
theorem readPattern_any (w : World) (s : ByteArray) (hs : s.size ≤ 60) (ht : Hid (Lib.Utf8Tabs 4 5 w)) :
    Calls Tryz.prog 99 #[.string s] w (ROut (choiceP s.size (atomP s.size 8) (symsFrom s 0)) s.size w) := by
  have hlt := tabs_lt (unhide ht)
  have ht1 : Lib.Utf8Tabs 4 5 (w.alloc (obNd nd0)) := tabs_of (unhide ht) (Below.heap_alloc w _ 4 (by omega)) (Below.heap_alloc w _ 5 (by omega))
  have hsz1 : (w.alloc (obNd nd0)).heap.size = w.heap.size + 1 := by simp
  have HP := ps_new (w.alloc (obNd nd0)) s hs ht1
  rw [hsz1] at HP
  have HC := hide (qChoiceAll (qAtom (w.heap.size + 1) s 8 (Nat.le_refl _)) _ _ (PL.base HP))
  have HAT := hide (NdAt.new w nd0)
  have hsz2 : ((w.alloc (obNd nd0)).alloc (obRd s)).heap.size = w.heap.size + 2 := by simp
  clear ht ht1 hlt
  cases hR : choiceP s.size (atomP s.size 8) (symsFrom s 0) with
  | error y =>
    have HR := hide hR
    clear hR
    go_enter Tryz.func99, Tryz.ntmps99
    go_wp2_with (first
      | (go_at_call 147; refine (outN_err (unhide HC) HR).mono ?_; rintro x w2 ⟨rfl, HU⟩; have HB := hide (up_two ((PL.up HP).trans (unhide HU)))))
    exact ⟨rfl, rfl, HB⟩
  | ok y =>
    obtain ⟨z, l1⟩ := y
    have HR := hide hR
    clear hR
    have hge := hd_ge' l1
    by_cases he : hd l1 < 0
    · have HE : Hid (hd l1 = -1) := by show _ = _; omega
      go_enter Tryz.func99, Tryz.ntmps99
      go_wp2_with (first
        | (go_at_call 147; refine (outN_ok (unhide HC) HR).mono ?_; simp only [vNd]; rintro x w3 ⟨n, rfl, HN, HS3⟩; have HT3 := PL.join (PL.up HP) HS3; have hb3 := PL.lt HT3; have hs3 := (PL.up HS3).size; have HT4 := PL.alloc HT3 (obNd n))
        | (go_at_call 148; refine (qTake_yes (PL.base HT4) (-1) HE).mono ?_; rintro x w5 ⟨rfl, HS5⟩; have HT5 := PL.join (PL.up HT4) HS5; have HB5 := box_at (PL.up HS5) hb3; have HR5 := NdAt.up HAT (PL.up HT5) (by omega); obtain ⟨g0, g1, g2, g3, g4, g5, g6⟩ := NdAt.cells (unhide HB5); obtain ⟨c0, c1, c2, c3, c4, c5, c6⟩ := NdAt.cells (unhide HR5); have cf := NdAt.fz (unhide HR5)))
      change bodyPost _ _ _ _ _ (setNd w5 w.heap.size n)
      refine node_ret (rb := w.heap.size) (n := n) 2 rfl rfl rfl (hide (NdAt.set (unhide HR5))) ?_
      have HN5 : Hid (NodeOK (setNd w5 w.heap.size n) (fun k => w.heap.size ≤ k) n z) := NodeOK.move HN fun j hj hl => by
        have hj' : w.heap.size + 2 ≤ j := Nat.le_trans (Nat.le_of_eq hsz2.symm) hj
        refine ⟨?_, by omega⟩
        rw [setNd_other (by omega), (PL.up HS5).block j (by simp; omega) (by omega), Below.heap_alloc w3 _ j hl]
      exact ⟨fun _ => ⟨n, rfl, HN5, below_setNd (up_two (PL.up HT5)) (Nat.le_refl _)⟩, fun hh => absurd he hh⟩
    · have HE : Hid (¬ hd l1 = -1) := by show ¬ _ = _; omega
      go_enter Tryz.func99, Tryz.ntmps99
      go_wp2_with (first
        | (go_at_call 147; refine (outN_ok (unhide HC) HR).mono ?_; simp only [vNd]; rintro x w3 ⟨n, rfl, HN, HS3⟩; have HT3 := PL.join (PL.up HP) HS3; have hb3 := PL.lt HT3; have HT4 := PL.alloc HT3 (obNd n))
        | (go_at_call 148; refine (qTake_no HT4 (-1) HE).mono ?_; rintro x w5 ⟨rfl, HU⟩))
      exact ⟨rfl, fun hh => absurd hh (Int.not_lt.2 he), fun _ => ⟨rfl, hide (up_two (unhide HU))⟩⟩
end Go.Proofs.YtfolanohokflkaaGreatDoor
