import Derived.Test.YthopgbacdmgfgaaGreatDoorProL
import Derived.WalkKit
import Derived.WalkSpells
import Derived.WalkLawsBesides
import Derived.WalkMore
namespace Go.Proofs.YthopgbacdmgfgaaGreatDoor
open Go.RowKit

section
variable {w0 w : World} {b : Nat} {s : ByteArray} {d : Int} {l : List Sy}

set_option maxRecDepth 100000 in
set_option maxHeartbeats 4000000 in
theorem qAtom40 {R : Res Int} (HG : Hid (∀ w1, Hid (PL w0 w1 b s d l) → Calls Tryz.prog 115 #[.pointer (some ⟨b, 0, none⟩)] w1 (QOut R vInt w0 b s d))) (h : Hid (PL w0 w b s d l)) (h40 : Hid (hd l = 40)) :
    Calls Tryz.prog 111 #[.pointer (some ⟨b, 0, none⟩)] w (QOut R vInt w0 b s d) := by
  cases R with
  | error y =>
    go_enter Tryz.func111, Tryz.ntmps111
    go_wp2_with (first
      | (go_at_call 94; refine (qLook h h40).mono ?_; clear h; rintro x w1 ⟨rfl, HS⟩)
      | (go_at_call 115; refine (out_err (unhide HG _ HS) (hide rfl)).mono ?_; rintro x w2 ⟨rfl, HU⟩))
    exact ⟨rfl, rfl, HU⟩
  | ok y =>
    obtain ⟨z, l1⟩ := y
    go_enter Tryz.func111, Tryz.ntmps111
    go_wp2_with (first
      | (go_at_call 94; refine (qLook h h40).mono ?_; clear h; rintro x w1 ⟨rfl, HS⟩)
      | (go_at_call 115; refine (out_int (unhide HG _ HS) (hide rfl)).mono ?_; clear HS; rintro x w2 ⟨rfl, HS⟩))
    go_ret
    exact ⟨rfl, HS⟩
end

theorem qChoiceAll {w0 : World} {b : Nat} {s : ByteArray} {d : Int} {k : Nat} (h : PartC 111 (atomS s.size k) w0 b s d) : PartC 54 (choiceS s.size (atomS s.size k)) w0 b s d :=
  qChoice (hide (qBoth (hide (qRow (hide h) (hide (atomS_bd _ k)) (hide (atomS_len _ k)))) (hide (rowS_bd (atomS_bd _ k))) (hide (rowS_len (atomS_len _ k))))) (hide (bothS_bd (atomS_bd _ k))) (hide (bothS_len (atomS_len _ k)))

theorem qAtom (w0 : World) (b : Nat) (s : ByteArray) : ∀ (k : Nat), k ≤ 8 → PartC 111 (atomS s.size k) w0 b s (8 - (k : Int))
  | 0, _ => by
    intro w l h
    rw [atomS]
    by_cases h40 : hd l = 40
    · rw [if_pos h40]
      exact qAtom40 (fun w1 h1 => qGroup_deep h1) h h40
    · rw [if_neg h40]
      exact qLeaf h h40
  | k + 1, hk => by
    intro w l h
    rw [atomS]
    by_cases h40 : hd l = 40
    · rw [if_pos h40]
      have hc := qChoiceAll (qAtom w0 b s k (by omega))
      have e : (8 - ((k + 1 : Nat) : Int)) + 1 = 8 - (k : Int) := by omega
      rw [← e] at hc
      exact qAtom40 (fun w1 h1 => qGroup (hide hc) (by omega) (by omega) h1 h40) h h40
    · rw [if_neg h40]
      exact qLeaf h h40

/-- what readPattern answers. -/
def ROut (R : Res Int) (n : Nat) (w : World) (x : Ending) (w' : World) : Prop :=
  match R with
  | .error y => x = Pan y.1 y.2 ∧ Hid (Below w.heap.size w w')
  | .ok y => (hd y.2 < 0 → x = .returned (.int .i64 y.1) ∧ Hid (Below w.heap.size w w')) ∧ (¬ hd y.2 < 0 → x = Pan 2 (plc n y.2) ∧ Hid (Below w.heap.size w w'))
theorem below_up {w w' : World} (h : Hid (Up w.heap.size w w')) : Hid (Below w.heap.size w w') :=
  ⟨(unhide h).os, (unhide h).tape, (unhide h).output, (unhide h).size, fun k hk => (unhide h).block k hk (Nat.ne_of_lt hk)⟩
theorem ps_new (w : World) (s : ByteArray) (hs : s.size ≤ 60) (ht : Lib.Utf8Tabs 0 1 w) : Hid (PL w (w.alloc (.cells #[.string s, .int .i64 0, .int .i64 0] 108)) w.heap.size s 0 (symsFrom s 0)) := by
  have hlt := tabs_lt ht
  refine ⟨0, ⟨?_, ?_, ?_, ?_, ?_, by omega, ?_, Nat.zero_le _, hs⟩, rfl⟩
  · exact cells_new w [.string s, .int .i64 0, .int .i64 0] _ 0 _ rfl
  · exact cells_new w [.string s, .int .i64 0, .int .i64 0] _ 1 _ rfl
  · exact cells_new w [.string s, .int .i64 0, .int .i64 0] _ 2 _ rfl
  · exact fun k => World.frozen?_alloc_at _ _ _ _ rfl
  · exact tabs_of ht (Below.heap_alloc w _ 0 (by omega)) (Below.heap_alloc w _ 1 (by omega))
  · exact Up.below ((Below.refl _ _).alloc (Nat.le_refl _) _)

set_option maxRecDepth 100000 in
set_option maxHeartbeats 4000000 in
theorem readPattern_any (w : World) (s : ByteArray) (hs : s.size ≤ 60) (ht : Hid (Lib.Utf8Tabs 0 1 w)) :
    Calls Tryz.prog 32 #[.string s] w (ROut (choiceS s.size (atomS s.size 8) (symsFrom s 0)) s.size w) := by
  have HC := hide (qChoiceAll (qAtom w w.heap.size s 8 (Nat.le_refl _)) _ _ (ps_new w s hs ht))
  cases hR : choiceS s.size (atomS s.size 8) (symsFrom s 0) with
  | error y =>
    have HR := hide hR
    clear hR
    go_enter Tryz.func32, Tryz.ntmps32
    go_wp2_with (first
      | (go_at_call 54; refine (out_err (unhide HC) HR).mono ?_; rintro x w2 ⟨rfl, HU⟩))
    exact ⟨rfl, rfl, below_up HU⟩
  | ok y =>
    obtain ⟨z, l1⟩ := y
    have HR := hide hR
    clear hR
    have hge := hd_ge' l1
    by_cases he : hd l1 < 0
    · have HE : Hid (hd l1 = -1) := by show _ = _; omega
      go_enter Tryz.func32, Tryz.ntmps32
      go_wp2_with (first
        | (go_at_call 54; refine (out_int (unhide HC) HR).mono ?_; rintro x w2 ⟨rfl, HS⟩)
        | (go_at_call 55; refine (qTake_yes HS (-1) HE).mono ?_; clear HS; rintro x w3 ⟨rfl, HS⟩))
      go_ret
      exact ⟨fun _ => ⟨rfl, below_up (PL.up HS)⟩, fun hh => absurd he hh⟩
    · have HE : Hid (¬ hd l1 = -1) := by show ¬ _ = _; omega
      go_enter Tryz.func32, Tryz.ntmps32
      go_wp2_with (first
        | (go_at_call 54; refine (out_int (unhide HC) HR).mono ?_; rintro x w2 ⟨rfl, HS⟩)
        | (go_at_call 55; refine (qTake_no HS (-1) HE).mono ?_; clear HS; rintro x w3 ⟨rfl, HU⟩))
      exact ⟨rfl, fun hh => absurd hh (Int.not_lt.2 he), fun _ => ⟨rfl, below_up HU⟩⟩
end Go.Proofs.YthopgbacdmgfgaaGreatDoor
