import Derived.Test.YtfolanohokflkaaGreatDoorRefA
import Derived.Test.YtfolanohokflkaaGreatDoorOwn
import Derived.Test.YtfolanohokflkaaGreatDoorSpec
import Derived.Test.YtfolanohokflkaaGreatDoorDec
import Derived.Test.YtfolanohokflkaaGreatDoorShelf
import Derived.WalkKit
import Derived.WalkSpells
import Derived.WalkLawsBesides
import Derived.Deep.QuietTactic
import Derived.BigQuiet
import Derived.Deep.RegionHeld3
namespace Go.Proofs.YtfolanohokflkaaGreatDoor
open Go.RowKit

/-- what the program's reader leaves alone: every block but its own. -/
structure Up (b : Nat) (w w' : World) : Prop where
  os : w'.os = w.os
  tape : w'.tape = w.tape
  output : w'.output = w.output
  size : w.heap.size ≤ w'.heap.size
  block : ∀ k, k < w.heap.size → k ≠ b → w'.heap[k]? = w.heap[k]?
theorem Up.refl (b : Nat) (w : World) : Up b w w := ⟨rfl, rfl, rfl, Nat.le_refl _, fun _ _ _ => rfl⟩
theorem Up.trans {b : Nat} {a c e : World} (h : Up b a c) (k : Up b c e) : Up b a e :=
  ⟨k.os.trans h.os, k.tape.trans h.tape, k.output.trans h.output, Nat.le_trans h.size k.size, fun j hj hb => (k.block j (Nat.lt_of_lt_of_le hj h.size) hb).trans (h.block j hj hb)⟩
theorem Up.below {b : Nat} {w w' : World} (h : Below w.heap.size w w') : Up b w w' := ⟨h.os, h.tape, h.output, h.size, fun k hk _ => h.block k hk⟩
theorem Up.set (b k : Nat) (w : World) (u : Value) : Up b w (w.setCell ⟨b, k, none⟩ u) :=
  ⟨rfl, rfl, rfl, by simp [World.setCell], fun j _ hb => Below.heap_setCell w ⟨b, k, none⟩ u j hb⟩

/-- the program's reader in memory, and what was left alone since the world w0. -/
structure PS (w0 w : World) (b : Nat) (s : ByteArray) (p : Nat) (d : Int) : Prop where
  c0 : w.cell? ⟨b, 0, none⟩ = some (.string s)
  c1 : w.cell? ⟨b, 1, none⟩ = some (.int .i64 p)
  c2 : w.cell? ⟨b, 2, none⟩ = some (.int .i64 d)
  fz : ∀ k, w.frozen? ⟨b, k, none⟩ = false
  tabs : Lib.Utf8Tabs 4 5 w
  b2 : 6 ≤ b
  up : Up b w0 w
  le : p ≤ s.size
  small : s.size ≤ 60

theorem tabs_of {w w' : World} (h : Lib.Utf8Tabs 4 5 w) (h0 : w'.heap[4]? = w.heap[4]?) (h1 : w'.heap[5]? = w.heap[5]?) : Lib.Utf8Tabs 4 5 w' :=
  ⟨fun c hc => (World.cell?_of_block (a := ⟨4, c, none⟩) h0).trans (h.1 c hc), fun i hi => ⟨(World.cell?_of_block (a := ⟨5, 2 * i, none⟩) h1).trans (h.2 i hi).1, (World.cell?_of_block (a := ⟨5, 2 * i + 1, none⟩) h1).trans (h.2 i hi).2⟩⟩
theorem tabs_lt {w : World} (h : Lib.Utf8Tabs 4 5 w) : 5 < w.heap.size := World.block_lt_of_cell? w _ (h.2 0 (by decide)).1

section
variable {w0 w : World} {b : Nat} {s : ByteArray} {p : Nat} {d : Int}

theorem PS.lt (h : PS w0 w b s p d) : b < w.heap.size := World.block_lt_of_cell? w _ h.c0
theorem PS.below {w' : World} (h : Hid (PS w0 w b s p d)) (hb : Below w.heap.size w w') : Hid (PS w0 w' b s p d) := by
  have g := unhide h
  have hlt := g.lt
  have h2 := g.b2
  have hc : ∀ k v, w.cell? ⟨b, k, none⟩ = some v → w'.cell? ⟨b, k, none⟩ = some v := fun k v q => by rw [hb.cell (p := ⟨b, k, none⟩) hlt]; exact q
  exact ⟨hc _ _ g.c0, hc _ _ g.c1, hc _ _ g.c2, fun k => by rw [hb.frozen (p := ⟨b, k, none⟩) hlt]; exact g.fz k, tabs_of g.tabs (hb.block 4 (by omega)) (hb.block 5 (by omega)), g.b2, g.up.trans (Up.below hb), g.le, g.small⟩
theorem pcs_other {w : World} {b k j : Nat} {u v : Value} (h : w.cell? ⟨b, j, none⟩ = some v) (hk : k ≠ j) : (w.setCell ⟨b, k, none⟩ u).cell? ⟨b, j, none⟩ = some v := by
  have e : (w.setCell ⟨b, k, none⟩ u).cell? ⟨b, j, none⟩ = w.cell? ⟨b, j, none⟩ := by
    apply World.cell?_setCell_other
    intro e; apply hk; simp at e
  rw [e]; exact h
theorem PS.tabs_set (h : PS w0 w b s p d) (k : Nat) (u : Value) : Lib.Utf8Tabs 4 5 (w.setCell ⟨b, k, none⟩ u) := by
  have := h.b2
  exact tabs_of h.tabs (Below.heap_setCell w ⟨b, k, none⟩ u 4 (by show 4 ≠ b; omega)) (Below.heap_setCell w ⟨b, k, none⟩ u 5 (by show 5 ≠ b; omega))
theorem PS.setPlace (h : Hid (PS w0 w b s p d)) (p' : Nat) (z : Int) (hz : z = p') (hp : p' ≤ s.size) : Hid (PS w0 (w.setCell ⟨b, 1, none⟩ (.int .i64 z)) b s p' d) := by
  subst hz
  have g := unhide h
  exact ⟨pcs_other g.c0 (by decide), by rw [World.cell?_setCell_same _ _ _ g.c1], pcs_other g.c2 (by decide), fun k => by rw [World.frozen?_setCell]; exact g.fz k, g.tabs_set _ _, g.b2, g.up.trans (Up.set _ _ _ _), hp, g.small⟩
theorem PS.setDepth (h : Hid (PS w0 w b s p d)) (d' : Int) : Hid (PS w0 (w.setCell ⟨b, 2, none⟩ (.int .i64 d')) b s p d') := by
  have g := unhide h
  exact ⟨pcs_other g.c0 (by decide), pcs_other g.c1 (by decide), by rw [World.cell?_setCell_same _ _ _ g.c2], fun k => by rw [World.frozen?_setCell]; exact g.fz k, g.tabs_set _ _, g.b2, g.up.trans (Up.set _ _ _ _), g.le, g.small⟩

theorem hd_syms (h : p < s.size) : hd (symsFrom s p) = (Utf8.decode s p).1 := by rw [symsFrom_cons s p h]; rfl
theorem tl_syms (h : p < s.size) : (symsFrom s p).tail = symsFrom s (p + (Utf8.decode s p).2) := by rw [symsFrom_cons s p h]; rfl
theorem plc_syms (h : p ≤ s.size) : plc s.size (symsFrom s p) = p := by
  by_cases hp : p < s.size
  · rw [symsFrom_cons s p hp]; rfl
  · obtain rfl : p = s.size := by omega
    rw [symsFrom_nil s _ (Nat.le_refl _)]; rfl
theorem hd_end : hd (symsFrom s s.size) = -1 := by rw [symsFrom_nil s _ (Nat.le_refl _)]; rfl

set_option maxRecDepth 100000 in
set_option maxHeartbeats 4000000 in
theorem pLook (h : Hid (PS w0 w b s p d)) :
    Calls Tryz.prog 251 #[.pointer (some ⟨b, 0, none⟩)] w fun x w' => x = .returned (.int .i32 (hd (symsFrom s p))) ∧ Hid (PS w0 w' b s p d) := by
  have q0 := (unhide h).c0
  have q1 := (unhide h).c1
  have hsm := (unhide h).small
  have hle := (unhide h).le
  have hbl := (unhide h).lt
  by_cases hp : p = s.size
  · subst hp
    rw [hd_end]
    go_enter Tryz.func251, Tryz.ntmps251
    go_wp2_with fail
    go_quiet (fail)
    go_wp2_with fail
    go_ret
    exact ⟨rfl, PS.below h ⟨rfl, rfl, rfl, Nat.le_refl _, fun _ _ => rfl⟩⟩
  · have hlt : p < s.size := by omega
    have hne : ((p : Int) == (s.size : Int)) = false := by simp; omega
    have hpI : (p : Int) ≤ (s.size : Int) := by omega
    rw [hd_syms hlt]
    have HC : Hid (∀ w1, Lib.Utf8Tabs 4 5 w1 → Calls Tryz.prog 281 #[.string (s.extract p s.size)] w1 fun e w' => e = .returned (.tuple #[.int .i32 (Utf8.decode s p).1, .int .i64 (Utf8.decode s p).2]) ∧ Below w1.heap.size w1 w') := by
      intro w1 ht
      have := Tryz.utf8_DecodeRuneInString (s.extract p s.size) w1 ht
      rw [decodeGo_at s p hlt] at this
      exact this
    have HT := hide (unhide h).tabs
    clear hp
    go_enter Tryz.func251, Tryz.ntmps251
    go_wp2_with fail
    go_quiet (fail)
    go_wp2_with fail
    go_region_held3 (fun w' => w'.cell? ⟨b, 0, none⟩ = some (.string s) ∧ w'.cell? ⟨b, 1, none⟩ = some (.int .i64 p))
      (first | go_keep | (refine ⟨?_, ?_⟩ <;> (rw [hbw.cell (p := _) (by exact hbl)]; assumption)))
      ((go_at_call 281; refine (unhide HC _ (by exact unhide HT)).mono ?_; rintro e w1 ⟨rfl, hbw⟩))
    go_wp2_with fail
    go_ret
    exact ⟨rfl, PS.below h ⟨hbw.os, hbw.tape, hbw.output, hbw.size, hbw.block⟩⟩

theorem syms_step (hle : p ≤ s.size) : ∃ k : Nat, Lib.decodeGo (s.extract p s.size) = ((Lib.decodeGo (s.extract p s.size)).1, k) ∧ p + k ≤ s.size ∧ symsFrom s (p + k) = (symsFrom s p).tail := by
  by_cases h : p < s.size
  · rw [decodeGo_at s p h]
    exact ⟨_, rfl, (decode_width s p h).2, (tl_syms h).symm⟩
  · obtain rfl : p = s.size := by omega
    rw [decodeGo_end]
    exact ⟨0, rfl, by omega, by rw [symsFrom_nil s _ (Nat.le_refl _), Nat.add_zero, symsFrom_nil s _ (Nat.le_refl _)]; rfl⟩

set_option maxRecDepth 100000 in
set_option maxHeartbeats 4000000 in
theorem pStep (h : Hid (PS w0 w b s p d)) :
    Calls Tryz.prog 252 #[.pointer (some ⟨b, 0, none⟩)] w fun x w' => x = .returned (.tuple #[]) ∧ ∃ p', Hid (PS w0 w' b s p' d) ∧ Hid (symsFrom s p' = (symsFrom s p).tail) := by
  have q0 := (unhide h).c0
  have q1 := (unhide h).c1
  have hsm := (unhide h).small
  have hle := (unhide h).le
  have hbl := (unhide h).lt
  obtain ⟨k, hk, hpk, hsy⟩ := syms_step hle
  have hpI : (p : Int) ≤ (s.size : Int) := by omega
  have HC : Hid (∀ w1, Lib.Utf8Tabs 4 5 w1 → Calls Tryz.prog 281 #[.string (s.extract p s.size)] w1 fun e w' => e = .returned (.tuple #[.int .i32 (Lib.decodeGo (s.extract p s.size)).1, .int .i64 k]) ∧ Below w1.heap.size w1 w') := by
    intro w1 ht
    have := Tryz.utf8_DecodeRuneInString (s.extract p s.size) w1 ht
    rw [hk] at this
    exact this
  have HT := hide (unhide h).tabs
  have HSY := hide hsy
  clear hk hsy
  go_enter Tryz.func252, Tryz.ntmps252
  go_wp2_with fail
  go_region_held3 (fun w' => w'.cell? ⟨b, 0, none⟩ = some (.string s) ∧ w'.cell? ⟨b, 1, none⟩ = some (.int .i64 p))
    (first | go_keep | (refine ⟨?_, ?_⟩ <;> (rw [hbw.cell (p := _) (by exact hbl)]; assumption)))
    ((go_at_call 281; refine (unhide HC _ (by exact unhide HT)).mono ?_; rintro e w1 ⟨rfl, hbw⟩))
  have HS1 : Hid (PS w0 w1 b s p d) := PS.below h ⟨hbw.os, hbw.tape, hbw.output, hbw.size, hbw.block⟩
  have r1 := (unhide HS1).c1
  have f1 := (unhide HS1).fz 1
  clear hbw
  go_wp2_with fail
  go_end0
  exact ⟨rfl, p + k, PS.setPlace HS1 (p + k) _ (by omega) hpk, HSY⟩

theorem pMet_yes (h : Hid (PS w0 w b s p d)) (c : Int) (hc : Hid (hd (symsFrom s p) = c)) :
    Calls Tryz.prog 219 #[.pointer (some ⟨b, 0, none⟩), .int .i32 c] w fun x w' => x = .returned (.bool true) ∧ ∃ p', Hid (PS w0 w' b s p' d) ∧ Hid (symsFrom s p' = (symsFrom s p).tail) := by
  have HL := hide (pLook h)
  rw [unhide hc] at HL
  clear h hc
  go_enter Tryz.func219, Tryz.ntmps219
  go_wp2_with (first
    | (go_at_call 251; refine (unhide HL).mono ?_; clear HL; rintro x w1 ⟨rfl, HS⟩)
    | (go_at_call 252; refine (pStep HS).mono ?_; clear HS; rintro x w2 ⟨rfl, p', HS, HY⟩))
  go_ret
  exact ⟨rfl, p', HS, HY⟩
theorem pMet_no (h : Hid (PS w0 w b s p d)) (c : Int) (hc : Hid (¬ hd (symsFrom s p) = c)) :
    Calls Tryz.prog 219 #[.pointer (some ⟨b, 0, none⟩), .int .i32 c] w fun x w' => x = .returned (.bool false) ∧ Hid (PS w0 w' b s p d) := by
  have HL := hide (pLook h)
  have hne : (hd (symsFrom s p) != c) = true := by simpa using unhide hc
  generalize hd (symsFrom s p) = z at HL hne
  clear h hc
  go_enter Tryz.func219, Tryz.ntmps219
  go_wp2_with (go_at_call 251; refine (unhide HL).mono ?_; clear HL; rintro x w1 ⟨rfl, HS⟩)
  go_ret
  exact ⟨rfl, HS⟩

/-- giving up. -/
abbrev Pan (e p : Int) : Ending := .panicked [{ v := .iface 74 (.agg #[.int .i64 e, .int .i64 p]), recovered := false }]

theorem pRefuse (h : Hid (PS w0 w b s p d)) (e : Int) :
    Calls Tryz.prog 220 #[.pointer (some ⟨b, 0, none⟩), .int .i64 e] w fun x w' => x = Pan e p ∧ Hid (Up b w0 w') := by
  have q1 := (unhide h).c1
  have HU := hide (unhide h).up
  clear h
  go_enter Tryz.func220, Tryz.ntmps220
  go_wp2_with fail
  exact ⟨rfl, rfl, HU⟩

theorem pTake_yes (h : Hid (PS w0 w b s p d)) (c : Int) (hc : Hid (hd (symsFrom s p) = c)) :
    Calls Tryz.prog 148 #[.pointer (some ⟨b, 0, none⟩), .int .i32 c] w fun x w' => x = .returned (.tuple #[]) ∧ ∃ p', Hid (PS w0 w' b s p' d) ∧ Hid (symsFrom s p' = (symsFrom s p).tail) := by
  go_enter Tryz.func148, Tryz.ntmps148
  go_wp2_with (go_at_call 219; refine (pMet_yes h c hc).mono ?_; rintro x w1 ⟨rfl, p', HS, HY⟩)
  go_end0
  exact ⟨rfl, p', HS, HY⟩
theorem pTake_no (h : Hid (PS w0 w b s p d)) (c : Int) (hc : Hid (¬ hd (symsFrom s p) = c)) :
    Calls Tryz.prog 148 #[.pointer (some ⟨b, 0, none⟩), .int .i32 c] w fun x w' => x = Pan 2 p ∧ Hid (Up b w0 w') := by
  go_enter Tryz.func148, Tryz.ntmps148
  go_wp2_with (first
    | (go_at_call 219; refine (pMet_no h c hc).mono ?_; rintro x w1 ⟨rfl, HS⟩)
    | (go_at_call 220; refine (pRefuse HS 2).mono ?_; rintro x w2 ⟨rfl, HU⟩))
  exact ⟨rfl, rfl, HU⟩
end
end Go.Proofs.YtfolanohokflkaaGreatDoor
