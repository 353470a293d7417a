import Derived.Test.YthopgbacdmgfgaaGreatDoorRefL
import Derived.WalkKit
import Derived.WalkSpells
import Derived.WalkLawsBesides
namespace Go.Proofs.YthopgbacdmgfgaaGreatDoor
open Go.RowKit

/-- the state of the reader, and what was left alone since the world w0. -/
structure St (w0 : World) (v0 : Value) (w : World) (b : Nat) (s : ByteArray) (L : List Sy) (vs vn : Value) (i : Nat) (d : Int) (szs : List Int) (e p : Int) : Prop where
  rs : RS w b s L vs vn i d szs e p
  fr : Fr b v0 w0 w vn
  le : i ≤ L.length

section
variable {w0 w : World} {v0 : Value} {b : Nat} {s : ByteArray} {L : List Sy} {vs vn : Value} {i : Nat} {d : Int} {szs : List Int} {e p : Int}

theorem St.up (h : Hid (St w0 v0 w b s L vs vn i d szs e p)) (hi : i < L.length) : Hid (St w0 v0 (w.setCell ⟨b, 2, none⟩ (.int .i64 ((i : Int) + 1))) b s L vs vn (i + 1) d szs e p) :=
  ⟨(unhide h).rs.setAt (i + 1), (unhide h).fr.trans (Fr.set _ _ _ _ _), by omega⟩
theorem St.dep (h : Hid (St w0 v0 w b s L vs vn i d szs e p)) (d' : Int) : Hid (St w0 v0 (w.setCell ⟨b, 3, none⟩ (.int .i64 d')) b s L vs vn i d' szs e p) :=
  ⟨(unhide h).rs.setDepth d', (unhide h).fr.trans (Fr.set _ _ _ _ _), (unhide h).le⟩
theorem St.below {w' : World} (h : Hid (St w0 v0 w b s L vs vn i d szs e p)) (hb : Below w.heap.size w w') : Hid (St w0 v0 w' b s L vs vn i d szs e p) := by
  obtain ⟨r, f, l⟩ := unhide h
  have hlt := r.lt
  have hc : ∀ k v, w.cell? ⟨b, k, none⟩ = some v → w'.cell? ⟨b, k, none⟩ = some v := fun k v q => by rw [hb.cell (p := ⟨b, k, none⟩) hlt]; exact q
  obtain ⟨xs, x1, x2⟩ := r.nodes
  exact ⟨⟨hc _ _ r.c0, hc _ _ r.c1, hc _ _ r.c2, hc _ _ r.c3, hc _ _ r.c4, hc _ _ r.c5, hc _ _ r.c6, fun k => by rw [hb.frozen (p := ⟨b, k, none⟩) hlt]; exact r.fz k, own_below r.syms hb (Nat.le_refl _), r.symsNe, ⟨xs, own_below x1 hb (Nat.le_refl _), x2⟩, r.nodesNe, r.apart, r.len, r.small⟩, f.trans (Fr.of_below hb), l⟩

theorem look_st (h : Hid (St w0 v0 w b s L vs vn i d szs e p)) :
    Calls Tryz.prog 70 #[.pointer (some ⟨b, 0, none⟩)] w fun x w' => x = .returned (.int .i64 (lookV e (L.drop i))) ∧ Hid (St w0 v0 w' b s L vs vn i d szs e p) := by
  refine (refLook_any w b s L vs vn i d szs e p (unhide h).le (unhide h).rs).mono ?_
  rintro x w' ⟨rfl, hs⟩
  exact ⟨rfl, ⟨(unhide h).rs.same hs, (unhide h).fr.trans (Fr.same hs), (unhide h).le⟩⟩
theorem is_yes (h : Hid (St w0 v0 w b s L vs vn i d szs e p)) (c : Int) (hc : 0 ≤ c) (hc' : c < 256) (hl : Hid (lookV e (L.drop i) = c)) :
    Calls Tryz.prog 74 #[.pointer (some ⟨b, 0, none⟩), .int .u8 c] w fun x w' => x = .returned (.bool true) ∧ Hid (St w0 v0 w' b s L vs vn (i + 1) d szs e p) := by
  refine (refIs_yes w b s L vs vn i d szs e p c (unhide h).le (unhide h).rs hc hc' (unhide hl)).mono ?_
  rintro x w' ⟨rfl, hs, hf, hi⟩
  exact ⟨rfl, ⟨hs, (unhide h).fr.trans hf, hi⟩⟩
theorem is_no (h : Hid (St w0 v0 w b s L vs vn i d szs e p)) (c : Int) (hc : 0 ≤ c) (hc' : c < 256) (hl : Hid (¬ lookV e (L.drop i) = c)) :
    Calls Tryz.prog 74 #[.pointer (some ⟨b, 0, none⟩), .int .u8 c] w fun x w' => x = .returned (.bool false) ∧ Hid (St w0 v0 w' b s L vs vn i d szs e p) := by
  refine (refIs_no w b s L vs vn i d szs e p c (unhide h).le (unhide h).rs hc hc' (unhide hl)).mono ?_
  rintro x w' ⟨rfl, hs⟩
  exact ⟨rfl, ⟨(unhide h).rs.same hs, (unhide h).fr.trans (Fr.same hs), (unhide h).le⟩⟩
theorem wrong_new (h : Hid (St w0 v0 w b s L vs vn i d szs 0 p)) (err : Int) :
    Calls Tryz.prog 46 #[.pointer (some ⟨b, 0, none⟩), .int .i64 err] w fun x w' => x = .returned (.tuple #[]) ∧ Hid (St w0 v0 w' b s L vs vn i d szs err (plc s.size (L.drop i))) := by
  refine (refWrong_new w b s L vs vn i d szs p err (unhide h).le (unhide h).rs).mono ?_
  rintro x w' ⟨rfl, hs, hf⟩
  exact ⟨rfl, ⟨hs, (unhide h).fr.trans hf, (unhide h).le⟩⟩
theorem wrong_old (h : Hid (St w0 v0 w b s L vs vn i d szs e p)) (err : Int) (he : Hid (¬ e = 0)) :
    Calls Tryz.prog 46 #[.pointer (some ⟨b, 0, none⟩), .int .i64 err] w fun x w' => x = .returned (.tuple #[]) ∧ Hid (St w0 v0 w' b s L vs vn i d szs e p) := by
  refine (refWrong_old w b s L vs vn i d szs e p err (unhide he) (unhide h).rs).mono ?_
  rintro x w' ⟨rfl, rfl⟩
  exact ⟨rfl, h⟩
theorem add_st (h : Hid (St w0 v0 w b s L vs vn i d szs e p)) (hsz : szs.length ≤ 10000) (kd ls ms z : Int) (v1 v2 : Value) (o1 : v1.oneCell' = true) (o2 : v2.oneCell' = true) :
    Calls Tryz.prog 87 #[.pointer (some ⟨b, 0, none⟩), .agg #[.int .i64 kd, v1, v2, .int .i64 ls, .int .i64 ms, .int .i64 z]] w fun x w' =>
      x = .returned (.int .i64 szs.length) ∧ ∃ vn', Hid (St w0 v0 w' b s L vs vn' i d (szs ++ [z]) e p) := by
  refine (refAdd_any w b s L vs vn i d szs e p (unhide h).rs hsz kd ls ms z v1 v2 o1 o2).mono ?_
  rintro x w' ⟨rfl, vn', hs, hf⟩
  exact ⟨rfl, vn', ⟨hs, (unhide h).fr.trans hf, (unhide h).le⟩⟩

set_option maxRecDepth 100000 in
set_option maxHeartbeats 1000000 in
theorem want_yes (h : Hid (St w0 v0 w b s L vs vn i d szs e p)) (c : Int) (hc : 0 ≤ c) (hc' : c < 256) (hl : Hid (lookV e (L.drop i) = c)) :
    Calls Tryz.prog 96 #[.pointer (some ⟨b, 0, none⟩), .int .u8 c] w fun x w' => x = .returned (.tuple #[]) ∧ Hid (St w0 v0 w' b s L vs vn (i + 1) d szs e p) := by
  go_enter Tryz.func96, Tryz.ntmps96
  go_wp2_with (go_at_call 74; refine (is_yes h c hc hc' hl).mono ?_; rintro x w1 ⟨rfl, HS⟩)
  go_end0
  exact ⟨rfl, HS⟩
set_option maxRecDepth 100000 in
set_option maxHeartbeats 1000000 in
theorem want_no (h : Hid (St w0 v0 w b s L vs vn i d szs 0 p)) (c : Int) (hc : 0 ≤ c) (hc' : c < 256) (hl : Hid (¬ lookV 0 (L.drop i) = c)) :
    Calls Tryz.prog 96 #[.pointer (some ⟨b, 0, none⟩), .int .u8 c] w fun x w' => x = .returned (.tuple #[]) ∧ Hid (St w0 v0 w' b s L vs vn i d szs 2 (plc s.size (L.drop i))) := by
  go_enter Tryz.func96, Tryz.ntmps96
  go_wp2_with (first
    | (go_at_call 74; refine (is_no h c hc hc' hl).mono ?_; rintro x w1 ⟨rfl, HS⟩)
    | (go_at_call 46; refine (wrong_new HS 2).mono ?_; rintro x w2 ⟨rfl, HS2⟩))
  go_end0
  exact ⟨rfl, HS2⟩
set_option maxRecDepth 100000 in
set_option maxHeartbeats 1000000 in
theorem want_old (h : Hid (St w0 v0 w b s L vs vn i d szs e p)) (c : Int) (hc : 0 ≤ c) (hc' : c < 256) (he : Hid (¬ e = 0)) :
    Calls Tryz.prog 96 #[.pointer (some ⟨b, 0, none⟩), .int .u8 c] w fun x w' => x = .returned (.tuple #[]) ∧ Hid (St w0 v0 w' b s L vs vn i d szs e p) := by
  have hl : Hid (¬ lookV e (L.drop i) = c) := by show ¬ _; rw [lookV, if_neg (unhide he)]; omega
  go_enter Tryz.func96, Tryz.ntmps96
  go_wp2_with (first
    | (go_at_call 74; refine (is_no h c hc hc' hl).mono ?_; rintro x w1 ⟨rfl, HS⟩)
    | (go_at_call 46; refine (wrong_old HS 2 he).mono ?_; rintro x w2 ⟨rfl, HS2⟩))
  go_end0
  exact ⟨rfl, HS2⟩
set_option maxRecDepth 100000 in
set_option maxHeartbeats 1000000 in
theorem leaf_st (h : Hid (St w0 v0 w b s L vs vn i d szs e p)) (hsz : szs.length ≤ 10000) (ao : Option Addr) (n c : Nat) :
    Calls Tryz.prog 98 #[.pointer (some ⟨b, 0, none⟩), .slice ao n c] w fun x w' => x = .returned (.int .i64 szs.length) ∧ ∃ vn', Hid (St w0 v0 w' b s L vs vn' i d (szs ++ [1]) e p) := by
  have HA := hide (add_st h hsz 0 0 0 1 (.slice ao n c) (.slice none 0 0) rfl rfl)
  clear h
  go_enter Tryz.func98, Tryz.ntmps98
  go_wp2_with (go_at_call 87; refine (unhide HA).mono ?_; clear HA; rintro x w1 ⟨rfl, vn', HS⟩)
  go_ret
  exact ⟨rfl, vn', HS⟩
end
end Go.Proofs.YthopgbacdmgfgaaGreatDoor
