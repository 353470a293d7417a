import Derived.Test.YtfolanohokflkaaGreatDoorRefK
import Derived.WalkKit
import Derived.WalkSpells
import Derived.WalkLawsBesides
import Derived.Deep.RegionLaw
import Derived.Deep.AppendLies
namespace Go.Proofs.YtfolanohokflkaaGreatDoor
open Go.RowKit

theorem infoNode : (Tryz.prog.info? 212).map (fun i => (i.zero, i.size, i.bytes)) = some (some (.agg #[.int .i64 0, .slice none 0 0, .slice none 0 0, .int .i64 0, .int .i64 0, .int .i64 0]), 6, 80) := by kernel_rfl

theorem szs_snoc {szs : List Int} {xs : List Value} {z : Int} {a0 a1 a2 a3 a4 : Value} (hl : xs.length = szs.length * 6) (h : ∀ i, i < szs.length → xs[i * 6 + 5]? = some (.int .i64 (szs.getD i 0))) :
    ∀ i, i < (szs ++ [z]).length → (xs ++ [a0, a1, a2, a3, a4, .int .i64 z])[i * 6 + 5]? = some (.int .i64 ((szs ++ [z]).getD i 0)) := by
  intro i hi
  simp only [List.length_append, List.length_cons, List.length_nil] at hi
  by_cases hlt : i < szs.length
  · rw [List.getElem?_append_left (by omega), h i hlt]; simp [List.getElem?_append_left hlt]
  · obtain rfl : i = szs.length := by omega
    rw [List.getElem?_append_right (by omega), show szs.length * 6 + 5 - xs.length = 5 from by omega]
    simp

theorem heap_two (w : World) (o o' : Obj) : ((w.alloc o).alloc o').drew.heap[w.heap.size + 1]? = some o' := by
  have h := heap_alloc_new (w.alloc o) o'
  rw [show (w.alloc o).heap.size = w.heap.size + 1 from by simp] at h
  exact h
theorem size_two (w : World) (o o' : Obj) : ((w.alloc o).alloc o').drew.heap.size = w.heap.size + 2 := by
  show ((w.alloc o).alloc o').heap.size = _
  simp
theorem grown_two {w w1 : World} {o o' : Obj} {row : Option Nat} (hg : ((w.alloc o).alloc o').drew.grownBy w1 row) (k : Nat) (hk : k < w.heap.size) (hne : some k ≠ row) : w1.heap[k]? = w.heap[k]? := by
  have h1 := hg.block k (by rw [size_two]; omega) hne
  rw [h1]
  show ((w.alloc o).alloc o').heap[k]? = _
  rw [Below.heap_alloc _ _ _ (by simp; omega), Below.heap_alloc _ _ _ hk]
theorem node_one {v1 v2 : Value} {kd ls ms z : Int} (o1 : v1.oneCell' = true) (o2 : v2.oneCell' = true) : ∀ u ∈ [.int .i64 kd, v1, v2, .int .i64 ls, .int .i64 ms, .int .i64 z], u.oneCell' = true := by
  intro u hu
  simp only [List.mem_cons, List.not_mem_nil, or_false] at hu
  rcases hu with rfl | rfl | rfl | rfl | rfl | rfl
  · rfl
  · exact o1
  · exact o2
  · rfl
  · rfl
  · rfl

theorem own_block {w w' : World} {base e size n : Nat} {v : Value} {xs : List Value} (h : w.ownsRow base e size v n xs) (hb : ∀ k, k < w.heap.size → v.ownBlock = some k → w'.heap[k]? = w.heap[k]?) : w'.ownsRow base e size v n xs := by
  obtain ⟨hl, hx | ⟨g, cap, cur, rfl, hb', hg, rest⟩⟩ := h
  · exact ⟨hl, .inl hx⟩
  · have hlt : g < w.heap.size := (Array.getElem?_eq_some_iff.1 hg).1
    exact ⟨hl, .inr ⟨g, cap, cur, rfl, hb', by rw [hb g hlt rfl]; exact hg, rest⟩⟩

theorem add_done {w w1 : World} {b : Nat} {s : ByteArray} {L : List Sy} {vs vn : Value} {i : Nat} {d : Int} {szs : List Int} {e p : Int} {o o' : Obj} {gg cap : Nat} {xs : List Value} {z : Int} {a0 a1 a2 a3 a4 : Value}
    (h : RS w b s L vs vn i d szs e p) (hg : ((w.alloc o).alloc o').drew.grownBy w1 vn.ownBlock) (ho : w1.ownsRow 0 212 6 (.slice (some ⟨gg, 0, none⟩) (szs.length + 1) cap) (szs.length + 1) (xs ++ [a0, a1, a2, a3, a4, .int .i64 z]))
    (hat : vn.ownBlock = some gg ∨ gg = w.heap.size + 2) (hx : ∀ i, i < szs.length → xs[i * 6 + 5]? = some (.int .i64 (szs.getD i 0))) :
    RS (w1.setCell ⟨b, 4, none⟩ (.slice (some ⟨gg, 0, none⟩) (szs.length + 1) cap)) b s L vs (.slice (some ⟨gg, 0, none⟩) (szs.length + 1) cap) i d (szs ++ [z]) e p ∧ Fr b vn w (w1.setCell ⟨b, 4, none⟩ (.slice (some ⟨gg, 0, none⟩) (szs.length + 1) cap)) (.slice (some ⟨gg, 0, none⟩) (szs.length + 1) cap) := by
  have hb := h.lt
  have hbb := grown_two hg b hb (Ne.symm h.nodesNe)
  have hc : ∀ k v, w.cell? ⟨b, k, none⟩ = some v → w1.cell? ⟨b, k, none⟩ = some v := fun k v q => (World.cell?_of_block hbb).trans q
  have hgb : gg ≠ b := by
    rintro rfl
    rcases hat with h1 | h1
    · exact h.nodesNe h1
    · omega
  have hvs : ∀ k, k < w.heap.size → vs.ownBlock = some k → w1.heap[k]? = w.heap[k]? := fun k hk hv => grown_two hg k hk (fun e => h.apart k e.symm hv)
  have hsz := hg.size
  rw [size_two] at hsz
  constructor
  · refine ⟨cs_other (hc _ _ h.c0) (by decide), cs_other (hc _ _ h.c1) (by decide), cs_other (hc _ _ h.c2) (by decide), cs_other (hc _ _ h.c3) (by decide), cs_same (hc _ _ h.c4), cs_other (hc _ _ h.c5) (by decide), cs_other (hc _ _ h.c6) (by decide),
      fun j => ?_, own_setb (own_block h.syms hvs) h.symsNe _, h.symsNe, ⟨xs ++ [a0, a1, a2, a3, a4, .int .i64 z], ?_, szs_snoc ?_ hx⟩, ?_, ?_, h.len, h.small⟩
    · rw [World.frozen?_setCell, World.frozen?_of_block hbb]; exact h.fz j
    · rw [List.length_append]
      exact own_setb ho (by simpa [Value.ownBlock] using hgb) _
    · have := ho.1
      simp only [List.length_append, List.length_cons, List.length_nil] at this
      omega
    · simpa [Value.ownBlock] using hgb
    · intro k hk
      have hkg : gg = k := by simpa [Value.ownBlock] using hk
      subst hkg
      rcases hat with h1 | h1
      · exact h.apart gg h1
      · intro e
        have := (h.syms.lt gg e).2
        omega
  · refine ⟨hg.os, hg.tape, hg.output, by simp [World.setCell]; omega, fun k hk hkb hkv => ?_, fun k hk => ?_⟩
    · rw [Below.heap_setCell _ _ _ _ hkb]; exact grown_two hg k hk (Ne.symm hkv)
    · have hkg : gg = k := by simpa [Value.ownBlock] using hk
      subst hkg
      rcases hat with h1 | h1
      · exact .inl h1
      · exact .inr (by omega)

set_option maxRecDepth 100000 in
set_option maxHeartbeats 3200000 in
theorem refAdd_any (w : World) (b : Nat) (s : ByteArray) (L : List Sy) (vs vn : Value) (i : Nat) (d : Int) (szs : List Int) (e p : Int) (h : RS w b s L vs vn i d szs e p) (hsz : szs.length ≤ 10000)
    (kd ls ms z : Int) (v1 v2 : Value) (o1 : v1.oneCell' = true) (o2 : v2.oneCell' = true) :
    Calls Tryz.prog 243 #[.pointer (some ⟨b, 0, none⟩), .agg #[.int .i64 kd, v1, v2, .int .i64 ls, .int .i64 ms, .int .i64 z]] w fun x w' =>
      x = .returned (.int .i64 szs.length) ∧ ∃ vn', RS w' b s L vs vn' i d (szs ++ [z]) e p ∧ Fr b vn w w' vn' := by
  obtain ⟨i0, hi0, hz0, hz1, hz2⟩ := info_parts infoNode
  obtain ⟨xs, hown, hsx⟩ := h.nodes
  have hlt := h.lt
  have q4 := h.c4
  have f4 := h.fz 4
  have ag := h.nodesNe
  have f4a : ∀ o, (w.alloc o).frozen? ⟨b, 4, none⟩ = false := fun o => by rw [World.frozen?_of_block (w := w) (Below.heap_alloc w o b hlt)]; exact f4
  have f4b : ∀ o o', ((w.alloc o).alloc o').frozen? ⟨b, 4, none⟩ = false := fun o o' => by rw [World.frozen?_of_block (w := w.alloc o) (Below.heap_alloc (w.alloc o) o' b (by simp; omega))]; exact f4a o
  have an : vn.ownBlock ≠ some w.heap.size := fun hx => by have := (hown.lt _ hx).2; omega
  have H := hide h
  have HX := hide hsx
  clear h hsx
  go_enter Tryz.func243, Tryz.ntmps243
  go_wp2_with fail
  go_region_law
    ((refine step_append_lies _ (by rfl) _ _ _ (by rfl) 0 212 i0 _ 6 80 Tryz.underlying151 hi0 hz0 hz1 hz2 rfl (by omega) vn szs.length xs (by rfl) (((hown.alloc _).alloc _).drew)
        ⟨w.heap.size + 1, 0, none⟩ 1 1 [.int .i64 kd, v1, v2, .int .i64 ls, .int .i64 ms, .int .i64 z] (by rfl) (by rfl) (World.news_of_block (cs := #[.int .i64 kd, v1, v2, .int .i64 ls, .int .i64 ms, .int .i64 z]) (t := 212) (fr := (0, 0)) (heap_two _ _ _)) (node_one o1 o2)
        (by omega) (by unfold maxLen; omega) (by omega) (Nat.zero_le _) (w.heap.size + 2) (size_two _ _ _) ?_; intro gg cap w1 hown1 hgrow hat hlt1; have c4' : w1.cell? ⟨b, 4, none⟩ = some vn := (World.cell?_of_block (grown_two hgrow b hlt (Ne.symm ag))).trans q4; have f4' : w1.frozen? ⟨b, 4, none⟩ = false := (World.frozen?_of_block (grown_two hgrow b hlt (Ne.symm ag))).trans f4))
  all_goals have HG := hide hgrow
  all_goals have HO1 := hide hown1
  all_goals clear hgrow hown1 f4a f4b hown
  all_goals go_wp2_with fail
  all_goals go_ret
  all_goals exact ⟨ret_int (by omega), _, add_done (unhide H) (unhide HG) (unhide HO1) hat (unhide HX)⟩
end Go.Proofs.YtfolanohokflkaaGreatDoor

namespace Go.Proofs.YtfolanohokflkaaGreatDoor
open Go.RowKit

/-- the state of the reader, and what was left alone since the world w0. -/
structure St (w0 : World) (v0 : Value) (w : World) (b : Nat) (s : ByteArray) (L : List Sy) (vs vn : Value) (i : Nat) (d : Int) (szs : List Int) (e p : Int) : Prop where
  rs : RS w b s L vs vn i d szs e p
  fr : Fr b v0 w0 w vn
  le : i ≤ L.length

section
variable {w0 w : World} {v0 : Value} {b : Nat} {s : ByteArray} {L : List Sy} {vs vn : Value} {i : Nat} {d : Int} {szs : List Int} {e p : Int}

theorem St.up (h : Hid (St w0 v0 w b s L vs vn i d szs e p)) (hi : i < L.length) : Hid (St w0 v0 (w.setCell ⟨b, 2, none⟩ (.int .i64 ((i : Int) + 1))) b s L vs vn (i + 1) d szs e p) :=
  ⟨(unhide h).rs.setAt (i + 1), (unhide h).fr.trans (Fr.set _ _ _ _ _), by omega⟩
theorem St.dep (h : Hid (St w0 v0 w b s L vs vn i d szs e p)) (d' : Int) : Hid (St w0 v0 (w.setCell ⟨b, 3, none⟩ (.int .i64 d')) b s L vs vn i d' szs e p) :=
  ⟨(unhide h).rs.setDepth d', (unhide h).fr.trans (Fr.set _ _ _ _ _), (unhide h).le⟩
theorem St.below {w' : World} (h : Hid (St w0 v0 w b s L vs vn i d szs e p)) (hb : Below w.heap.size w w') : Hid (St w0 v0 w' b s L vs vn i d szs e p) := by
  obtain ⟨r, f, l⟩ := unhide h
  have hlt := r.lt
  have hc : ∀ k v, w.cell? ⟨b, k, none⟩ = some v → w'.cell? ⟨b, k, none⟩ = some v := fun k v q => by rw [hb.cell (p := ⟨b, k, none⟩) hlt]; exact q
  obtain ⟨xs, x1, x2⟩ := r.nodes
  exact ⟨⟨hc _ _ r.c0, hc _ _ r.c1, hc _ _ r.c2, hc _ _ r.c3, hc _ _ r.c4, hc _ _ r.c5, hc _ _ r.c6, fun k => by rw [hb.frozen (p := ⟨b, k, none⟩) hlt]; exact r.fz k, own_below r.syms hb (Nat.le_refl _), r.symsNe, ⟨xs, own_below x1 hb (Nat.le_refl _), x2⟩, r.nodesNe, r.apart, r.len, r.small⟩, f.trans (Fr.of_below hb), l⟩

theorem look_st (h : Hid (St w0 v0 w b s L vs vn i d szs e p)) :
    Calls Tryz.prog 205 #[.pointer (some ⟨b, 0, none⟩)] w fun x w' => x = .returned (.int .i64 (lookV e (L.drop i))) ∧ Hid (St w0 v0 w' b s L vs vn i d szs e p) := by
  refine (refLook_any w b s L vs vn i d szs e p (unhide h).le (unhide h).rs).mono ?_
  rintro x w' ⟨rfl, hs⟩
  exact ⟨rfl, ⟨(unhide h).rs.same hs, (unhide h).fr.trans (Fr.same hs), (unhide h).le⟩⟩
theorem is_yes (h : Hid (St w0 v0 w b s L vs vn i d szs e p)) (c : Int) (hc : 0 ≤ c) (hc' : c < 256) (hl : Hid (lookV e (L.drop i) = c)) :
    Calls Tryz.prog 209 #[.pointer (some ⟨b, 0, none⟩), .int .u8 c] w fun x w' => x = .returned (.bool true) ∧ Hid (St w0 v0 w' b s L vs vn (i + 1) d szs e p) := by
  refine (refIs_yes w b s L vs vn i d szs e p c (unhide h).le (unhide h).rs hc hc' (unhide hl)).mono ?_
  rintro x w' ⟨rfl, hs, hf, hi⟩
  exact ⟨rfl, ⟨hs, (unhide h).fr.trans hf, hi⟩⟩
theorem is_no (h : Hid (St w0 v0 w b s L vs vn i d szs e p)) (c : Int) (hc : 0 ≤ c) (hc' : c < 256) (hl : Hid (¬ lookV e (L.drop i) = c)) :
    Calls Tryz.prog 209 #[.pointer (some ⟨b, 0, none⟩), .int .u8 c] w fun x w' => x = .returned (.bool false) ∧ Hid (St w0 v0 w' b s L vs vn i d szs e p) := by
  refine (refIs_no w b s L vs vn i d szs e p c (unhide h).le (unhide h).rs hc hc' (unhide hl)).mono ?_
  rintro x w' ⟨rfl, hs⟩
  exact ⟨rfl, ⟨(unhide h).rs.same hs, (unhide h).fr.trans (Fr.same hs), (unhide h).le⟩⟩
theorem wrong_new (h : Hid (St w0 v0 w b s L vs vn i d szs 0 p)) (err : Int) :
    Calls Tryz.prog 140 #[.pointer (some ⟨b, 0, none⟩), .int .i64 err] w fun x w' => x = .returned (.tuple #[]) ∧ Hid (St w0 v0 w' b s L vs vn i d szs err (plc s.size (L.drop i))) := by
  refine (refWrong_new w b s L vs vn i d szs p err (unhide h).le (unhide h).rs).mono ?_
  rintro x w' ⟨rfl, hs, hf⟩
  exact ⟨rfl, ⟨hs, (unhide h).fr.trans hf, (unhide h).le⟩⟩
theorem wrong_old (h : Hid (St w0 v0 w b s L vs vn i d szs e p)) (err : Int) (he : Hid (¬ e = 0)) :
    Calls Tryz.prog 140 #[.pointer (some ⟨b, 0, none⟩), .int .i64 err] w fun x w' => x = .returned (.tuple #[]) ∧ Hid (St w0 v0 w' b s L vs vn i d szs e p) := by
  refine (refWrong_old w b s L vs vn i d szs e p err (unhide he) (unhide h).rs).mono ?_
  rintro x w' ⟨rfl, rfl⟩
  exact ⟨rfl, h⟩
theorem add_st (h : Hid (St w0 v0 w b s L vs vn i d szs e p)) (hsz : szs.length ≤ 10000) (kd ls ms z : Int) (v1 v2 : Value) (o1 : v1.oneCell' = true) (o2 : v2.oneCell' = true) :
    Calls Tryz.prog 243 #[.pointer (some ⟨b, 0, none⟩), .agg #[.int .i64 kd, v1, v2, .int .i64 ls, .int .i64 ms, .int .i64 z]] w fun x w' =>
      x = .returned (.int .i64 szs.length) ∧ ∃ vn', Hid (St w0 v0 w' b s L vs vn' i d (szs ++ [z]) e p) := by
  refine (refAdd_any w b s L vs vn i d szs e p (unhide h).rs hsz kd ls ms z v1 v2 o1 o2).mono ?_
  rintro x w' ⟨rfl, vn', hs, hf⟩
  exact ⟨rfl, vn', ⟨hs, (unhide h).fr.trans hf, (unhide h).le⟩⟩

set_option maxRecDepth 100000 in
set_option maxHeartbeats 1000000 in
theorem want_yes (h : Hid (St w0 v0 w b s L vs vn i d szs e p)) (c : Int) (hc : 0 ≤ c) (hc' : c < 256) (hl : Hid (lookV e (L.drop i) = c)) :
    Calls Tryz.prog 272 #[.pointer (some ⟨b, 0, none⟩), .int .u8 c] w fun x w' => x = .returned (.tuple #[]) ∧ Hid (St w0 v0 w' b s L vs vn (i + 1) d szs e p) := by
  go_enter Tryz.func272, Tryz.ntmps272
  go_wp2_with (go_at_call 209; refine (is_yes h c hc hc' hl).mono ?_; rintro x w1 ⟨rfl, HS⟩)
  go_end0
  exact ⟨rfl, HS⟩
set_option maxRecDepth 100000 in
set_option maxHeartbeats 1000000 in
theorem want_no (h : Hid (St w0 v0 w b s L vs vn i d szs 0 p)) (c : Int) (hc : 0 ≤ c) (hc' : c < 256) (hl : Hid (¬ lookV 0 (L.drop i) = c)) :
    Calls Tryz.prog 272 #[.pointer (some ⟨b, 0, none⟩), .int .u8 c] w fun x w' => x = .returned (.tuple #[]) ∧ Hid (St w0 v0 w' b s L vs vn i d szs 2 (plc s.size (L.drop i))) := by
  go_enter Tryz.func272, Tryz.ntmps272
  go_wp2_with (first
    | (go_at_call 209; refine (is_no h c hc hc' hl).mono ?_; rintro x w1 ⟨rfl, HS⟩)
    | (go_at_call 140; refine (wrong_new HS 2).mono ?_; rintro x w2 ⟨rfl, HS2⟩))
  go_end0
  exact ⟨rfl, HS2⟩
set_option maxRecDepth 100000 in
set_option maxHeartbeats 1000000 in
theorem want_old (h : Hid (St w0 v0 w b s L vs vn i d szs e p)) (c : Int) (hc : 0 ≤ c) (hc' : c < 256) (he : Hid (¬ e = 0)) :
    Calls Tryz.prog 272 #[.pointer (some ⟨b, 0, none⟩), .int .u8 c] w fun x w' => x = .returned (.tuple #[]) ∧ Hid (St w0 v0 w' b s L vs vn i d szs e p) := by
  have hl : Hid (¬ lookV e (L.drop i) = c) := by show ¬ _; rw [lookV, if_neg (unhide he)]; omega
  go_enter Tryz.func272, Tryz.ntmps272
  go_wp2_with (first
    | (go_at_call 209; refine (is_no h c hc hc' hl).mono ?_; rintro x w1 ⟨rfl, HS⟩)
    | (go_at_call 140; refine (wrong_old HS 2 he).mono ?_; rintro x w2 ⟨rfl, HS2⟩))
  go_end0
  exact ⟨rfl, HS2⟩
set_option maxRecDepth 100000 in
set_option maxHeartbeats 1000000 in
theorem leaf_st (h : Hid (St w0 v0 w b s L vs vn i d szs e p)) (hsz : szs.length ≤ 10000) (ao : Option Addr) (n c : Nat) :
    Calls Tryz.prog 274 #[.pointer (some ⟨b, 0, none⟩), .slice ao n c] w fun x w' => x = .returned (.int .i64 szs.length) ∧ ∃ vn', Hid (St w0 v0 w' b s L vs vn' i d (szs ++ [1]) e p) := by
  have HA := hide (add_st h hsz 0 0 0 1 (.slice ao n c) (.slice none 0 0) rfl rfl)
  clear h
  go_enter Tryz.func274, Tryz.ntmps274
  go_wp2_with (go_at_call 243; refine (unhide HA).mono ?_; clear HA; rintro x w1 ⟨rfl, vn', HS⟩)
  go_ret
  exact ⟨rfl, vn', HS⟩
end
end Go.Proofs.YtfolanohokflkaaGreatDoor

namespace Go.Proofs.YtfolanohokflkaaGreatDoor
open Go.RowKit

/-- the reader has come to a result's end. -/
def Ends {a : Type} (r : Res a) (L : List Sy) (i : Nat) (e p : Int) : Prop :=
  match r with
  | .ok x => e = 0 ∧ p = 0 ∧ L.drop i = x.2
  | .error x => e = x.1 ∧ p = x.2 ∧ ¬ x.1 = 0
theorem ends_bad {a : Type} (e : Int) (he : ¬ e = 0) (n : Nat) (L : List Sy) (i : Nat) : Ends (bad (a := a) e n (L.drop i)) L i e (plc n (L.drop i)) := ⟨rfl, rfl, he⟩
theorem ends_ok {a : Type} (x : a) (L : List Sy) (i : Nat) : Ends (.ok (x, L.drop i)) L i 0 0 := ⟨rfl, rfl, rfl⟩
theorem drop_lt {L : List Sy} {i : Nat} (h : 0 ≤ hd (L.drop i)) : i < L.length := by
  rcases Nat.lt_or_ge i L.length with h' | h'
  · exact h'
  · rw [List.drop_eq_nil_of_le h'] at h; simp [hd] at h
theorem drop_tail (L : List Sy) (i : Nat) : (L.drop i).tail = L.drop (i + 1) := by rw [List.tail_drop]
theorem hd_ge (l : List Sy) : -1 ≤ hd l := by cases l <;> simp [hd] <;> omega

section
variable {w0 w : World} {v0 : Value} {b : Nat} {s : ByteArray} {L : List Sy} {vs vn : Value} {i : Nat} {d : Int} {szs : List Int}

def NumPost (w0 : World) (v0 : Value) (b : Nat) (s : ByteArray) (L : List Sy) (vs vn : Value) (i : Nat) (d : Int) (szs : List Int) (x : Ending) (w' : World) : Prop :=
  x = .returned (.int .i64 (if isDig (hd (L.drop i)) = true then (numV (L.drop i)).1 else 0)) ∧ ∃ i' e' p', Hid (St w0 v0 w' b s L vs vn i' d szs e' p') ∧ i ≤ i' ∧ Ends (numberS s.size 0 (L.drop i)) L i' e' p'

theorem num_hyps (c : Int) (h0 : -1 ≤ c) : (c < 48 ∧ isDig c = false) ∨ (57 < c ∧ isDig c = false) ∨ (48 ≤ c ∧ c ≤ 57 ∧ isDig c = true) := by
  by_cases h1 : c < 48
  · exact .inl ⟨h1, by simp [isDig]; omega⟩
  · by_cases h2 : 57 < c
    · exact .inr (.inl ⟨h2, by simp [isDig]; omega⟩)
    · exact .inr (.inr ⟨by omega, by omega, by simp [isDig]; omega⟩)

theorem num_no (h : isDig (hd (L.drop i)) = false) {w' : World} (hs : Hid (St w0 v0 w' b s L vs vn i d szs 2 (plc s.size (L.drop i)))) : NumPost w0 v0 b s L vs vn i d szs (.returned (.int .i64 0)) w' := by
  refine ⟨by rw [h]; rfl, i, 2, _, hs, Nat.le_refl _, ?_⟩
  rw [numberS, h]
  exact ends_bad 2 (by decide) _ _ _
theorem num_ok {j : Nat} {z : Int} (h : isDig (hd (L.drop i)) = true) (hv : numV (L.drop i) = (z, L.drop j)) (hij : i ≤ j) (h0 : 0 ≤ z) (h12 : z ≤ 12) {w' : World} (hs : Hid (St w0 v0 w' b s L vs vn j d szs 0 0)) : NumPost w0 v0 b s L vs vn i d szs (.returned (.int .i64 z)) w' := by
  refine ⟨by rw [h, hv]; rfl, j, 0, 0, hs, hij, ?_⟩
  rw [numberS, h, if_pos rfl, hv, if_neg (by dsimp only; omega)]
  exact ends_ok _ _ _
theorem num_big {j : Nat} {z : Int} (h : isDig (hd (L.drop i)) = true) (hv : numV (L.drop i) = (z, L.drop j)) (hij : i ≤ j) (h12 : 12 < z) {w' : World} (hs : Hid (St w0 v0 w' b s L vs vn j d szs 3 (plc s.size (L.drop j)))) : NumPost w0 v0 b s L vs vn i d szs (.returned (.int .i64 z)) w' := by
  refine ⟨by rw [h, hv]; rfl, j, 3, _, hs, hij, ?_⟩
  rw [numberS, h, if_pos rfl, hv, if_pos (by dsimp only; omega)]
  exact ends_bad 3 (by decide) _ _ _

set_option maxRecDepth 100000 in
set_option maxHeartbeats 2000000 in
theorem number_st (h : Hid (St w0 v0 w b s L vs vn i d szs 0 0)) :
    Calls Tryz.prog 278 #[.pointer (some ⟨b, 0, none⟩)] w (NumPost w0 v0 b s L vs vn i d szs) := by
  have hc := hd_ge (L.drop i)
  have hlen := (unhide h).rs.len
  have HL := hide (look_st h)
  clear h
  rcases num_hyps _ hc with ⟨h1, h2⟩ | ⟨h1, h2⟩ | ⟨h1, h2, h3⟩
  · have HD := hide h2
    generalize hcc : hd (L.drop i) = c at h1 hc
    have HL : Hid (Calls Tryz.prog 205 #[.pointer (some ⟨b, 0, none⟩)] w fun x w' => x = .returned (.int .i64 c) ∧ Hid (St w0 v0 w' b s L vs vn i d szs 0 0)) := by rw [← hcc]; exact HL
    clear h2 hcc
    go_enter Tryz.func278, Tryz.ntmps278
    go_wp2_with (first
      | (go_at_call 205; refine (unhide HL).mono ?_; clear HL; rintro x w1 ⟨rfl, HS⟩)
      | (go_at_call 140; refine (wrong_new HS 2).mono ?_; rintro x w2 ⟨rfl, HS2⟩))
    go_ret
    exact num_no (unhide HD) HS2
  · have HD := hide h2
    generalize hcc : hd (L.drop i) = c at h1 hc
    have HL : Hid (Calls Tryz.prog 205 #[.pointer (some ⟨b, 0, none⟩)] w fun x w' => x = .returned (.int .i64 c) ∧ Hid (St w0 v0 w' b s L vs vn i d szs 0 0)) := by rw [← hcc]; exact HL
    clear h2 hcc
    go_enter Tryz.func278, Tryz.ntmps278
    go_wp2_with (first
      | (go_at_call 205; refine (unhide HL).mono ?_; clear HL; rintro x w1 ⟨rfl, HS⟩)
      | (go_at_call 140; refine (wrong_new HS 2).mono ?_; rintro x w2 ⟨rfl, HS2⟩))
    go_ret
    exact num_no (unhide HD) HS2
  · have HD := hide h3
    have hi := drop_lt (show 0 ≤ hd (L.drop i) by omega)
    have hc2 := hd_ge (L.drop (i + 1))
    have hnv : numV (L.drop i) = if 0 < hd (L.drop i) - 48 ∧ isDig (hd (L.drop (i + 1))) = true then (10 * (hd (L.drop i) - 48) + (hd (L.drop (i + 1)) - 48), L.drop (i + 2)) else (hd (L.drop i) - 48, L.drop (i + 1)) := by
      rw [numV, drop_tail, drop_tail]
    have HV := hide hnv
    clear hnv h3
    generalize hcc : hd (L.drop i) = c at h1 h2 hc HV
    generalize hcc2 : hd (L.drop (i + 1)) = c2 at hc2 HV
    have HL : Hid (Calls Tryz.prog 205 #[.pointer (some ⟨b, 0, none⟩)] w fun x w' => x = .returned (.int .i64 c) ∧ Hid (St w0 v0 w' b s L vs vn i d szs 0 0)) := by rw [← hcc]; exact HL
    have HL2 : Hid (∀ w1, Hid (St w0 v0 w1 b s L vs vn (i + 1) d szs 0 0) → Calls Tryz.prog 205 #[.pointer (some ⟨b, 0, none⟩)] w1 fun x w' => x = .returned (.int .i64 c2) ∧ Hid (St w0 v0 w' b s L vs vn (i + 1) d szs 0 0)) := by
      intro w1 hs; rw [← hcc2]; exact look_st hs
    have HI2 : Hid (48 ≤ c2 → i + 1 < L.length) := fun hx => drop_lt (by rw [hcc2]; omega)
    clear hcc hcc2
    by_cases hz : c = 48
    · subst hz
      rw [if_neg (by omega)] at HV
      go_enter Tryz.func278, Tryz.ntmps278
      go_wp2_with (first
        | (go_at_call 205; refine (unhide HL).mono ?_; clear HL; rintro x w1 ⟨rfl, HS⟩; have q2 := (unhide HS).rs.c2; have f2 := (unhide HS).rs.fz 2)
        | (go_at_call 205; refine (unhide HL2 _ (St.up HS hi)).mono ?_; clear HL2; rintro x w2 ⟨rfl, HS2⟩))
      go_ret
      exact num_ok (unhide HD) (unhide HV) (by omega) (by omega) (by omega) HS2
    · rcases num_hyps _ hc2 with ⟨g1, g2⟩ | ⟨g1, g2⟩ | ⟨g1, g2, g3⟩
      · rw [g2, if_neg (by simp)] at HV
        clear g2
        go_enter Tryz.func278, Tryz.ntmps278
        go_wp2_with (first
          | (go_at_call 205; refine (unhide HL).mono ?_; clear HL; rintro x w1 ⟨rfl, HS⟩; have q2 := (unhide HS).rs.c2; have f2 := (unhide HS).rs.fz 2)
          | (go_at_call 205; refine (unhide HL2 _ (St.up HS hi)).mono ?_; clear HL2; rintro x w2 ⟨rfl, HS2⟩))
        go_ret
        exact num_ok (unhide HD) (unhide HV) (by omega) (by omega) (by omega) HS2
      · rw [g2, if_neg (by simp)] at HV
        clear g2
        go_enter Tryz.func278, Tryz.ntmps278
        go_wp2_with (first
          | (go_at_call 205; refine (unhide HL).mono ?_; clear HL; rintro x w1 ⟨rfl, HS⟩; have q2 := (unhide HS).rs.c2; have f2 := (unhide HS).rs.fz 2)
          | (go_at_call 205; refine (unhide HL2 _ (St.up HS hi)).mono ?_; clear HL2; rintro x w2 ⟨rfl, HS2⟩))
        go_ret
        exact num_ok (unhide HD) (unhide HV) (by omega) (by omega) (by omega) HS2
      · have hi2 : i + 1 < L.length := unhide HI2 g1
        rw [g3, if_pos ⟨by omega, rfl⟩] at HV
        have hzz : 10 * (c - 48) + (c2 - 48) = 10 * (c - 48) + c2 - 48 := by omega
        rw [hzz] at HV
        clear hzz g3
        by_cases hbig : 12 < 10 * (c - 48) + c2 - 48
        · go_enter Tryz.func278, Tryz.ntmps278
          go_wp2_with (first
            | (go_at_call 205; refine (unhide HL).mono ?_; clear HL; rintro x w1 ⟨rfl, HS⟩; have q2 := (unhide HS).rs.c2; have f2 := (unhide HS).rs.fz 2)
            | (go_at_call 205; refine (unhide HL2 _ (St.up HS hi)).mono ?_; clear HL2; rintro x w2 ⟨rfl, HS2⟩; clear q2 f2; have q2 := (unhide HS2).rs.c2; have f2 := (unhide HS2).rs.fz 2)
            | (go_at_call 140; refine (wrong_new (St.up HS2 hi2) 3).mono ?_; rintro x w3 ⟨rfl, HS3⟩))
          go_ret
          exact num_big (unhide HD) (unhide HV) (by omega) (by omega) HS3
        · go_enter Tryz.func278, Tryz.ntmps278
          go_wp2_with (first
            | (go_at_call 205; refine (unhide HL).mono ?_; clear HL; rintro x w1 ⟨rfl, HS⟩; have q2 := (unhide HS).rs.c2; have f2 := (unhide HS).rs.fz 2)
            | (go_at_call 205; refine (unhide HL2 _ (St.up HS hi)).mono ?_; clear HL2; rintro x w2 ⟨rfl, HS2⟩; clear q2 f2; have q2 := (unhide HS2).rs.c2; have f2 := (unhide HS2).rs.fz 2))
          go_ret
          exact num_ok (unhide HD) (unhide HV) (by omega) (by omega) (by omega) (St.up HS2 hi2)
end
end Go.Proofs.YtfolanohokflkaaGreatDoor
