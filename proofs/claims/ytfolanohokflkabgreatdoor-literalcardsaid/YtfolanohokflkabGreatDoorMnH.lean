import Derived.Test.YtfolanohokflkabGreatDoorMnD
/-
  tellApart: what it keeps beside the table.
-/
namespace Go.Proofs.YtfolanohokflkabGreatDoor
open Go.RowKit
/-! the lines that are known, with their numbers -/
def knPairs (L : List (List UInt8)) : List (Value × Value) := L.mapIdx fun i l => (.string (tx l), .int .i64 (i : Int))
theorem knPairs_get (L : List (List UInt8)) (i : Nat) : (knPairs L)[i]? = L[i]?.map fun l => (.string (tx l), .int .i64 (i : Int)) := by simp [knPairs]
theorem knPairs_snoc (L : List (List UInt8)) (x : List UInt8) : knPairs (L ++ [x]) = knPairs L ++ [(.string (tx x), .int .i64 (L.length : Int))] := by simp [knPairs, List.mapIdx_append]
theorem tx_inj {a b : List UInt8} (h : Value.string (tx a) = .string (tx b)) : a = b := by
  injection h with h
  have := congrArg (fun z : ByteArray => z.data.toList) h
  simpa using this
theorem knPairs_mem {L : List (List UInt8)} {p : Value × Value} (h : p ∈ knPairs L) : ∃ l ∈ L, p.1 = .string (tx l) := by
  obtain ⟨j, hj⟩ := List.mem_iff_getElem?.1 h
  rw [knPairs_get] at hj
  obtain ⟨x, hx, rfl⟩ := Option.map_eq_some_iff.1 hj
  exact ⟨x, List.mem_iff_getElem?.2 ⟨j, hx⟩, rfl⟩
theorem knPairs_keys (L : List (List UInt8)) : (knPairs L).map (·.1) = L.map fun l => Value.string (tx l) := by
  apply List.ext_getElem?
  intro i
  rw [List.getElem?_map, knPairs_get, List.getElem?_map]
  cases L[i]? <;> rfl
structure KnM (w : World) (kb : Nat) (L : List (List UInt8)) : Prop where
  at_ : w.heap[kb]? = some (mkMap (knPairs L))
  sz : ∀ l ∈ L, l.length ≤ 1000
  nd : L.Nodup
theorem strKeyed : Maps.Keyed Tryz.prog 9 := Maps.string_keyed Tryz.underlying9
theorem strKey {l : List UInt8} (h : l.length ≤ 1000) : ∃ x, keyOf Tryz.prog 9 (.string (tx l)) = some x := ⟨_, WideMaps.keyOf_string_mk Tryz.underlying9 (by show l.length ≤ _; unfold maxLen; omega)⟩
section
variable {w w' : World} {kb : Nat} {L : List (List UInt8)} {x : List UInt8}
theorem KnM.lt (h : KnM w kb L) : kb < w.heap.size := (Array.getElem?_eq_some_iff.1 h.at_).1
theorem KnM.move (h : KnM w kb L) (e : w'.heap[kb]? = w.heap[kb]?) : KnM w' kb L := ⟨e.trans h.at_, h.sz, h.nd⟩
theorem KnM.keys (h : KnM w kb L) : ∀ p ∈ knPairs L, ∃ x, keyOf Tryz.prog 9 p.1 = some x := fun p hp => by
  obtain ⟨l, hl, e⟩ := knPairs_mem hp
  rw [e]
  exact strKey (h.sz l hl)
theorem KnM.nodup (h : KnM w kb L) : ((knPairs L).map (·.1)).Nodup := by
  rw [knPairs_keys]
  exact List.Pairwise.map _ (fun a b hab e => hab (tx_inj e)) h.nd
theorem KnM.hit (h : KnM w kb L) (hx : x ∈ L) : (Instr.lookup 139 (.map (some kb)) (.string (tx x)) true).run Tryz.prog w = .ok (.tuple #[.int .i64 (L.idxOf x : Int), .bool true]) w := by
  have hi := List.idxOf_lt_length_iff.2 hx
  refine look_hit strKeyed Tryz.underlying139 h.at_ h.keys (strKey (h.sz x hx)) h.nodup (j := L.idxOf x) ?_
  rw [knPairs_get, List.getElem?_eq_getElem hi, List.getElem_idxOf hi]
  rfl
theorem KnM.miss (h : KnM w kb L) (hx : x ∉ L) (hl : x.length ≤ 1000) : (Instr.lookup 139 (.map (some kb)) (.string (tx x)) true).run Tryz.prog w = .ok (.tuple #[.int .i64 0, .bool false]) w := by
  refine look_miss strKeyed Tryz.underlying139 h.at_ h.keys (strKey hl) (fun p hp e => ?_) (by simp [go_sem])
  obtain ⟨l, hl, e'⟩ := knPairs_mem hp
  exact hx ((tx_inj (e'.symm.trans e)) ▸ hl)
theorem KnM.put (h : KnM w kb L) (hx : x ∉ L) (hl : x.length ≤ 1000) : ∃ w', (Instr.mapUpdate 139 (.map (some kb)) (.string (tx x)) (.int .i64 (L.length : Int))).run Tryz.prog w = .ok () w' ∧ KnM w' kb (L ++ [x]) ∧ w'.heap.size = w.heap.size ∧ w'.os = w.os ∧ w'.tape = w.tape ∧ w'.output = w.output ∧ ∀ k, k ≠ kb → w'.heap[k]? = w.heap[k]? := by
  refine ⟨_, put_new strKeyed Tryz.underlying139 h.at_ h.keys (strKey hl) (fun p hp e => ?_) _, ⟨?_, ?_, ?_⟩, set_size, rfl, rfl, rfl, fun k hk => set_other hk⟩
  · obtain ⟨l, hl, e'⟩ := knPairs_mem hp
    exact hx ((tx_inj (e'.symm.trans e)) ▸ hl)
  · rw [set_same h.lt, knPairs_snoc]
  · intro l hl'
    rcases List.mem_append.1 hl' with h1 | h1
    · exact h.sz l h1
    · rw [List.mem_singleton] at h1; rw [h1]; exact hl
  · exact List.nodup_append.2 ⟨h.nd, by simp, fun a ha c hc e => hx (by rw [List.mem_singleton] at hc; rw [← hc, ← e]; exact ha)⟩
end
/-! the lines of the first ones -/
theorem addB_pre : ∀ (l M : List (List UInt8)), ∃ r, l.foldl addB M = M ++ r
  | [], M => ⟨[], by simp⟩
  | x :: l, M => by
    rw [List.foldl_cons]
    obtain ⟨r, e⟩ := addB_pre l (addB M x)
    rw [e]
    unfold addB
    split
    · exact ⟨r, rfl⟩
    · exact ⟨x :: r, by simp⟩
theorem idx_pre {M r : List (List UInt8)} {x : List UInt8} (h : x ∈ M) : (M ++ r).idxOf x = M.idxOf x := by
  rw [List.idxOf_append, if_pos h]
theorem idx_new {M : List (List UInt8)} {x : List UInt8} (h : x ∉ M) (r : List (List UInt8)) : (M ++ [x] ++ r).idxOf x = M.length := by
  rw [List.append_assoc, List.idxOf_append, if_neg h]
  simp
/-! a row of remainders: number, from, by -/
abbrev Rm := Nat × Int × Int
def rmCells : List Rm → List Value
  | [] => []
  | x :: l => [.int .i64 (x.1 : Int), .int .i64 x.2.1, .int .i32 x.2.2] ++ rmCells l
theorem rmCells_append (a c : List Rm) : rmCells (a ++ c) = rmCells a ++ rmCells c := by
  induction a with
  | nil => rfl
  | cons x l ih => simp [rmCells, ih]
theorem rmCells_length (a : List Rm) : (rmCells a).length = a.length * 3 := by
  induction a with
  | nil => rfl
  | cons x l ih => simp [rmCells, ih]; omega
theorem rm_get : ∀ (l : List Rm) (i : Nat) (x : Rm), l[i]? = some x → (rmCells l)[i * 3]? = some (.int .i64 (x.1 : Int)) ∧ (rmCells l)[i * 3 + 1]? = some (.int .i64 x.2.1) ∧ (rmCells l)[i * 3 + 2]? = some (.int .i32 x.2.2)
  | [], i, x, h => by simp at h
  | y :: l, 0, x, h => by
    simp at h
    subst h
    simp [rmCells]
  | y :: l, i + 1, x, h => by
    have hh := rm_get l i x (by simpa using h)
    have e : ∀ j, (rmCells (y :: l))[j + 3]? = (rmCells l)[j]? := fun j => by
      show ([_, _, _] ++ rmCells l)[j + 3]? = _
      simp
    rw [show (i + 1) * 3 = i * 3 + 3 from by omega, show i * 3 + 3 + 1 = (i * 3 + 1) + 3 from by omega, show i * 3 + 3 + 2 = (i * 3 + 2) + 3 from by omega, e, e, e]
    exact hh
theorem infoRm : (Tryz.prog.info? 137).map (fun i => (i.zero, i.size, i.bytes)) = some (some (.agg #[.int .i64 0, .int .i64 0, .int .i32 0]), 3, 24) := by kernel_rfl
end Go.Proofs.YtfolanohokflkabGreatDoor

/-
  tellApart.
-/
namespace Go.Proofs.YtfolanohokflkabGreatDoor
open Go.RowKit
/-- on the way through the remainders. -/
structure TlI (w wr : World) (t t' : TB) (T : List Te) (sb kb : Nat) (Sn : List (Nat × Nat)) (L : List (List UInt8)) (v : Value) : Prop where
  ts : TS wr t' T
  fr : TFr t t' w wr
  sts : StM wr sb Sn
  st : ¬ TF t' sb
  kn : KnM wr kb L
  kt : ¬ TF t' kb
  own : wr.ownsRow w.heap.size 9 1 v L.length (strCells L)
  sb0 : w.heap.size ≤ sb
  kb0 : w.heap.size ≤ kb
  ne : sb ≠ kb
theorem own_besides {w w' : World} {B e size n k0 : Nat} {v : Value} {xs : List Value} {l : List (Value × Value)} (h : w.ownsRow B e size v n xs) (h0 : w.heap[k0]? = some (mkMap l)) (hb : ∀ k, k ≠ k0 → w'.heap[k]? = w.heap[k]?) : w'.ownsRow B e size v n xs := by
  obtain ⟨hl, hx | ⟨g, cap, cur, hv, hb', hg, rest⟩⟩ := h
  · exact ⟨hl, .inl hx⟩
  · refine ⟨hl, .inr ⟨g, cap, cur, hv, hb', by rw [hb g (fun e => by rw [e, h0] at hg; cases hg)]; exact hg, rest⟩⟩
theorem map_cells {w : World} {k0 : Nat} {l : List (Value × Value)} (h0 : w.heap[k0]? = some (mkMap l)) : ∀ cur, w.heap[k0]? ≠ some (.cells cur 21 (0, 0)) := fun cur e => by rw [h0] at e; cases e
section
variable {w wr w1 : World} {t t' t1 : TB} {T : List Te} {sb kb : Nat} {Sn : List (Nat × Nat)} {L : List (List UInt8)} {v : Value}
theorem TlI.tab (h : TlI w wr t t' T sb kb Sn L v) (hT : TS w1 t1 T) (hF : TFr t' t1 wr w1) : TlI w w1 t t1 T sb kb Sn L v := by
  have k1 := hF.kept h.sts.lt h.st
  have k2 := hF.kept h.kn.lt h.kt
  exact ⟨hT, h.fr.trans hF, h.sts.move k1.2.2, k1.2.1, h.kn.move k2.2.2, k2.2.1, own_ts h.own h.ts hF (by decide) (by decide), h.sb0, h.kb0, h.ne⟩
theorem TlI.below (h : TlI w wr t t' T sb kb Sn L v) (hb : Below wr.heap.size wr w1) : TlI w w1 t t' T sb kb Sn L v :=
  ⟨unhide (TS.below (hide h.ts) hb), h.fr.trans (TFr.below hb), h.sts.move (hb.block _ h.sts.lt), h.st, h.kn.move (hb.block _ h.kn.lt), h.kt, own_below h.own hb (Nat.le_refl _), h.sb0, h.kb0, h.ne⟩
theorem TFr.one (h : TFr t t' w wr) {k0 : Nat} (h0 : w.heap.size ≤ k0) (hs : w1.heap.size = wr.heap.size) (ho : w1.os = wr.os) (ht : w1.tape = wr.tape) (hu : w1.output = wr.output) (hb : ∀ k, k ≠ k0 → w1.heap[k]? = wr.heap[k]?) : TFr t t' w w1 :=
  ⟨ho.trans h.os, ht.trans h.tape, hu.trans h.output, by rw [hs]; exact h.size, fun k hk hn => (hb k (by omega)).trans (h.block k hk hn), h.tb, h.nb, h.sb, h.cb, h.row⟩
theorem TlI.known (h : TlI w wr t t' T sb kb Sn L v) (hs : w1.heap.size = wr.heap.size) (ho : w1.os = wr.os) (ht : w1.tape = wr.tape) (hu : w1.output = wr.output) (hb : ∀ k, k ≠ kb → w1.heap[k]? = wr.heap[k]?) : TS w1 t' T ∧ TFr t t' w w1 ∧ StM w1 sb Sn ∧ w1.ownsRow w.heap.size 9 1 v L.length (strCells L) :=
  ⟨unhide (TS.besides (hide h.ts) h.kt (map_cells h.kn.at_) (fun k _ hk => hb k hk)), h.fr.one h.kb0 hs ho ht hu hb, h.sts.move (hb sb h.ne), own_besides h.own h.kn.at_ hb⟩
theorem TlI.stated (h : TlI w wr t t' T sb kb Sn L v) {S1 : List (Nat × Nat)} (hS : StM w1 sb S1) (hs : w1.heap.size = wr.heap.size) (ho : w1.os = wr.os) (ht : w1.tape = wr.tape) (hu : w1.output = wr.output) (hb : ∀ k, k ≠ sb → w1.heap[k]? = wr.heap[k]?) : TlI w w1 t t' T sb kb S1 L v :=
  ⟨unhide (TS.besides (hide h.ts) h.st (map_cells h.sts.at_) (fun k _ hk => hb k hk)), h.fr.one h.sb0 hs ho ht hu hb, hS, h.st, h.kn.move (hb kb (Ne.symm h.ne)), h.kt, own_besides h.own h.sts.at_ hb, h.sb0, h.kb0, h.ne⟩
/-- the lines have grown, what is known of them ahead of that. -/
theorem tl_app {w3 : World} {L1 : List (List UInt8)} {v1 : Value} (h1 : TS wr t' T) (h2 : TFr t t' w wr) (h3 : StM wr sb Sn) (h4 : KnM wr kb L1) (h5 : wr.ownsRow w.heap.size 9 1 v L.length (strCells L)) (hst : ¬ TF t' sb) (hkt : ¬ TF t' kb) (hs0 : w.heap.size ≤ sb) (hk0 : w.heap.size ≤ kb) (hne : sb ≠ kb) (ho : w3.ownsRow w.heap.size 9 1 v1 L1.length (strCells L1)) (hg : GrV wr w3 v) : TlI w w3 t t' T sb kb Sn L1 v1 := by
  have hb : ∀ k, v.ownBlock = some k → w.heap.size ≤ k ∧ ∃ cur, wr.heap[k]? = some (.cells cur 9 (0, 0)) := fun k hk => ⟨(own_blk h5 hk).1, (own_blk h5 hk).2.2⟩
  have hm : ∀ (k : Nat) (l : List (Value × Value)), wr.heap[k]? = some (mkMap l) → w3.heap[k]? = wr.heap[k]? := fun k l hk => hg.block k (Array.getElem?_eq_some_iff.1 hk).1 (fun e => by
    obtain ⟨_, cur, hc⟩ := hb k e
    rw [hc] at hk; cases hk)
  refine ⟨unhide (TS.app (hide h1) h5 hg (by decide) (by decide) (by decide)), ?_, h3.move (hm _ _ h3.at_), hst, h4.move (hm _ _ h4.at_), hkt, ho, hs0, hk0, hne⟩
  exact ⟨hg.os.trans h2.os, hg.tape.trans h2.tape, hg.output.trans h2.output, Nat.le_trans h2.size hg.size, fun k hk hn => (hg.block k (Nat.lt_of_lt_of_le hk h2.size) (fun e => by have := (hb k e).1; omega)).trans (h2.block k hk hn), h2.tb, h2.nb, h2.sb, h2.cb, h2.row⟩
end
theorem line_len {em : Bool} {sp : List Sp} (h1 : sp.length ≤ 12) (h2 : ∀ x ∈ sp, x.2.2 < 100) : (lineP hxT dcT em sp).length ≤ 278 := by
  unfold lineP
  rw [commaL_eq, List.length_cons, List.length_append]
  have h := join_len (M := 22) (sep := [44]) (sp.map (spText hxT dcT)) (fun y hy => by
    obtain ⟨z, hz, rfl⟩ := List.mem_map.1 hy
    exact spText_len (h2 z hz))
  rw [List.length_map] at h
  have h3 : sp.length * (22 + [44].length) ≤ 12 * 23 := Nat.mul_le_mul_right _ h1
  simp only [List.length_cons, List.length_nil] at h h3 ⊢
  omega
/-- what is asked of each number. -/
def NumOk (T : List Te) (clS : Nat → Spans) (em : Nat → Bool) (n : Nat) : Prop := Row T n ∧ ClsR T n (clS n) ∧ ∃ x, T[n]? = some x ∧ x.2 = em n
noncomputable abbrev lnT (T : List Te) (clS : Nat → Spans) (em : Nat → Bool) (G : List (Nat × Nat)) (n : Nat) : List UInt8 := lnOf hxT dcT (stpT T) (fun n => bordersP (clS n)) em (stG G) n
theorem line_ts {w : World} {t : TB} {T : List Te} {n mb : Nat} {G : List (Nat × Nat)} {clS : Nat → Spans} {em : Nat → Bool} (h : Hid (TS w t T)) (hO : TOk T) (hn : NumOk T clS em n) (hM : Hid (StM w mb G)) (hmt : ¬ TF t mb) (hG : ∀ c, stG G c < 100) (hd : Hid (DbOk w)) (hdt : ¬ TF t 3) :
    (Calls Tryz.prog 81 #[.pointer (some ⟨t.tb, 0, none⟩), .int .i64 n, .map (some mb)] w fun e w' => ∃ t' : TB, e = .returned (.string (tx (lnT T clS em G n))) ∧ Hid (TS w' t' T) ∧ Hid (TFr t t' w w')) ∧ (lnT T clS em G n).length ≤ 1000 := by
  obtain ⟨hr, hcl, x, hx, hxe⟩ := hn
  have hc := line_any h hO hr hcl hx hM hmt hG hd hdt
  have e : lineP hxT dcT x.2 (spansP (bordersP (clS n)) fun c => stG G (stpT T n c)) = lnT T clS em G n := by rw [hxe]; rfl
  rw [e] at hc
  refine ⟨hc, ?_⟩
  rw [← e]
  obtain ⟨st, hs⟩ := hcl.set
  refine Nat.le_trans (line_len ?_ (fun y hy => ?_)) (by decide)
  · refine Nat.le_trans (spans_len _ _) ?_
    rw [lowsP_len]
    unfold lowsP
    rw [List.length_map]
    exact hs.few
  · have hrg := spans_rng (cl := bordersP (clS n)) (st := fun c => stG G (stpT T n c)) (fun k hk => by
      have := isSym_iff.1 (hs.sy ((bordersP (clS n)).getD k 0) (by simp [List.getD, hk]))
      omega) (fun k h0 hk => lows_pos hs h0 hk) _ (Nat.le_refl _)
    rw [List.take_length] at hrg
    obtain ⟨_, _, c, e⟩ := hrg y hy
    rw [e]
    exact hG _
end Go.Proofs.YtfolanohokflkabGreatDoor

/-
  tellApart, walked.
-/
namespace Go.Proofs.YtfolanohokflkabGreatDoor
open Go.RowKit
/-- what tellApart leaves. -/
def TlOut (w : World) (t : TB) (T : List Te) (Sn : List (Nat × Nat)) (L : List (List UInt8)) (e : Ending) (w' : World) : Prop :=
  ∃ (t' : TB) (sb cap : Nat) (ao : Option Addr), e = .returned (.tuple #[.map (some sb), .slice ao L.length cap]) ∧ Hid (TS w' t' T) ∧ Hid (TFr t t' w w') ∧ Hid (StM w' sb Sn) ∧ ¬ TF t' sb ∧ w.heap.size ≤ sb ∧ Hid (w'.ownsRow w.heap.size 9 1 (.slice ao L.length cap) L.length (strCells L))
set_option maxRecDepth 100000 in
set_option maxHeartbeats 4000000 in
theorem tell_any {w : World} {t : TB} {T : List Te} {mb lg lcap B : Nat} {G : List (Nat × Nat)} {clS : Nat → Spans} {em : Nat → Bool} {rs : List Rm} (h : Hid (TS w t T)) (hO : TOk T) (hN : ∀ r ∈ rs, NumOk T clS em r.1) (hnd : (rs.map (·.1)).Nodup) (hlen : rs.length ≤ 50) (hl : Hid (w.ownsRow B 137 3 (.slice (some ⟨lg, 0, none⟩) rs.length lcap) rs.length (rmCells rs))) (hM : Hid (StM w mb G)) (hmt : ¬ TF t mb) (hG : ∀ c, stG G c < 100) (hd : Hid (DbOk w)) (hdt : ¬ TF t 3) :
    Calls Tryz.prog 48 #[.pointer (some ⟨t.tb, 0, none⟩), .slice (some ⟨lg, 0, none⟩) rs.length lcap, .map (some mb)] w (TlOut w t T ((rs.map (·.1)).map fun n => (n, (((rs.map (·.1)).map (lnT T clS em G)).foldl addB []).idxOf (lnT T clS em G n))) (((rs.map (·.1)).map (lnT T clS em G)).foldl addB [])) := by
  obtain ⟨-, hlg, curl, hcl⟩ := own_blk (unhide hl) (k := lg) rfl
  have hlt0 : ¬ TF t lg := (unhide h).typed hcl (by decide) (by decide)
  have HLC : Hid (∀ (wr : World) (t' : TB), TFr t t' w wr → ∀ (k : Nat) (x : Rm), rs[k]? = some x → wr.cell? ⟨lg, k * 3, none⟩ = some (.int .i64 (x.1 : Int)) ∧ wr.cell? ⟨lg, k * 3 + 1, none⟩ = some (.int .i64 x.2.1) ∧ wr.cell? ⟨lg, k * 3 + 2, none⟩ = some (.int .i32 x.2.2)) := fun wr t' f k x hx => by
    have hk : k < rs.length := (List.getElem?_eq_some_iff.1 hx).1
    obtain ⟨g0, g1, g2⟩ := rm_get rs k x hx
    have hb := f.block lg hlg hlt0
    refine ⟨?_, ?_, ?_⟩
    · rw [World.cell?_of_block (a := ⟨lg, k * 3, none⟩) hb, (unhide hl).cellAt _ (by omega)]; exact g0
    · rw [World.cell?_of_block (a := ⟨lg, k * 3 + 1, none⟩) hb, (unhide hl).cellAt _ (by omega)]; exact g1
    · rw [World.cell?_of_block (a := ⟨lg, k * 3 + 2, none⟩) hb, (unhide hl).cellAt _ (by omega)]; exact g2
  have HLI : Hid (∀ (wr : World) (t' : TB) (o : Obj), TS wr t' T → TFr t t' w wr → ∀ (k : Nat) (x : Rm), rs[k]? = some x → (Calls Tryz.prog 81 #[.pointer (some ⟨t.tb, 0, none⟩), .int .i64 x.1, .map (some mb)] (wr.alloc o) fun e w' => ∃ t1 : TB, e = .returned (.string (tx (lnT T clS em G x.1))) ∧ Hid (TS w' t1 T) ∧ Hid (TFr t' t1 (wr.alloc o) w')) ∧ (lnT T clS em G x.1).length ≤ 1000 ∧ x.1 ≤ LIM) := fun wr t' o hts f k x hx => by
    have hno := hN x (List.mem_iff_getElem?.2 ⟨k, hx⟩)
    have hf : TFr t t' w (wr.alloc o) := f.trans (TFr.below ((Below.refl _ _).alloc (Nat.le_refl _) o))
    have k1 := hf.kept (unhide hM).lt hmt
    have k2 := hf.kept (unhide hd).lt hdt
    have hc := line_ts (w := wr.alloc o) (t := t') (mb := mb) (G := G) (TS.alloc (hide hts) o) hO hno (hide ((unhide hM).move k1.2.2)) k1.2.1 hG (hide ((unhide hd).move k2.2.2)) k2.2.1
    rw [f.tb] at hc
    exact ⟨hc.1, hc.2, by have := hno.1.lt; have := hO.lim; omega⟩
  have HND := hide hnd
  obtain ⟨ns, hns⟩ : ∃ ns, rs.map (·.1) = ns := ⟨_, rfl⟩
  have HNS := hide hns
  have HNL : Hid (ns.length = rs.length) := by rw [← hns]; exact List.length_map _
  have HGE : Hid (∀ (k : Nat) (x : Rm), rs[k]? = some x → ns[k]? = some x.1) := fun k x hx => by rw [← hns, List.getElem?_map, hx]; rfl
  rw [hns] at HND ⊢
  generalize lnT T clS em G = ln at *
  obtain ⟨FL, hFL⟩ : ∃ FL, (ns.map ln).foldl addB [] = FL := ⟨_, rfl⟩
  rw [hFL]
  have HFL : Hid (∀ k, k ≤ ns.length → ∃ r, FL = ((ns.take k).map ln).foldl addB [] ++ r) := fun k hk => by
    obtain ⟨r, hr⟩ := addB_pre ((ns.drop k).map ln) (((ns.take k).map ln).foldl addB [])
    rw [← List.foldl_append, ← List.map_append, List.take_append_drop, hFL] at hr
    exact ⟨r, hr⟩
  have HF0 := hide hFL
  have HH := h
  clear hcl hlt0 hlg hN hnd hns hFL hM hmt hG hd hdt hl hO h
  generalize hQ : TlOut w t T (ns.map fun n => (n, FL.idxOf (ln n))) FL = QQ
  have HQ := hide hQ
  clear hQ
  have hm1 : ∀ w : World, (Instr.makeMap 102 none).run Tryz.prog w = .ok (.map (some w.heap.size)) (w.alloc (mkMap [])) := fun w => rfl
  have hm2 : ∀ w : World, (Instr.makeMap 139 none).run Tryz.prog w = .ok (.map (some w.heap.size)) (w.alloc (mkMap [])) := fun w => rfl
  have HI0 : Hid (TlI w ((w.alloc (mkMap [])).alloc (mkMap [])) t t T w.heap.size (w.heap.size + 1) [] [] (.slice none 0 0)) := by
    have hz : (w.alloc (mkMap [])).heap.size = w.heap.size + 1 := World.size_alloc _ _
    have hb : Below w.heap.size w ((w.alloc (mkMap [])).alloc (mkMap [])) := ((Below.refl w.heap.size w).alloc (Nat.le_refl _) _).alloc (by rw [hz]; omega) _
    have e1 : ((w.alloc (mkMap [])).alloc (mkMap [])).heap[w.heap.size]? = some (mkMap []) := (Below.heap_alloc _ _ _ (by rw [hz]; omega)).trans (heap_alloc_new w (mkMap []))
    have e2 : ((w.alloc (mkMap [])).alloc (mkMap [])).heap[w.heap.size + 1]? = some (mkMap []) := by
      have := heap_alloc_new (w.alloc (mkMap [])) (mkMap [])
      rw [hz] at this
      exact this
    exact ⟨unhide (TS.below HH hb), TFr.below hb, ⟨e1, (fun p hp => by cases hp), List.nodup_nil⟩, fun e => by have := (unhide HH).foot e; omega, ⟨e2, (fun p hp => by cases hp), List.nodup_nil⟩, fun e => by have := (unhide HH).foot e; omega, World.ownsRow_nil _ _ _ _, Nat.le_refl _, by omega, by omega⟩
  go_enter Tryz.func48, Tryz.ntmps48
  go_wp2_with fail
  generalize (w.alloc (mkMap [])).alloc (mkMap []) = wb at *
  clear hm1 hm2 HH
  go_loopw [7, 18] (fun v i wr => ∃ (k cv m : Nat) (av : Option Addr) (t' : TB) (L : List (List UInt8)), k ≤ rs.length ∧ i = .int .i64 (k : Int) ∧ v = .slice av m cv ∧ Hid (L.length = m) ∧ Hid (L = ((ns.take k).map ln).foldl addB []) ∧ Hid (TlI w wr t t' T w.heap.size (w.heap.size + 1) ((ns.take k).map fun n => (n, FL.idxOf (ln n))) L (.slice av m cv))) (fun _ i _ => rs.length - (intOf i).toNat)
  case atStart => exact ⟨0, 0, 0, none, t, [], Nat.zero_le _, rfl, rfl, rfl, rfl, HI0⟩
  case round =>
    obtain ⟨k, cv, m, av, t', L, hk, rfl, rfl, HM, HL, HI⟩ := hrel
    clear HI0
    by_cases hlt : k < rs.length
    · have hkI : (k : Int) < (rs.length : Int) := by omega
      obtain ⟨⟨n, f, b⟩, hxk⟩ : ∃ x, rs[k]? = some x := ⟨_, List.getElem?_eq_getElem hlt⟩
      obtain ⟨c0, c1, c2⟩ := unhide HLC wr t' (unhide HI).fr k _ hxk
      obtain ⟨hcl, hln, hnl⟩ := unhide HLI wr t' (.cells #[.int .i64 (n : Int), .int .i64 f, .int .i32 b] 137) (unhide HI).ts (unhide HI).fr k _ hxk
      have hnk := unhide HGE k _ hxk
      dsimp only at c0 c1 c2 hcl hln hnl hnk
      have HCL := hide hcl
      have hkn : k < ns.length := (List.getElem?_eq_some_iff.1 hnk).1
      have htk : ns.take (k + 1) = ns.take k ++ [n] := by rw [List.take_add_one, hnk]; rfl
      have HTS : Hid (((ns.take (k + 1)).map fun n => (n, FL.idxOf (ln n))) = ((ns.take k).map fun n => (n, FL.idxOf (ln n))) ++ [(n, FL.idxOf (ln n))]) := by rw [htk, List.map_append]; rfl
      have HTL : Hid (((ns.take (k + 1)).map ln).foldl addB [] = addB L (ln n)) := by rw [htk, List.map_append, List.foldl_append, ← unhide HL]; rfl
      have HNM : Hid (∀ p ∈ (ns.take k).map fun n => (n, FL.idxOf (ln n)), p.1 ≠ n) := fun p hp e => by
        obtain ⟨q, hq, rfl⟩ := List.mem_map.1 hp
        obtain ⟨j, hj⟩ := List.mem_iff_getElem?.1 hq
        have hjk : j < k := by have := (List.getElem?_eq_some_iff.1 hj).1; rw [List.length_take] at this; omega
        rw [List.getElem?_take_of_lt hjk] at hj
        have := (List.getElem?_inj (by omega) (unhide HND)).1 (hj.trans (by rw [hnk]; exact congrArg some e))
        omega
      obtain ⟨r1, hr1⟩ := unhide HFL k (by omega)
      rw [← unhide HL] at hr1
      obtain ⟨r2, hr2⟩ := unhide HFL (k + 1) (by omega)
      rw [unhide HTL] at hr2
      have HA : Hid (TlI w (wr.alloc (.cells #[.int .i64 (n : Int), .int .i64 f, .int .i32 b] 137)) t t' T w.heap.size (w.heap.size + 1) ((ns.take k).map fun n => (n, FL.idxOf (ln n))) L (.slice av m cv)) := (unhide HI).below ((Below.refl _ _).alloc (Nat.le_refl _) _)
      have HPB := hide (heap_alloc_new wr (.cells #[.int .i64 (n : Int), .int .i64 f, .int .i32 b] 137))
      have HPL : Hid (wr.heap.size < (wr.alloc (.cells #[.int .i64 (n : Int), .int .i64 f, .int .i32 b] 137)).heap.size) := by rw [World.size_alloc]; exact Nat.lt_succ_self _
      have HPC := hide (cells_at (w := wr) (o := .cells #[.int .i64 (n : Int), .int .i64 f, .int .i32 b] 137) rfl 0 rfl)
      have HKB : Hid (w.heap.size + 1 ≠ wr.heap.size) := by have := (unhide HI).kn.lt; show _ ≠ _; omega
      have HVB : Hid ((Value.slice av m cv).ownBlock ≠ some wr.heap.size) := fun e => by have := ((unhide HI).own.lt _ e).2; omega
      have hmm : L.length ≤ 100 := by
        have h1 := (unhide HI).kn.nd
        have h2 : L.length ≤ ((ns.take k).map ln).length := by
          have := nodup_le h1 (b := (ns.take k).map ln) (fun y hy => by
            rw [unhide HL, ddL_mem] at hy
            rcases hy with hy | hy
            · cases hy
            · exact hy)
          exact this
        rw [List.length_map, List.length_take] at h2
        omega
      rw [unhide HM] at hmm
      have p0 : wr.cell? ⟨lg, k * 3, none⟩ = some (.int .i64 (n : Int)) := c0
      clear hcl hkn htk p0 HLC HLI
      by_cases hin : ln n ∈ L
      · have HAD : Hid (addB L (ln n) = L) := by unfold addB; rw [if_pos hin]; rfl
        have HIX : Hid (FL.idxOf (ln n) = L.idxOf (ln n)) := by rw [hr1]; exact idx_pre hin
        have HIN := hide hin
        clear hin hr1 hr2
        generalize ln n = x at *
        go_wp2_with (go_at_call 81; refine (unhide HCL).mono ?_; clear HCL; rintro e w2 ⟨t2, rfl, HT2, HF2⟩; have HI2 := hide ((unhide HA).tab (unhide HT2) (unhide HF2)); have hlk := (unhide HI2).kn.hit (unhide HIN); obtain ⟨w5, hput, HS5, s5, o5, a5, u5, b5⟩ := (unhide HI2).sts.put hnl (unhide HNM) (L.idxOf x); have HS5' := hide HS5; have HE5 : Hid (w5.heap.size = w2.heap.size ∧ w5.os = w2.os ∧ w5.tape = w2.tape ∧ w5.output = w2.output ∧ ∀ k, k ≠ w.heap.size → w5.heap[k]? = w2.heap[k]?) := ⟨s5, o5, a5, u5, b5⟩; clear s5 o5 a5 u5 b5 HS5; have p0 : w2.cell? ⟨wr.heap.size, 0, none⟩ = some (.int .i64 (n : Int)) := (by rw [World.cell?_of_block (a := ⟨wr.heap.size, 0, none⟩) ((unhide HF2).block _ (unhide HPL) ((unhide HA).ts.typed (unhide HPB) (by decide) (by decide)))]; exact unhide HPC))
        obtain ⟨s5, o5, a5, u5, b5⟩ := unhide HE5
        refine ⟨⟨k + 1, cv, m, av, t2, L, by omega, by go_num, rfl, HM, ?_, ?_⟩, ?_⟩
        · exact ((unhide HTL).trans (unhide HAD)).symm
        · rw [unhide HTS, unhide HIX]
          exact (unhide HI2).stated (unhide HS5') s5 o5 a5 u5 b5
        · simp [intOf]
          omega
      · have HAD : Hid (addB L (ln n) = L ++ [ln n]) := by unfold addB; rw [if_neg hin]; rfl
        have HIX : Hid (FL.idxOf (ln n) = m) := by
          rw [unhide HAD] at hr2
          rw [hr2, ← unhide HM]
          exact idx_new hin r2
        have HIN := hide hin
        clear hin hr1 hr2
        generalize ln n = x at *
        go_wp2_with (first
          | (go_at_call 81; refine (unhide HCL).mono ?_; clear HCL; rintro e w2 ⟨t2, rfl, HT2, HF2⟩; have HI2 := hide ((unhide HA).tab (unhide HT2) (unhide HF2)); have hlk := (unhide HI2).kn.miss (unhide HIN) hln; obtain ⟨w3, hput3, HK3, s3, o3, a3, u3, b3⟩ := (unhide HI2).kn.put (unhide HIN) hln; rw [unhide HM] at hput3; have HK3' := hide HK3; obtain ⟨T3, F3, S3, O3⟩ := (unhide HI2).known s3 o3 a3 u3 b3; have HX3 : Hid (TS w3 t2 T ∧ TFr t t2 w w3 ∧ StM w3 w.heap.size ((ns.take k).map fun n => (n, FL.idxOf (ln n)))) := ⟨T3, F3, S3⟩; have HO3 := hide O3; have hs3 := F3.size; have hp3 : w3.heap[wr.heap.size]? = some (.cells #[.int .i64 (n : Int), .int .i64 f, .int .i32 b] 137) := (by rw [b3 _ (Ne.symm (unhide HKB)), (unhide HF2).block _ (unhide HPL) ((unhide HA).ts.typed (unhide HPB) (by decide) (by decide))]; exact unhide HPB); have HP3 := hide hp3; rw [unhide HM] at HO3; clear HK3 s3 o3 a3 u3 b3 T3 F3 S3 O3 hp3)
          | (at_builtin; refine app_gen Tryz.underlying28 infoStr rfl (by decide) (by decide) w.heap.size w3 m (strCells L) [.string (tx x)] (.slice av m cv) (.tmp 40) (.tmp 42) rfl rfl rfl w3.heap.size rfl rfl HO3 hs3 (by omega) rfl (by intro u hu; simp at hu; rw [hu]; rfl) ?_; intro g4 cap4 w4 HO4 HG4; have HI4 : Hid (TlI w w4 t t2 T w.heap.size (w.heap.size + 1) ((ns.take k).map fun n => (n, FL.idxOf (ln n))) (L ++ [x]) (.slice (some ⟨g4, 0, none⟩) (m + 1) cap4)) := (tl_app (L := L) (v := .slice av m cv) (unhide HX3).1 (unhide HX3).2.1 (unhide HX3).2.2 (unhide HK3') (by rw [unhide HM]; exact unhide HO3) (unhide HI2).st (unhide HI2).kt (unhide HI2).sb0 (unhide HI2).kb0 (unhide HI2).ne (by rw [List.length_append, unhide HM, strCells_append]; exact unhide HO4) (unhide HG4)); obtain ⟨w5, hput, HS5, s5, o5, a5, u5, b5⟩ := (unhide HI4).sts.put hnl (unhide HNM) m; have HS5' := hide HS5; have HE5 : Hid (w5.heap.size = w4.heap.size ∧ w5.os = w4.os ∧ w5.tape = w4.tape ∧ w5.output = w4.output ∧ ∀ k, k ≠ w.heap.size → w5.heap[k]? = w4.heap[k]?) := ⟨s5, o5, a5, u5, b5⟩; clear s5 o5 a5 u5 b5 HS5; have p0 : w4.cell? ⟨wr.heap.size, 0, none⟩ = some (.int .i64 (n : Int)) := (by rw [World.cell?_of_block (a := ⟨wr.heap.size, 0, none⟩) ((unhide HG4).block _ (Array.getElem?_eq_some_iff.1 (unhide HP3)).1 (unhide HVB))]; simp [World.cell?, unhide HP3])))
        obtain ⟨s5, o5, a5, u5, b5⟩ := unhide HE5
        refine ⟨⟨k + 1, cap4, m + 1, some ⟨g4, 0, none⟩, t2, L ++ [x], by omega, by go_num, rfl, ?_, ?_, ?_⟩, ?_⟩
        · show (L ++ [x]).length = m + 1
          rw [List.length_append, unhide HM]
          rfl
        · exact ((unhide HTL).trans (unhide HAD)).symm
        · rw [unhide HTS, unhide HIX]
          exact (unhide HI4).stated (unhide HS5') s5 o5 a5 u5 b5
        · simp [intOf]
          omega
    · have hkl : k = rs.length := by omega
      have hkn : k = ns.length := by have := unhide HNL; omega
      have e1 : ns.take k = ns := by rw [hkn]; exact List.take_length
      rw [e1] at HL HI
      have e2 : L = FL := (unhide HL).trans (unhide HF0)
      subst e2
      have hm := unhide HM
      subst hm
      clear HL HM HFL HF0 HLC HLI
      go_wp2_with fail
      rw [← unhide HQ]
      exact ⟨t', w.heap.size, cv, av, rfl, (unhide HI).ts, (unhide HI).fr, (unhide HI).sts, (unhide HI).st, (unhide HI).sb0, (unhide HI).own⟩
end Go.Proofs.YtfolanohokflkabGreatDoor

/-
  remainders: what it keeps beside the table.
-/
namespace Go.Proofs.YtfolanohokflkabGreatDoor
open Go.RowKit
/-- on the way through the remainders of a term: the table, what has been met, the list. -/
structure RmI (w wr : World) (t t' : TB) (T : List Te) (mb qb : Nat) (B : Int) (rs : List Rm) (v : Value) : Prop where
  ts : TS wr t' T
  fr : TFr t t' w wr
  met : Met wr mb (rs.map (·.1))
  mt : ¬ TF t' mb
  mb0 : w.heap.size ≤ mb
  own : wr.ownsRow w.heap.size 137 3 v rs.length (rmCells rs)
  box : wr.heap[qb]? = some (.cells #[.int .i64 B, .map (some mb)] 112)
section
variable {w wr w1 : World} {t t' t1 : TB} {T : List Te} {mb qb : Nat} {B : Int} {rs : List Rm} {v : Value}
theorem RmI.tab (h : RmI w wr t t' T mb qb B rs v) (hT : TS w1 t1 T) (hF : TFr t' t1 wr w1) : RmI w w1 t t1 T mb qb B rs v := by
  have hml : mb < wr.heap.size := (Array.getElem?_eq_some_iff.1 h.met.at_).1
  have k1 := hF.kept hml h.mt
  exact ⟨hT, h.fr.trans hF, h.met.move k1.2.2, k1.2.1, h.mb0, own_ts h.own h.ts hF (by decide) (by decide), (hF.block qb (Array.getElem?_eq_some_iff.1 h.box).1 (h.ts.typed h.box (by decide) (by decide))).trans h.box⟩
/-- one more has been met: the list ahead of that. -/
structure RmM (w wr : World) (t t' : TB) (T : List Te) (mb qb : Nat) (B : Int) (M : List Nat) (rs : List Rm) (v : Value) : Prop where
  ts : TS wr t' T
  fr : TFr t t' w wr
  met : Met wr mb M
  mt : ¬ TF t' mb
  mb0 : w.heap.size ≤ mb
  own : wr.ownsRow w.heap.size 137 3 v rs.length (rmCells rs)
  box : wr.heap[qb]? = some (.cells #[.int .i64 B, .map (some mb)] 112)
theorem RmI.meet (h : RmI w wr t t' T mb qb B rs v) {M : List Nat} (hM : Met w1 mb M) (hs : wr.heap.size ≤ w1.heap.size) (ho : w1.os = wr.os) (ht : w1.tape = wr.tape) (hu : w1.output = wr.output) (hb : ∀ k, k < wr.heap.size → k ≠ mb → w1.heap[k]? = wr.heap[k]?) : RmM w w1 t t' T mb qb B M rs v := by
  refine ⟨unhide (TS.besides (hide h.ts) h.mt (map_cells h.met.at_) (fun k hl hk => hb k hl hk)), ?_, hM, h.mt, h.mb0, ?_, (hb qb (Array.getElem?_eq_some_iff.1 h.box).1 (fun e => by have := h.met.at_; rw [← e, h.box] at this; cases this)).trans h.box⟩
  · have hm0 := h.mb0
    exact ⟨ho.trans h.fr.os, ht.trans h.fr.tape, hu.trans h.fr.output, Nat.le_trans h.fr.size hs, fun k hk hn => (hb k (Nat.lt_of_lt_of_le hk h.fr.size) (by omega)).trans (h.fr.block k hk hn), h.fr.tb, h.fr.nb, h.fr.sb, h.fr.cb, h.fr.row⟩
  · obtain ⟨hl, hx | ⟨g, cap, cur, hv, hb', hg, rest⟩⟩ := h.own
    · exact ⟨hl, .inl hx⟩
    · refine ⟨hl, .inr ⟨g, cap, cur, hv, hb', by rw [hb g (Array.getElem?_eq_some_iff.1 hg).1 (fun e => by have := h.met.at_; rw [← e, hg] at this; cases this)]; exact hg, rest⟩⟩
theorem RmM.same {M : List Nat} (h : RmM w wr t t' T mb qb B M rs v) (e : M = rs.map (·.1)) : RmI w wr t t' T mb qb B rs v := by
  subst e
  exact ⟨h.ts, h.fr, h.met, h.mt, h.mb0, h.own, h.box⟩
theorem RmM.app {M : List Nat} (h : RmM w wr t t' T mb qb B M rs v) {v1 : Value} {x : Rm} (e : M = (rs ++ [x]).map (·.1)) (ho : w1.ownsRow w.heap.size 137 3 v1 (rs ++ [x]).length (rmCells (rs ++ [x]))) (hg : GrV wr w1 v) : RmI w w1 t t' T mb qb B (rs ++ [x]) v1 := by
  subst e
  have hb : ∀ k, v.ownBlock = some k → w.heap.size ≤ k ∧ ∃ cur, wr.heap[k]? = some (.cells cur 137 (0, 0)) := fun k hk => ⟨(own_blk h.own hk).1, (own_blk h.own hk).2.2⟩
  have hml : mb < wr.heap.size := (Array.getElem?_eq_some_iff.1 h.met.at_).1
  refine ⟨unhide (TS.app (hide h.ts) h.own hg (by decide) (by decide) (by decide)), ?_, h.met.move (hg.block mb hml (fun e => ?_)), h.mt, h.mb0, ho, (hg.block qb (Array.getElem?_eq_some_iff.1 h.box).1 (fun e => ?_)).trans h.box⟩
  · exact ⟨hg.os.trans h.fr.os, hg.tape.trans h.fr.tape, hg.output.trans h.fr.output, Nat.le_trans h.fr.size hg.size, fun k hk hn => (hg.block k (Nat.lt_of_lt_of_le hk h.fr.size) (fun e => by have := (hb k e).1; omega)).trans (h.fr.block k hk hn), h.fr.tb, h.fr.nb, h.fr.sb, h.fr.cb, h.fr.row⟩
  · obtain ⟨_, cur, hc⟩ := hb mb e
    have := h.met.at_
    rw [hc] at this; cases this
  · obtain ⟨_, cur, hc⟩ := hb qb e
    rw [h.box] at hc; injection hc with hc; injection hc with _ e'; exact absurd e' (by decide)
/-- a row of symbols, besides. -/
theorem row_meet {g cap : Nat} {lows : List Int} (h : RowAt wr t' g cap lows) {l : List (Value × Value)} (hm : wr.heap[mb]? = some (mkMap l)) (hb : ∀ k, k < wr.heap.size → k ≠ mb → w1.heap[k]? = wr.heap[k]?) : RowAt w1 t' g cap lows := by
  obtain ⟨cur, hc⟩ := h.block
  exact h.move (hb g h.lt (fun e => by rw [← e, hc] at hm; cases hm))
theorem row_app {g cap B0 n : Nat} {lows : List Int} {xs : List Value} (h : RowAt wr t' g cap lows) (ho : wr.ownsRow B0 137 3 v n xs) (hg : GrV wr w1 v) : RowAt w1 t' g cap lows := by
  obtain ⟨cur, hc⟩ := h.block
  refine h.move (hg.block g h.lt (fun e => ?_))
  obtain ⟨_, _, cur', hc'⟩ := own_blk ho e
  rw [hc] at hc'; injection hc' with hc'; injection hc' with _ e'; exact absurd e' (by decide)
end
/-- the list is closed as far as it has been gone through. -/
structure Cls (T : List Te) (P : Nat → Prop) (lows : Nat → List Int) (rs : List Rm) (place : Nat) (n0 : Nat) : Prop where
  first : ∃ y, rs[0]? = some y ∧ y.1 = n0
  ok : ∀ r ∈ rs, P r.1
  nd : (rs.map (·.1)).Nodup
  cl : ∀ (i : Nat) (x : Rm), i < place → rs[i]? = some x → ∀ c ∈ lows x.1, stpT T x.1 c ∈ rs.map (·.1)
theorem addM_in {rs : List Rm} {n : Nat} (h : n ∈ rs.map (·.1)) : addM (rs.map (·.1)) n = rs.map (·.1) := by unfold addM; rw [if_pos h]
theorem addM_out {rs : List Rm} {n : Nat} {a b : Int} (h : n ∉ rs.map (·.1)) : addM (rs.map (·.1)) n = (rs ++ [(n, a, b)]).map (·.1) := by unfold addM; rw [if_neg h, List.map_append]; rfl
section
variable {T : List Te} {P : Nat → Prop} {lows : Nat → List Int} {rs : List Rm} {place n0 : Nat}
theorem Cls.app (h : Cls T P lows rs place n0) {x : Rm} (hx : P x.1) (hn : x.1 ∉ rs.map (·.1)) (hp : place ≤ rs.length) : Cls T P lows (rs ++ [x]) place n0 := by
  refine ⟨?_, fun r hr => ?_, ?_, fun i y hi hy c hc => ?_⟩
  · obtain ⟨y, h1, h2⟩ := h.first
    exact ⟨y, by rw [List.getElem?_append_left (List.getElem?_eq_some_iff.1 h1).1]; exact h1, h2⟩
  · rcases List.mem_append.1 hr with h1 | h1
    · exact h.ok r h1
    · rw [List.mem_singleton] at h1; rw [h1]; exact hx
  · rw [List.map_append]
    refine List.nodup_append.2 ⟨h.nd, by simp, fun a ha c hc e => hn ?_⟩
    simp at hc
    rw [← hc, ← e]; exact ha
  · have hlt : i < rs.length := by omega
    rw [List.getElem?_append_left hlt] at hy
    rw [List.map_append]
    exact List.mem_append.2 (.inl (h.cl i y hi hy c hc))
theorem Cls.next (h : Cls T P lows rs place n0) {x : Rm} (hx : rs[place]? = some x) (hc : ∀ c ∈ lows x.1, stpT T x.1 c ∈ rs.map (·.1)) : Cls T P lows rs (place + 1) n0 := by
  refine ⟨h.first, h.ok, h.nd, fun i y hi hy c hc' => ?_⟩
  by_cases e : i = place
  · subst e
    rw [hx] at hy
    injection hy with hy
    subst hy
    exact hc c hc'
  · exact h.cl i y (by omega) hy c hc'
end
end Go.Proofs.YtfolanohokflkabGreatDoor
