import Derived.Test.YtfolanohokflkabGreatDoorNdR
import Derived.WalkKit
import Derived.WalkSpells
import Derived.WalkLawsBesides
import Derived.WalkMore
namespace Go.Proofs.YtfolanohokflkabGreatDoor
open Go.RowKit
section
variable {w0 w : World} {b : Nat} {s : ByteArray} {d : Int} {l : List Sy}
set_option maxRecDepth 100000 in
set_option maxHeartbeats 4000000 in
theorem qRowEnd (h : Hid (PL w0 w b s d l)) {v : Bool} (hv : Hid (rowEnd (hd l) = v)) :
    Calls Tryz.prog 262 #[.pointer (some ⟨b, 0, none⟩)] w fun x w' => x = .returned (.bool v) ∧ Hid (PL w0 w' b s d l) := by
  have hge := hd_ge' l
  by_cases hb : hd l < 0 ∨ hd l = 124 ∨ hd l = 38 ∨ hd l = 41
  · obtain rfl : v = true := by rw [← unhide hv]; simpa [rowEnd] using hb
    have hb2 : hd l = -1 ∨ hd l = 124 ∨ hd l = 38 ∨ hd l = 41 := by omega
    clear hb hge hv
    rcases hb2 with hb | hb | hb | hb
    all_goals
      have HCC := hide hb
      clear hb
      go_enter Tryz.func262, Tryz.ntmps262
      go_wp2_with (first
        | (go_at_call 233; refine (qLook h HCC).mono ?_; clear h; rintro x w1 ⟨rfl, HS⟩))
      go_ret
      exact ⟨rfl, HS⟩
  · obtain rfl : v = false := by rw [← unhide hv]; simpa [rowEnd] using hb
    obtain ⟨c, hcc⟩ : ∃ c, hd l = c := ⟨_, rfl⟩
    have HCC := hide hcc
    rw [hcc] at hb
    have k1 : (c == 124) = false := by simp; omega
    have k2 : (c == 38) = false := by simp; omega
    have k3 : (c == 41) = false := by simp; omega
    have k4 : (c == -1) = false := by simp; omega
    clear hb hge hv hcc
    go_enter Tryz.func262, Tryz.ntmps262
    go_wp2_with (first
      | (go_at_call 233; refine (qLook h HCC).mono ?_; clear h; rintro x w1 ⟨rfl, HS⟩))
    go_ret
    exact ⟨rfl, HS⟩


/-- the items of a row that are read, and what is left. -/
def RowI (n : Nat) (at_ : List Sy → Res Pn) (R : Res Pn) (ps : List Pn) (l : List Sy) : Prop :=
  (ps = [] ∧ rowP n at_ l = R) ∨ (ps ≠ [] ∧ ∃ f, l.length < f ∧ mapR mkRow (rowLoopP n at_ f ps l) = R)
theorem RowI.fin {n : Nat} {at_ : List Sy → Res Pn} {R : Res Pn} {ps : List Pn} {l : List Sy} (h : RowI n at_ R ps l) (he : rowEnd (hd l) = true) : R = .ok (mkRow ps, l) := by
  rcases h with ⟨rfl, h⟩ | ⟨_, f, hf, h⟩
  · rw [← h, rowP, if_pos he]
  · obtain ⟨f, rfl⟩ : ∃ f', f = f' + 1 := ⟨f - 1, by omega⟩
    rw [← h, rowLoopP, if_pos he]; rfl
theorem RowI.err {n : Nat} {at_ : List Sy → Res Pn} {R : Res Pn} {ps : List Pn} {l : List Sy} (h : RowI n at_ R ps l) (he : ¬ rowEnd (hd l) = true) {y : Int × Int} (hi : itemP n at_ (l.length + 1) l = .error y) : R = .error y := by
  rcases h with ⟨rfl, h⟩ | ⟨_, f, hf, h⟩
  · rw [← h, rowP, if_neg he, hi]
  · obtain ⟨f, rfl⟩ : ∃ f', f = f' + 1 := ⟨f - 1, by omega⟩
    rw [← h, rowLoopP, if_neg he, hi]; rfl
theorem RowI.next {n : Nat} {at_ : List Sy → Res Pn} {R : Res Pn} {ps : List Pn} {l l1 : List Sy} (h : RowI n at_ R ps l) (he : ¬ rowEnd (hd l) = true) {y : Pn} (hi : itemP n at_ (l.length + 1) l = .ok (y, l1)) (hl : l1.length < l.length) : RowI n at_ R (ps ++ [y]) l1 := by
  rcases h with ⟨rfl, h⟩ | ⟨_, f, hf, h⟩
  · exact .inr ⟨by simp, l1.length + 1, Nat.lt_succ_self _, by rw [← h, rowP, if_neg he, hi]; rfl⟩
  · obtain ⟨f, rfl⟩ : ∃ f', f = f' + 1 := ⟨f - 1, by omega⟩
    exact .inr ⟨by simp, f, by omega, by rw [← h, rowLoopP, if_neg he, hi]⟩
/-- 'm = append(m, n)', m a slice of nodes of the call's own. -/
theorem app_nd {ops : Array Oper} {rest : List Oper} {o : Oper} {a : Act} {Q : Exit → Act → World → Prop} (B : Nat) (wr : World) (nds : List Nd) (n : Nd) (v : Value) (so xo : Operand) (hg : o.guard = none)
    (hop : o.op = .call { callee := .builtin .append, args := #[so, xo], argTypes := #[48, 48] }) (hs : a.eval so = v) (hx : a.eval xo = .slice (some ⟨wr.heap.size, 0, none⟩) 1 1)
    (ho : Hid (wr.ownsRow B 53 7 v nds.length (ndCells nds))) (hB : B ≤ wr.heap.size) (hl : nds.length ≤ 2000)
    (K : ∀ g cap w', Hid (w'.ownsRow B 53 7 (.slice (some ⟨g, 0, none⟩) (nds.length + 1) cap) (nds ++ [n]).length (ndCells (nds ++ [n]))) → Hid ((wr.alloc (obNd n)).grownBy w' v.ownBlock) → Hid (v.ownBlock = some g ∨ g = wr.heap.size + 1) → wpList Tryz.prog ops Q rest (a.put o.dst (.slice (some ⟨g, 0, none⟩) (nds.length + 1) cap)) w') :
    wpList Tryz.prog ops Q (o :: rest) a (wr.alloc (obNd n)) := by
  obtain ⟨i0, hi0, hz0, hz1, hz2⟩ := info_parts infoNd
  refine wpList_append_lies _ hg so xo 48 hop B 53 i0 (vNd nd0) 7 80 Tryz.underlying48 hi0 hz0 hz1 hz2 rfl (by decide) _ _ _ hs ((unhide ho).alloc _) ⟨wr.heap.size, 0, none⟩ 1 1 (cNd n) hx rfl (cells_new wr (cNd n) _) ?_ (by decide) (by unfold maxLen; omega) (by omega) (by simp; omega) (wr.heap.size + 1) (by simp) ?_
  · intro u hu
    simp only [cNd, List.mem_cons, List.not_mem_nil, or_false] at hu
    rcases hu with rfl | rfl | rfl | rfl | rfl | rfl | rfl <;> rfl
  · intro g cap w' h1 h2 h3 _
    have e : (nds ++ [n]).length = nds.length + 1 := by simp
    have e2 : ndCells (nds ++ [n]) = ndCells nds ++ cNd n := by rw [ndCells_append]; simp [ndCells]
    exact K g cap w' (by rw [e, e2]; exact h1) h2 h3
/-- the slice of a row or of parts, between two rounds. -/
def PtsP (w1 wr : World) (v : Value) (nds : List Nd) (ps : List Pn) : Prop :=
  wr.ownsRow w1.heap.size 53 7 v nds.length (ndCells nds) ∧ AllOK wr (fun j => w1.heap.size ≤ j ∧ v.ownBlock ≠ some j) nds ps ∧ AllB ps
theorem PtsP.up {w1 wr w2 : World} {v : Value} {nds : List Nd} {ps : List Pn} (h : Hid (PtsP w1 wr v nds ps)) (hb : b < w1.heap.size) (hu : Up b wr w2) : Hid (PtsP w1 w2 v nds ps) := by
  obtain ⟨h1, h2, h3⟩ := unhide h
  exact ⟨own_up h1 hu fun e => by have := (h1.lt _ e).1; omega, h2.move fun j hj hl => ⟨hu.block j hl (by omega), hj⟩, h3⟩
theorem PtsP.next {w1 w2 w3 w5 : World} {v : Value} {nds : List Nd} {ps : List Pn} {n : Nd} {y : Pn} {g cap : Nat} (h2 : Hid (PtsP w1 w2 v nds ps)) (h3 : Hid (PtsP w1 w3 v nds ps)) (hn : Hid (NodeOK w3 (fun j => w2.heap.size ≤ j) n y)) (hs : w1.heap.size ≤ w2.heap.size) (hy0 : 0 ≤ y.2) (hy61 : y.2 ≤ 61)
    (ho : Hid (w5.ownsRow w1.heap.size 53 7 (.slice (some ⟨g, 0, none⟩) (nds.length + 1) cap) (nds ++ [n]).length (ndCells (nds ++ [n])))) (hg : Hid ((w3.alloc (obNd n)).grownBy w5 v.ownBlock)) (hat : Hid (v.ownBlock = some g ∨ g = w3.heap.size + 1)) :
    Hid (PtsP w1 w5 (.slice (some ⟨g, 0, none⟩) (nds.length + 1) cap) (nds ++ [n]) (ps ++ [y])) := by
  obtain ⟨a1, a2, a3⟩ := unhide h3
  obtain ⟨b1, -, -⟩ := unhide h2
  have hat' := unhide hat
  have hbl : ∀ j, j < w3.heap.size → v.ownBlock ≠ some j → w5.heap[j]? = w3.heap[j]? := fun j hj hne => ((unhide hg).block j (by simp; omega) (fun e => hne e.symm)).trans (Below.heap_alloc w3 _ j hj)
  have hgj : ∀ j, j < w3.heap.size → v.ownBlock ≠ some j → (Value.slice (some ⟨g, 0, none⟩) (nds.length + 1) cap).ownBlock ≠ some j := by
    intro j hj hne e
    have e' : g = j := by simpa [Value.ownBlock] using e
    subst e'
    rcases hat' with h | h
    · exact hne h
    · omega
  refine ⟨ho, AllOK.snoc (a2.move fun j hj hl => ⟨hbl j hl hj.2, hj.1, hgj j hl hj.2⟩) (unhide (NodeOK.move hn fun j hj hl => ?_)), a3.snoc hy0 hy61⟩
  have hne : v.ownBlock ≠ some j := fun e => by have := (b1.lt j e).2; omega
  exact ⟨hbl j hl hne, by omega, hgj j hl hne⟩
end
end Go.Proofs.YtfolanohokflkabGreatDoor

namespace Go.Proofs.YtfolanohokflkabGreatDoor
open Go.RowKit
section
variable {w0 w : World} {b : Nat} {s : ByteArray} {d : Int} {l : List Sy}
theorem pts_parts {w1 W : World} {ao : Option Addr} {n cap : Nat} {nds : List Nd} {ps : List Pn} (h : PtsP w1 W (.slice ao n cap) nds ps) : PartsV W (fun j => w1.heap.size ≤ j) (.slice ao n cap) nds :=
  ⟨h.1.mono (Nat.zero_le _), fun k hk => (h.1.lt k hk).1⟩
theorem pts_all {w1 W : World} {v : Value} {nds : List Nd} {ps : List Pn} (h : PtsP w1 W v nds ps) : AllOK W (fun j => w1.heap.size ≤ j) nds ps := h.2.1.move fun _ hj _ => ⟨rfl, hj.1⟩
theorem pts_row {w1 W : World} {ao : Option Addr} {n cap : Nat} {nds : List Nd} {ps : List Pn} (h : PtsP w1 W (.slice ao n cap) nds ps) (hne : ps ≠ []) : NodeOK W (fun j => w1.heap.size ≤ j) ⟨3, ao, n, cap, ⟨#[]⟩, 0, 0, 0, zOf ps⟩ (mkRow ps) := by
  have hA := pts_all h
  have hP := pts_parts h
  refine ⟨(mkRow_size h.2.2 hne).symm, ?_⟩
  unfold mkRow
  split
  · rename_i p
    obtain ⟨m, rfl⟩ : ∃ m, nds = [m] := List.length_eq_one_iff.1 hA.1
    exact .one (.inr (.inr rfl)) hP (hA.2 0 (by simp) (by simp)).2
  · refine .row rfl hP (by simp [hA.1]) fun i h1 h2 => ?_
    rw [List.getElem_map]
    exact (hA.2 i h1 (by simpa using h2)).2
theorem pts_grp {w1 W : World} {ao : Option Addr} {n cap : Nat} {nds : List Nd} {ps : List Pn} (k : Bool) (h : PtsP w1 W (.slice ao n cap) nds ps) : NodeOK W (fun j => w1.heap.size ≤ j) ⟨if k = true then 2 else 1, ao, n, cap, ⟨#[]⟩, 0, 0, 0, zOf ps⟩ (mkGrp k ps) := by
  have hA := pts_all h
  have hP := pts_parts h
  refine ⟨(mkGrp_size h.2.2).symm, ?_⟩
  generalize hsh : (if k = true then (2 : Int) else 1) = sh
  unfold mkGrp
  split
  · rename_i p
    obtain ⟨m, rfl⟩ : ∃ m, nds = [m] := List.length_eq_one_iff.1 hA.1
    exact .one (by subst hsh; cases k <;> simp) hP (hA.2 0 (by simp) (by simp)).2
  · refine .grp hsh.symm hP (by simp [hA.1]) fun i h1 h2 => ?_
    rw [List.getElem_map]
    exact (hA.2 i h1 (by simpa using h2)).2
theorem PtsP.below {w1 wr w2 : World} {v : Value} {nds : List Nd} {ps : List Pn} (h : Hid (PtsP w1 wr v nds ps)) (hb : Below wr.heap.size wr w2) : Hid (PtsP w1 w2 v nds ps) := by
  obtain ⟨h1, h2, h3⟩ := unhide h
  exact ⟨own_move h1 fun k _ hl => hb.block k hl, h2.move fun j hj hl => ⟨hb.block j hl, hj⟩, h3⟩
def RowP (R : Res Pn) (at_ : List Sy → Res Pn) (w1 wr : World) (b : Nat) (s : ByteArray) (d : Int) (v : Value) (n : Nat) : Prop :=
  ∃ l nds ps, RowI s.size at_ R ps l ∧ n = nds.length ∧ ps.length + l.length ≤ 60 ∧ Hid (PtsP w1 wr v nds ps) ∧ Hid (PL w1 wr b s d l)
/-- of an item: it takes a symbol at least, and its size is small. -/
abbrev ItmB (n : Nat) (at_ : List Sy → Res Pn) : Prop := ∀ l v l', itemP n at_ (l.length + 1) l = .ok (v, l') → l'.length < l.length ∧ 0 ≤ v.2 ∧ v.2 ≤ 61

set_option maxRecDepth 100000 in
set_option maxHeartbeats 8000000 in
theorem qRow {at_ : List Sy → Res Pn} (HI : Hid (PartC 263 (fun l => itemP s.size at_ (l.length + 1) l) b s d)) (HLn : Hid (ItmB s.size at_)) : PartC 232 (rowP s.size at_) b s d := by
  intro w l h
  obtain ⟨R, hR⟩ : ∃ R, rowP s.size at_ l = R := ⟨_, rfl⟩
  rw [hR]
  have hbw := PL.lt h
  have HUE : Hid (∀ w', Hid (Up b (w.alloc (obNd nd0)) w') → Hid (Up b w w')) := fun w' hu => up_entry h hu
  have HPE : Hid (∀ w' l' n, Hid (PL (w.alloc (obNd nd0)) w' b s d l') → Hid (PL w (setNd w' w.heap.size n) b s d l')) := fun w' l' n h' => pl_exit7 h h' n
  have HAT := hide (NdAt.new w nd0)
  have hsz1 : (w.alloc (obNd nd0)).heap.size = w.heap.size + 1 := by simp
  have HP : Hid (RowP R at_ (w.alloc (obNd nd0)) (w.alloc (obNd nd0)) b s d (.slice none 0 0) 0) := ⟨l, [], [], .inl ⟨rfl, hR⟩, rfl, by have := PL.len h; simpa using this, ⟨World.ownsRow_nil _ _ _ _, ⟨rfl, fun i h => absurd h (by simp)⟩, fun p hp => absurd hp (by simp)⟩, pl_entry h (obNd nd0)⟩
  clear hR h
  go_enter Tryz.func232, Tryz.ntmps232
  go_wp2_with fail
  go_loopw [3] (fun v wr => ∃ ao n cap, v = .slice ao n cap ∧ Hid (RowP R at_ (w.alloc (obNd nd0)) wr b s d (.slice ao n cap) n)) (fun _ wr => left s b wr)
  case atStart => exact ⟨none, 0, 0, rfl, HP⟩
  case round =>
    clear HP
    obtain ⟨ao, n, cap, rfl, HP⟩ := hrel
    obtain ⟨l', nds, ps, hri, hn, hlen, HPT, HS⟩ := unhide HP
    have HL := hide (PL.left HS)
    have hs1 := (PL.up HS).size
    have hb1 : b < (w.alloc (obNd nd0)).heap.size := by omega
    have hnl : nds.length = ps.length := (unhide HPT).2.1.1
    clear HP
    cases he : rowEnd (hd l') with
    | true =>
      have HX := hide (hri.fin he)
      have HE := hide he
      clear hri he HL
      by_cases h0 : nds.length = 0
      · have hn0 : n = 0 := by omega
        subst hn0
        have hps : ps = [] := List.eq_nil_of_length_eq_zero (by omega)
        subst hps
        clear h0 hn hnl hlen
        go_wp2_with (go_at_call 262; refine (qRowEnd HS HE).mono ?_; rintro x w2 ⟨rfl, HS2⟩; have HR2 := NdAt.up HAT (PL.up HS2) (by omega); obtain ⟨c0, c1, c2, c3, c4, c5, c6⟩ := NdAt.cells (unhide HR2); have cf := NdAt.fz (unhide HR2))
        change bodyPost _ _ _ _ _ (setNd w2 w.heap.size ⟨3, none, 0, 0, ⟨#[]⟩, 0, 0, 0, 1⟩)
        refine node_ret (rb := w.heap.size) (n := ⟨3, none, 0, 0, ⟨#[]⟩, 0, 0, 0, 1⟩) 2 rfl rfl rfl (hide (NdAt.set (unhide HR2))) ?_
        rw [unhide HX]
        exact ⟨_, rfl, ⟨rfl, .row (nds := []) rfl ⟨World.ownsRow_nil _ _ _ _, fun k hk => absurd hk (by simp [Value.ownBlock])⟩ rfl fun i h => absurd h (by simp)⟩, unhide HPE _ _ _ HS2⟩
      · have hne : ps ≠ [] := fun e => h0 (by rw [hnl, e]; rfl)
        have hnI : ((n : Int) == 0) = false := by simp; omega
        have hn62 : nds.length ≤ 62 := by omega
        have hn1 : 0 < nds.length := by omega
        subst hn
        clear h0 hlen
        have HNL := hide hnl
        clear hnl
        go_wp2_with (first
          | (go_at_call 262; refine (qRowEnd (PL.base HS) HE).mono ?_; rintro x w2 ⟨rfl, HS2⟩; have HT2 := PL.join (PL.up HS) HS2; have HPT2 := PtsP.up HPT hb1 (PL.up HS2); clear HPT HS2 HS)
          | (go_at_call 180; refine (joined_any w2 3 ao cap nds ps hn1 hn62 (unhide HPT2).1 (unhide HNL) (fun i h h' => ((unhide HPT2).2.1.2 i h h').1) (unhide HPT2).2.2).mono ?_; simp only [vNd]; rintro x w3 ⟨rfl, HB3⟩; have HT3 := PL.below HT2 (unhide HB3); have HPT3 := PtsP.below HPT2 (unhide HB3); clear HT2 HPT2 HB3; have HR3 := NdAt.up HAT (PL.up HT3) (by omega); obtain ⟨c0, c1, c2, c3, c4, c5, c6⟩ := NdAt.cells (unhide HR3); have cf := NdAt.fz (unhide HR3)))
        change bodyPost _ _ _ _ _ (setNd w3 w.heap.size ⟨3, ao, nds.length, cap, ⟨#[]⟩, 0, 0, 0, zOf ps⟩)
        refine node_ret (rb := w.heap.size) (n := ⟨3, ao, nds.length, cap, ⟨#[]⟩, 0, 0, 0, zOf ps⟩) 2 rfl rfl rfl (hide (NdAt.set (unhide HR3))) ?_
        rw [unhide HX]
        exact ⟨_, rfl, NodeOK.move (hide (pts_row (unhide HPT3) hne)) fun j hj hl => ⟨setNd_other (by omega), by omega⟩, unhide HPE _ _ _ HT3⟩
    | false =>
      have hne' : ¬ rowEnd (hd l') = true := by rw [he]; decide
      have HE := hide he
      clear he
      cases hi : itemP s.size at_ (l'.length + 1) l' with
      | error y =>
        have HX := hide (hri.err hne' hi)
        have HIE := hide hi
        clear hri hi hne' HL hn hnl hlen
        go_wp2_with (first
          | (go_at_call 262; refine (qRowEnd HS HE).mono ?_; rintro x w2 ⟨rfl, HS2⟩)
          | (go_at_call 263; refine (outN_err (unhide HI _ _ (PL.base HS2)) HIE).mono ?_; rintro x w3 ⟨rfl, HU⟩; have HU2 := hide ((PL.up HS2).trans (unhide HU))))
        rw [unhide HX]
        exact ⟨rfl, rfl, unhide HUE _ HU2⟩
      | ok y =>
        obtain ⟨y, l1⟩ := y
        obtain ⟨hll, hy0, hy61⟩ := unhide HLn _ _ _ hi
        have HX := hide (hri.next hne' hi hll)
        have HIE := hide hi
        have hnd : nds.length ≤ 2000 := by omega
        clear hri hi hne'
        subst hn
        have HNL := hide hnl
        clear hnl
        go_wp2_with (first
          | (go_at_call 262; refine (qRowEnd (PL.base HS) HE).mono ?_; rintro x w2 ⟨rfl, HS2⟩; have HT2 := PL.join (PL.up HS) HS2; have HPT2 := PtsP.up HPT hb1 (PL.up HS2); have hs2 := (PL.up HT2).size; clear HPT HS2 HS)
          | (go_at_call 263; refine (outN_ok (unhide HI _ _ (PL.base HT2)) HIE).mono ?_; simp only [vNd]; rintro x w3 ⟨n3, rfl, HN3, HS3⟩; have HT3 := PL.join (PL.up HT2) HS3; have HPT3 := PtsP.up HPT2 hb1 (PL.up HS3); have hs3 := (PL.up HT3).size; clear HS3)
          | (at_builtin; refine app_nd (w.alloc (obNd nd0)).heap.size w3 nds n3 _ (.tmp 7) (.tmp 10) rfl rfl rfl rfl (unhide HPT3).1 hs3 hnd ?_; intro g5 cap5 w5 HO5 HG5 HA5; have HPT5 := PtsP.next HPT2 HPT3 HN3 hs2 hy0 hy61 HO5 HG5 HA5; have HT5 := PL.grown (PL.alloc HT3 (obNd n3)) (unhide HG5) (fun k hk => by have := ((unhide HPT3).1.lt k hk).1; omega); clear HO5 HG5 HA5 HPT2 HPT3 HN3 HT2 HT3))
        go_roundw
        case rel => exact ⟨_, _, _, rfl, l1, nds ++ [n3], ps ++ [y], unhide HX, by simp, by simp; omega, HPT5, HT5⟩
        case measure =>
          have e1 := PL.left HT5
          have e2 := unhide HL
          show left s b _ < left s b _
          omega
end
end Go.Proofs.YtfolanohokflkabGreatDoor
