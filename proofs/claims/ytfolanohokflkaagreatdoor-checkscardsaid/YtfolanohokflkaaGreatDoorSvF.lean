import Derived.Test.YtfolanohokflkaaGreatDoorSvD
import Derived.Deep.AppendLies
import Derived.Deep.RegionLaw
/-
  The pieces of a set.
-/
namespace Go.Proofs.YtfolanohokflkaaGreatDoor
open Go.RowKit

theorem conv_runes (w : World) (l : Spans) (hl : l.length ≤ 1000) (hg : ∀ p ∈ l, GoodP p) : ∃ cap w1, (convert 61 107 (.string (encS l))).run Tryz.prog w = .ok (.slice (some ⟨w.heap.size, 0, none⟩) (l.length * 2) cap) w1 ∧ Below w.heap.size w w1 ∧ w.heap.size < w1.heap.size ∧ ∀ (j : Nat) (u : Value), (runesV (flatE l))[j]? = some u → w1.cell? ⟨w.heap.size, j, none⟩ = some u := by
  have hr := runes_encS hg
  have hfl := flatE_length l
  have hsz : (Conv.runesFrom (encS l) (encS l).size 0 #[]).size = l.length * 2 := by rw [hr, List.size_toArray, List.length_map, hfl]
  have h := run_runes_of_string (P := Tryz.prog) w 61 107 21 (encS l) Tryz.underlying61 Tryz.underlying107 Tryz.underlying21 (by rw [hsz]; omega)
  rw [hsz, hr] at h
  refine ⟨_, _, h, ?_, by rw [World.size_alloc]; exact Nat.lt_succ_self _, fun j u hu => ?_⟩
  · have hb := (Below.refl w.heap.size w).alloc (Nat.le_refl _) (.cells (((flatE l).map (Value.int .i32)).toArray ++ Array.replicate (grownCap w (l.length * 2) 0 21 - l.length * 2) (.int .i32 0)) 21)
    exact ⟨hb.os, hb.tape, hb.output, hb.size, hb.block⟩
  · have hn := heap_alloc_new w.drew (.cells (((flatE l).map (Value.int .i32)).toArray ++ Array.replicate (grownCap w (l.length * 2) 0 21 - l.length * 2) (.int .i32 0)) 21)
    have hn' : (w.drew.alloc (.cells (((flatE l).map (Value.int .i32)).toArray ++ Array.replicate (grownCap w (l.length * 2) 0 21 - l.length * 2) (.int .i32 0)) 21)).heap[w.heap.size]? = _ := hn
    have hj : j < (runesV (flatE l)).length := by
      rcases Nat.lt_or_ge j (runesV (flatE l)).length with h | h
      · exact h
      · rw [List.getElem?_eq_none h] at hu; cases hu
    simp only [World.cell?, hn']
    simp only [Option.isSome_none, Bool.false_eq_true, if_false]
    rw [Array.getElem?_append_left (by simpa [runesV] using hj)]
    simpa [runesV] using hu

theorem heap_one (w : World) (o : Obj) : (w.alloc o).drew.heap[w.heap.size]? = some o := heap_alloc_new w o
theorem size_one (w : World) (o : Obj) : (w.alloc o).drew.heap.size = w.heap.size + 1 := by
  show (w.alloc o).heap.size = _
  simp
theorem pcs_next {w1 w' : World} {g cap k : Nat} {l : Spans} (hk : k < l.length) (ho : Hid (w'.ownsRow w1.heap.size 248 2 (.slice (some ⟨g, 0, none⟩) (k + 1) cap) (k + 1) (pcCells (l.take k) ++ [.int .i32 l[k].1, .int .i32 l[k].2]))) :
    w'.ownsRow w1.heap.size 248 2 (.slice (some ⟨g, 0, none⟩) (k + 1) cap) (k + 1) (pcCells (l.take (k + 1))) := by
  rw [List.take_succ_eq_append_getElem hk, pcCells_append]; exact ho
theorem pcs_below {w1 wr w3 : World} {o : Obj} {v : Value} {n : Nat} {xs : List Value} (hb : Hid (Below w1.heap.size w1 wr)) (ho : Hid (wr.ownsRow w1.heap.size 248 2 v n xs)) (hg : Hid ((wr.alloc o).drew.grownBy w3 v.ownBlock)) : Hid (Below w1.heap.size w1 w3) := by
  have h := unhide hg
  exact below_append (unhide hb) (unhide ho) (show (wr.alloc o).grownBy w3 v.ownBlock from ⟨h.os, h.tape, h.output, h.size, h.block⟩) (unhide hb).size
theorem flat_get : ∀ (l : Spans) (k : Nat) (h : k < l.length), (runesV (flatE l))[k * 2]? = some (.int .i32 l[k].1) ∧ (runesV (flatE l))[k * 2 + 1]? = some (.int .i32 l[k].2)
  | [], _, h => by simp at h
  | x :: l, 0, _ => ⟨rfl, rfl⟩
  | x :: l, i + 1, h => by
    have ih := flat_get l i (by simpa using h)
    rw [show (i + 1) * 2 = i * 2 + 1 + 1 from by omega]
    simpa [flatE, runesV] using ih
set_option maxRecDepth 100000 in
set_option maxHeartbeats 4000000 in
theorem pieces_any (w : World) (l : Spans) (hl : l.length ≤ 1000) (hg : ∀ p ∈ l, GoodP p) :
    Calls Tryz.prog 161 #[.string (encS l)] w fun e w' => ∃ v, e = .returned v ∧ w'.ownsRow w.heap.size 248 2 v l.length (pcCells l) ∧ Below w.heap.size w w' := by
  obtain ⟨i0, hi0, hz0, hz1, hz2⟩ := info_parts infoPiece
  obtain ⟨cap, w1, hconv, hb1, hlt1, hc1⟩ := conv_runes w l hl hg
  have HB1 := hide hb1
  have HC1 := hide hc1
  clear hb1 hc1
  generalize encS l = s at hconv
  obtain ⟨N, hN⟩ : ∃ N, l.length * 2 = N := ⟨_, rfl⟩
  rw [hN] at hconv
  have hN2 : N ≤ 2000 := by omega
  have HNN := hide hN
  clear hN
  go_enter Tryz.func161, Tryz.ntmps161
  go_wp2_with fail
  go_loopw [4, 5] (fun v i wr => ∃ (k m : Nat) (av : Option Addr) (cv : Nat), k ≤ l.length ∧ i = .int .i64 m ∧ v = .slice av k cv ∧ Hid (k * 2 = m) ∧ Hid (wr.ownsRow w1.heap.size 248 2 (.slice av k cv) k (pcCells (l.take k))) ∧ Hid (Below w1.heap.size w1 wr)) (fun _ i _ => N - (intOf i).toNat)
  case atStart => exact ⟨0, 0, none, 0, Nat.zero_le _, rfl, rfl, rfl, World.ownsRow_nil _ _ _ _, Below.refl _ _⟩
  case round =>
    obtain ⟨k, m, av, cv, hk, rfl, rfl, HM, HO, HB⟩ := hrel
    have hmm := unhide HM
    have hnn := unhide HNN
    by_cases hlt : k < l.length
    · have hf := flat_get l k hlt
      have c1 := ((unhide HB).cell (p := ⟨w.heap.size, k * 2, none⟩) hlt1).trans (unhide HC1 _ _ hf.1)
      have c2 := ((unhide HB).cell (p := ⟨w.heap.size, k * 2 + 1, none⟩) hlt1).trans (unhide HC1 _ _ hf.2)
      clear hf HC1
      have HX := HO
      have hown := unhide HO
      have hsz := (unhide HB).size
      clear HO
      generalize hlo : l[k].1 = lo at c1
      generalize hhi : l[k].2 = hi at c2
      rw [hmm] at c1 c2
      have hmN : m + 1 < N := by omega
      have hmI : (m : Int) + 1 < (N : Int) := by omega
      have hmJ : (m : Int) < (N : Int) := by omega
      have hm0 : (0 : Int) ≤ (m : Int) + 1 := by omega
      have hwr : IntKind.i64.wrap ((m : Int) + 1) = ((m + 1 : Nat) : Int) := by simp [IntKind.wrap, IntKind.bits, IntKind.signed]; omega
      clear hmm hnn
      go_wp2_with fail
      go_region_law
        ((refine step_append_lies _ (by rfl) _ _ _ (by rfl) w1.heap.size 248 i0 _ 2 8 Tryz.underlying237 hi0 hz0 hz1 hz2 rfl (by omega) (.slice av k cv) k (pcCells (l.take k)) (by rfl) ((hown.alloc _).drew)
              ⟨wr.heap.size, 0, none⟩ 1 1 [.int .i32 lo, .int .i32 hi] (by rfl) (by rfl) (World.news_of_block (cs := #[.int .i32 lo, .int .i32 hi]) (t := 248) (fr := (0, 0)) (heap_one wr _)) (by intro u hu; simp at hu; rcases hu with rfl | rfl <;> rfl)
              (by omega) (by unfold maxLen; omega) (by omega) (by show w1.heap.size ≤ (wr.alloc _).heap.size; simp; omega) (wr.heap.size + 1) (size_one wr _) ?_; intro gg cap2 w3 hown1 hgrow hat hlt3))
      all_goals have HG := hide hgrow
      all_goals have HO1 := hide hown1
      all_goals clear hgrow hown1 hown
      all_goals go_wp2_with fail
      all_goals go_roundw
      case rel => exact ⟨k + 1, m + 2, some ⟨gg, 0, none⟩, cap2, by omega, by go_num, rfl, (by show (k + 1) * 2 = m + 2; have := unhide HM; omega), pcs_next hlt (by rw [hlo, hhi]; exact HO1), pcs_below HB HX HG⟩
      case measure => simp [intOf]; omega
      case rel => exact ⟨k + 1, m + 2, some ⟨gg, 0, none⟩, cap2, by omega, by go_num, rfl, (by show (k + 1) * 2 = m + 2; have := unhide HM; omega), pcs_next hlt (by rw [hlo, hhi]; exact HO1), pcs_below HB HX HG⟩
      case measure => simp [intOf]; omega
    · have hkl : k = l.length := by omega
      have hmN : m = N := by omega
      subst hmN
      subst hkl
      rw [List.take_length] at HO
      clear HC1 hmm hnn
      go_wp2_with fail
      go_ret
      exact ⟨_, rfl, own_base (unhide HO) (unhide HB1).size, (unhide HB1).trans ((unhide HB).mono (unhide HB1).size)⟩
end Go.Proofs.YtfolanohokflkaaGreatDoor

/-
  The other symbols of a set.
-/
namespace Go.Proofs.YtfolanohokflkaaGreatDoor
open Go.RowKit

/-- 'm = append(m, piece{lo, hi})', m a slice of pieces of the call's own. -/
theorem app_pc {ops : Array Oper} {rest : List Oper} {o : Oper} {a : Act} {Q : Exit → Act → World → Prop} (w wr : World) (zs : List (Int × Int)) (v : Value) (lo hi : Int) (s x : Operand) (hg : o.guard = none)
    (hop : o.op = .call { callee := .builtin .append, args := #[s, x], argTypes := #[237, 237] }) (hs : a.eval s = v) (hx : a.eval x = .slice (some ⟨wr.heap.size, 0, none⟩) 1 1)
    (ho : Hid (wr.ownsRow w.heap.size 248 2 v zs.length (pcCells zs))) (hb : Hid (Below w.heap.size w wr)) (hl : zs.length ≤ 2000000)
    (K : ∀ ao cap w', Hid (w'.ownsRow w.heap.size 248 2 (.slice ao (zs.length + 1) cap) (zs ++ [(lo, hi)]).length (pcCells (zs ++ [(lo, hi)]))) → Hid (Below w.heap.size w w') → Hid ((wr.alloc (.cells #[.int .i32 lo, .int .i32 hi] 248)).grownBy w' v.ownBlock) → wpList Tryz.prog ops Q rest (a.put o.dst (.slice ao (zs.length + 1) cap)) w') :
    wpList Tryz.prog ops Q (o :: rest) a (wr.alloc (.cells #[.int .i32 lo, .int .i32 hi] 248)) := by
  obtain ⟨i0, hi0, hz0, hz1, hz2⟩ := info_parts infoPiece
  have hb' : Below w.heap.size w wr := hb
  have := hb'.size
  refine wpList_append_own _ hg s x 237 hop w.heap.size 248 i0 (.agg #[.int .i32 0, .int .i32 0]) 2 8 Tryz.underlying237 hi0 hz0 hz1 hz2 rfl (by decide) _ _ _ hs ((unhide ho).alloc _) ⟨wr.heap.size, 0, none⟩ 1 1 [.int .i32 lo, .int .i32 hi] hx rfl (cells_new wr [.int .i32 lo, .int .i32 hi] _) (by intro u hu; simp at hu; rcases hu with rfl | rfl <;> rfl) (by unfold maxLen; omega) (by omega) (by simp; omega) ?_
  intro v' w' h1 h2 _
  have h3 : w'.ownsRow w.heap.size 248 2 v' (zs ++ [(lo, hi)]).length (pcCells (zs ++ [(lo, hi)])) := by
    rw [pcCells_append, List.length_append]; exact h1
  obtain ⟨ao, cap, rfl, -⟩ := own_view h3
  have e : (zs ++ [(lo, hi)]).length = zs.length + 1 := by simp
  rw [e] at h3 ⊢
  exact K ao cap w' (by rw [e]; exact h3) (below_append hb ho h2 hb'.size) h2
theorem pcs_of_own {w' : World} {v : Value} {zs : List (Int × Int)} {base : Nat} (ho : w'.ownsRow base 248 2 v zs.length (pcCells zs)) : PcsAt w'.heap.size w' v zs := by
  rcases ho.2 with ⟨rfl, hz⟩ | ⟨g, cap, cur, rfl, hb, hg, h1, h2, h3, h4⟩
  · exact .inl ⟨rfl, List.eq_nil_of_length_eq_zero hz⟩
  · refine .inr ⟨g, 0, cap, rfl, (Array.getElem?_eq_some_iff.1 hg).1, fun j hj => ?_⟩
    have hc := ho.cells (g := g) rfl
    have hgt := pcCells_get zs j hj
    have e0 : (⟨g, 0, none⟩ : Addr).add (j * 2) = ⟨g, 0 + j * 2, none⟩ := by unfold Addr.add; split <;> simp_all
    have e1 : (⟨g, 0, none⟩ : Addr).add (j * 2 + 1) = ⟨g, 0 + j * 2 + 1, none⟩ := by unfold Addr.add; split <;> simp_all
    have c0 := hc _ _ hgt.1
    have c1 := hc _ _ hgt.2
    rw [e0] at c0
    rw [e1] at c1
    exact ⟨c0, c1⟩
def GapRel (w1 wr : World) (v : Value) (zs : Spans) : Prop := wr.ownsRow w1.heap.size 248 2 v zs.length (pcCells zs) ∧ Below w1.heap.size w1 wr
theorem GapRel.alloc {w1 wr : World} {v : Value} {zs : Spans} (h : GapRel w1 wr v zs) (o : Obj) : GapRel w1 (wr.alloc o) v zs := ⟨h.1.alloc o, h.2.alloc h.2.size o⟩
theorem run_b {l : Spans} (h : Tidy l) : ∀ k, k ≤ l.length → 0 ≤ (gapsRun (l.take k)).2 ∧ (gapsRun (l.take k)).2 ≤ 1114112 ∧ (gapsRun (l.take k)).1.length ≤ k
  | 0, _ => by simp [gapsRun]
  | k + 1, hk => by
    have ih := run_b h k (by omega)
    have hg := tidy_good h l[k] (List.getElem_mem (by omega))
    have s2 := isSym_iff.1 hg.2.1
    rw [List.take_succ_eq_append_getElem (by omega), gapsRun_snoc]
    simp only [gapStep]
    refine ⟨by unfold abv; split <;> omega, by unfold abv; split <;> omega, ?_⟩
    rw [List.length_append]
    split <;> simp <;> omega

theorem cell_grown1 {wq w3 : World} {o : Obj} {row : Option Nat} {b j : Nat} {u : Value} (hg : Hid ((wq.alloc o).grownBy w3 row)) (hlt : b < wq.heap.size) (hne : some b ≠ row) (hc : wq.cell? ⟨b, j, none⟩ = some u) : w3.cell? ⟨b, j, none⟩ = some u := by
  have h1 : w3.heap[b]? = wq.heap[b]? := ((unhide hg).block b (by simp; omega) hne).trans (Below.heap_alloc wq o b hlt)
  rw [World.cell?_of_block h1]; exact hc
theorem gap_n0 {l : Spans} {k n : Nat} {low lo hi : Int} (hr : Hid (gapsRun (l.take (k + 1)) = gapStep (gapsRun (l.take k)) (lo, hi))) (hl : Hid (low = (gapsRun (l.take k)).2)) (hn : Hid (n = (gapsRun (l.take k)).1.length)) (h : ¬ low < lo) : Hid (n = (gapsRun (l.take (k + 1))).1.length) := by
  show n = _
  rw [unhide hr, gapStep, ← unhide hl, if_neg h, List.append_nil]; exact unhide hn
theorem gap_0 {w1 wr : World} {v : Value} {l : Spans} {k : Nat} {low lo hi : Int} (hr : Hid (gapsRun (l.take (k + 1)) = gapStep (gapsRun (l.take k)) (lo, hi))) (hl : Hid (low = (gapsRun (l.take k)).2)) (h : ¬ low < lo) (hg : Hid (GapRel w1 wr v (gapsRun (l.take k)).1)) : Hid (GapRel w1 wr v (gapsRun (l.take (k + 1))).1) := by
  rw [unhide hr, gapStep, ← unhide hl, if_neg h, List.append_nil]; exact hg
theorem gap_n1 {l : Spans} {k : Nat} {low lo hi : Int} (hr : Hid (gapsRun (l.take (k + 1)) = gapStep (gapsRun (l.take k)) (lo, hi))) (hl : Hid (low = (gapsRun (l.take k)).2)) (h : low < lo) : Hid ((gapsRun (l.take k)).1.length + 1 = (gapsRun (l.take (k + 1))).1.length) := by
  show _ = _
  rw [unhide hr, gapStep, ← unhide hl, if_pos h, List.length_append]; rfl
theorem gap_1 {w1 w3 : World} {ao : Option Addr} {cap : Nat} {l : Spans} {k : Nat} {low lo hi : Int} (hr : Hid (gapsRun (l.take (k + 1)) = gapStep (gapsRun (l.take k)) (lo, hi))) (hl : Hid (low = (gapsRun (l.take k)).2)) (h : low < lo)
    (ho : Hid (w3.ownsRow w1.heap.size 248 2 (.slice ao ((gapsRun (l.take k)).1.length + 1) cap) ((gapsRun (l.take k)).1 ++ [(low, belo lo)]).length (pcCells ((gapsRun (l.take k)).1 ++ [(low, belo lo)])))) (hb : Hid (Below w1.heap.size w1 w3)) :
    Hid (GapRel w1 w3 (.slice ao ((gapsRun (l.take k)).1.length + 1) cap) (gapsRun (l.take (k + 1))).1) := by
  rw [unhide hr, gapStep, ← unhide hl, if_pos h]; exact ⟨ho, hb⟩
theorem slice_len {w3 w1 : World} {ao : Option Addr} {cap : Nat} {zs : Spans} {p : Int × Int} (h : Hid (w3.ownsRow w1.heap.size 248 2 (.slice ao (zs.length + 1) cap) (zs ++ [p]).length (pcCells (zs ++ [p])))) : w3.ownsRow w1.heap.size 248 2 (.slice ao (zs.length + 1) cap) (zs ++ [p]).length (pcCells (zs ++ [p])) := h
set_option maxRecDepth 100000 in
set_option maxHeartbeats 4000000 in
theorem others_any (w : World) (l : Spans) (hl : l.length ≤ 900) (ht : Tidy l) :
    Calls Tryz.prog 156 #[.string (encS l)] w fun e w' => e = .returned (.string (encS (othS l))) ∧ Below w.heap.size w w' := by
  have hP := pieces_any w l (by omega) (tidy_good ht)
  have HP := hide hP
  have HT := hide ht
  clear hP ht
  generalize encS l = s at HP
  go_enter Tryz.func156, Tryz.ntmps156
  go_wp2_with (go_at_call 161; refine (unhide HP).mono ?_; clear HP; rintro e w1 ⟨v, rfl, hrow, hb⟩; have HB1 := hide hb; obtain ⟨av, cv, rfl, hvw⟩ := own_view hrow; have HVW := hide hvw; clear hrow hb hvw)
  go_loopw [3, 4, 10] (fun v lw i wr => ∃ (k : Nat) (ag : Option Addr) (n cg : Nat) (low : Int), k ≤ l.length ∧ i = .int .i64 k ∧ lw = .int .i32 low ∧ v = .slice ag n cg ∧ Hid (low = (gapsRun (l.take k)).2) ∧ Hid (n = (gapsRun (l.take k)).1.length) ∧ Hid (GapRel w1 wr (.slice ag n cg) (gapsRun (l.take k)).1)) (fun _ _ i _ => l.length - (intOf i).toNat)
  case atStart => exact ⟨0, none, 0, 0, 0, Nat.zero_le _, rfl, rfl, rfl, rfl, rfl, ⟨World.ownsRow_nil _ _ _ _, Below.refl _ _⟩⟩
  case round =>
    obtain ⟨k, ag, n, cg, low, hk, rfl, rfl, rfl, HL, HN, HG⟩ := hrel
    have hrb := run_b (unhide HT) k hk
    rw [← unhide HL] at hrb
    have hgl2 : (gapsRun (l.take k)).1.length ≤ 2000 := by omega
    by_cases hlt : k < l.length
    · obtain ⟨g, rfl, -, hg, hc, -⟩ := unhide HVW (by omega)
      have hget := pcCells_get l k hlt
      have c1 := hc (k * 2) (by omega)
      have c2 := hc (k * 2 + 1) (by omega)
      rw [hget.1, ← (unhide HG).2.cell (p := ⟨g, k * 2, none⟩) hg] at c1
      rw [hget.2, ← (unhide HG).2.cell (p := ⟨g, k * 2 + 1, none⟩) hg] at c2
      have hgp := tidy_good (unhide HT) l[k] (List.getElem_mem hlt)
      have hrun : gapsRun (l.take (k + 1)) = gapStep (gapsRun (l.take k)) l[k] := by rw [List.take_succ_eq_append_getElem hlt, gapsRun_snoc]
      have HRUN := hide hrun
      clear hget hc hrun HVW
      generalize hx1 : l[k].1 = lo at c1
      generalize hx2 : l[k].2 = hi at c2
      have hpe : l[k] = (lo, hi) := Prod.ext hx1 hx2
      rw [hpe] at HRUN hgp
      have s1 := isSym_iff.1 hgp.1
      have s2 := isSym_iff.1 hgp.2.1
      simp only [] at s1 s2
      clear hx1 hx2 hpe hgp
      have HG' := hide ((unhide HG).alloc (.cells #[.int .i32 lo, .int .i32 hi] 248))
      have q0 := box_c0 wr lo hi 0
      have q1 := box_c1 wr lo hi 0
      have hA : ∀ W : World, Calls Tryz.prog 232 #[.int .i32 hi] W fun e w' => e = .returned (.int .i32 (abv hi)) ∧ w' = W := fun W => (above_any hi W (by omega) (by omega)).mono fun e w' hh => ⟨hh.1, hh.2.symm⟩
      have HA := hide hA
      have HGo := HG
      clear hA HG
      by_cases hlow : low < lo
      · have hBl : ∀ W : World, Calls Tryz.prog 231 #[.int .i32 lo] W fun e w' => e = .returned (.int .i32 (belo lo)) ∧ w' = W := fun W => (below_any lo W (by omega) (by omega)).mono fun e w' hh => ⟨hh.1, hh.2.symm⟩
        have HBl := hide hBl
        clear hBl
        have hne : some wr.heap.size ≠ (Value.slice ag n cg).ownBlock := fun e => by have := ((unhide HGo).1.lt _ e.symm).2; omega
        have hlt2 : wr.heap.size < (wr.alloc (.cells #[.int .i32 lo, .int .i32 hi] 248)).heap.size := by simp
        have q1' : (wr.alloc (.cells #[.int .i32 lo, .int .i32 hi] 248)).cell? ⟨wr.heap.size, 1, none⟩ = some (.int .i32 hi) := q1
        have HG2 : Hid (GapRel w1 (wr.alloc (.cells #[.int .i32 lo, .int .i32 hi] 248)) (.slice ag n cg) (gapsRun (l.take k)).1) := HG'
        clear HG' q1 q0 HGo
        go_wp2_with (first
          | (go_at_call 231; refine (unhide HBl _).mono ?_; clear HBl; rintro e w' ⟨rfl, rfl⟩; generalize wr.alloc (.cells #[.int .i32 lo, .int .i32 hi] 248) = wq at *)
          | (at_builtin; refine app_pc w1 wq (gapsRun (l.take k)).1 _ low (belo lo) (.tmp 18) (.tmp 24) rfl rfl rfl rfl (unhide HG2).1 (unhide HG2).2 (by omega) ?_; intro ao1 cap1 w3 HO3 HB3 HGR; have q3 : w3.cell? ⟨wr.heap.size, 1, none⟩ = some (.int .i32 hi) := cell_grown1 HGR hlt2 hne q1'; clear q1' HG2 HGR)
          | (go_at_call 232; refine (unhide HA _).mono ?_; rintro e w' ⟨rfl, rfl⟩))
        go_roundw
        case rel => exact ⟨k + 1, ao1, _, cap1, _, by omega, by go_num, rfl, rfl, (by show _ = _; rw [unhide HRUN]; rfl), gap_n1 HRUN HL hlow, gap_1 HRUN HL hlow HO3 HB3⟩
        case measure => simp [intOf]; omega
      · go_wp2_with (go_at_call 232; refine (unhide HA _).mono ?_; rintro e w' ⟨rfl, rfl⟩)
        go_roundw
        case rel => exact ⟨k + 1, ag, n, cg, _, by omega, by go_num, rfl, rfl, (by show _ = _; rw [unhide HRUN]; rfl), gap_n0 HRUN HL HN (by omega), gap_0 HRUN HL (by omega) HG'⟩
        case measure => simp [intOf]; omega
    · have hkl : k = l.length := by omega
      subst hkl
      rw [List.take_length] at HL HN HG hgl2
      have hall := gapsRun_all l
      have hgd := gaps_good (unhide HT)
      have hgl := gaps_len l 0
      have hcan := gaps_canon (unhide HT)
      have hb1 := (unhide HB1)
      by_cases hlow : low ≤ 1114111
      · rw [if_pos (by rw [← unhide HL]; exact hlow), ← unhide HL] at hall
        rw [hall] at hgd hgl hcan
        have HGD := hide hgd
        have HCAN := hide hcan
        have HGL := hide hgl
        clear hgd hcan hall hb1 hgl HVW HT
        go_wp2_with (first
          | (at_builtin; refine app_pc w1 wr (gapsRun l).1 _ low 1114111 (.tmp 32) (.tmp 35) rfl rfl rfl rfl (unhide HG).1 (unhide HG).2 (by omega) ?_; intro ao1 cap1 w3 HO3 HB3 _)
          | (go_at_call 160; refine (setOf_any w3 _ ((gapsRun l).1 ++ [(low, 1114111)]) (by have := unhide HGL; omega) (pcs_of_own (slice_len HO3)) (unhide HGD)).mono ?_; rintro e w4 ⟨rfl, hb4⟩; have HB4 := hide hb4; clear hb4))
        go_ret
        exact ⟨by rw [← unhide HCAN]; rfl, ((unhide HB1).trans ((unhide HB3).mono (unhide HB1).size)).trans ((unhide HB4).mono (Nat.le_trans (unhide HB1).size (unhide HB3).size))⟩
      · rw [if_neg (by rw [← unhide HL]; exact hlow), List.append_nil] at hall
        rw [hall] at hgd hgl hcan
        have HGD := hide hgd
        have HCAN := hide hcan
        have HGL := hide hgl
        have hpcs := pcs_of_own (unhide HG).1
        have HPC := hide hpcs
        clear hgd hcan hall hb1 hgl HVW HT hpcs
        go_wp2_with (go_at_call 160; refine (setOf_any wr _ (gapsRun l).1 (by have := unhide HGL; omega) (unhide HPC) (unhide HGD)).mono ?_; rintro e w4 ⟨rfl, hb4⟩; have HB4 := hide hb4; clear hb4)
        go_ret
        exact ⟨by rw [← unhide HCAN]; rfl, ((unhide HB1).trans ((unhide HG).2.mono (unhide HB1).size)).trans ((unhide HB4).mono (Nat.le_trans (unhide HB1).size (unhide HG).2.size))⟩
end Go.Proofs.YtfolanohokflkaaGreatDoor
