import Derived.Test.YtfolanohokflkaaGreatDoorSvC
import Derived.Test.YtfolanohokflkaaGreatDoorOwn
import Derived.Deep.QuietTactic
import Derived.BigQuiet
import Derived.BigRegion
import Derived.WalkKit
import Derived.WalkSpells
import Derived.WalkLawsBesides
/-
  setOf.
-/
namespace Go.Proofs.YtfolanohokflkaaGreatDoor
open Go.RowKit

set_option maxHeartbeats 1000000 in
theorem above_any (c : Int) (w : World) (h0 : 0 ≤ c) (h1 : c ≤ 1114112) : Calls Tryz.prog 232 #[.int .i32 c] w fun e w' => e = .returned (.int .i32 (abv c)) ∧ w = w' := by
  by_cases h : c = 55295
  · subst h
    go_enter Tryz.func232, Tryz.ntmps232
    go_wp2
    go_ret
    exact ⟨rfl, rfl⟩
  · have hne : (c == (55295 : Int)) = false := by simp [h]
    have hw : IntKind.i32.wrap (c + 1) = c + 1 := by simp [IntKind.wrap, IntKind.bits, IntKind.signed]; omega
    have ha : abv c = c + 1 := by rw [abv, if_neg h]
    rw [ha]
    clear h ha
    go_enter Tryz.func232, Tryz.ntmps232
    go_wp2
    go_ret
    exact ⟨rfl, rfl⟩
set_option maxHeartbeats 1000000 in
theorem below_any (c : Int) (w : World) (h0 : 0 < c) (h1 : c ≤ 1114111) : Calls Tryz.prog 231 #[.int .i32 c] w fun e w' => e = .returned (.int .i32 (if c = 57344 then 55295 else c - 1)) ∧ w = w' := by
  by_cases h : c = 57344
  · subst h
    go_enter Tryz.func231, Tryz.ntmps231
    go_wp2
    go_ret
    exact ⟨rfl, rfl⟩
  · have hne : (c == (57344 : Int)) = false := by simp [h]
    have hw : IntKind.i32.wrap (c - 1) = c - 1 := by simp [IntKind.wrap, IntKind.bits, IntKind.signed]; omega
    rw [if_neg h]
    clear h
    go_enter Tryz.func231, Tryz.ntmps231
    go_wp2
    go_ret
    exact ⟨rfl, rfl⟩
def runesV (zs : List Int) : List Value := zs.map (Value.int .i32)
theorem infoRune : (Tryz.prog.info? 21).map (fun i => (i.zero, i.size, i.bytes)) = some (some (.int .i32 0), 1, 4) := by kernel_rfl
/-- setOf's loop: the limits so far. -/
def EndsRel (w wr : World) (v : Value) (acc : Spans) : Prop := wr.ownsRow w.heap.size 21 1 v (flatE acc).length (runesV (flatE acc)) ∧ Below w.heap.size w wr

theorem EndsRel.drewN {w wr : World} {v : Value} {acc : Spans} (h : EndsRel w wr v acc) (q : Nat) : EndsRel w (wr.drewN q) v acc := ⟨h.1, ⟨h.2.os, h.2.tape, h.2.output, h.2.size, h.2.block⟩⟩
theorem ends_app {w w' : World} {v' : Value} {acc : Spans} {lo hi : Int} (ho : Hid (w'.ownsRow w.heap.size 21 1 v' ((flatE acc).length + 2) (runesV (flatE acc) ++ [.int .i32 lo, .int .i32 hi]))) (hb : Hid (Below w.heap.size w w')) : Hid (EndsRel w w' v' (acc ++ [(lo, hi)])) := by
  refine ⟨?_, hb⟩
  rw [flatE_append, List.length_append]
  have e : runesV (flatE acc ++ flatE [(lo, hi)]) = runesV (flatE acc) ++ [.int .i32 lo, .int .i32 hi] := by simp [runesV, flatE]
  rw [e]
  exact ho
/-- 'ends = append(ends, lo, hi)'. -/
theorem app_ends {ops : Array Oper} {rest : List Oper} {o : Oper} {a : Act} {Q : Exit → Act → World → Prop} (w wr : World) (acc : Spans) (v : Value) (lo hi : Int) (s x : Operand) (hg : o.guard = none)
    (hop : o.op = .call { callee := .builtin .append, args := #[s, x], argTypes := #[107, 107] }) (hs : a.eval s = v) (hx : a.eval x = .slice (some ⟨wr.heap.size, 0, none⟩) 2 2)
    (ho : Hid (EndsRel w wr v acc)) (hl : acc.length ≤ 2000)
    (K : ∀ ae ce w', Hid (EndsRel w w' (.slice ae ((flatE acc).length + 2) ce) (acc ++ [(lo, hi)])) → wpList Tryz.prog ops Q rest (a.put o.dst (.slice ae ((flatE acc).length + 2) ce)) w') :
    wpList Tryz.prog ops Q (o :: rest) a (wr.alloc (.cells #[.int .i32 lo, .int .i32 hi] 21)) := by
  obtain ⟨i0, hi0, hz0, hz1, hz2⟩ := info_parts infoRune
  obtain ⟨hown, hb'⟩ := unhide ho
  have := hb'.size
  have hfl := flatE_length acc
  refine wpList_append_own _ hg s x 107 hop w.heap.size 21 i0 (.int .i32 0) 1 4 Tryz.underlying107 hi0 hz0 hz1 hz2 rfl (by decide) _ _ _ hs (hown.alloc _) ⟨wr.heap.size, 0, none⟩ 2 2 [.int .i32 lo, .int .i32 hi] hx rfl (cells_new wr [.int .i32 lo, .int .i32 hi] _) (by intro u hu; simp at hu; rcases hu with rfl | rfl <;> rfl) (by unfold maxLen; omega) (by omega) (by simp; omega) ?_
  intro v' w' h1 h2 _
  obtain ⟨ae, ce, rfl, -⟩ := own_view h1
  exact K ae ce w' (ends_app h1 (below_append hb' hown h2 hb'.size))

theorem runesV_set : ∀ (L : Spans) (x : Int × Int) (h : Int), (runesV (flatE (L ++ [x]))).set (L.length * 2 + 1) (.int .i32 h) = runesV (flatE (L ++ [(x.1, h)]))
  | [], _, _ => rfl
  | y :: L, x, h => by
    have := runesV_set L x h
    rw [show (y :: L).length * 2 + 1 = (L.length * 2 + 1) + 1 + 1 from by simp; omega]
    simp only [List.cons_append, flatE, runesV, List.map_cons, List.set_cons_succ]
    simp only [runesV] at this
    rw [this]
theorem ends_store {w wq : World} {ge m ce : Nat} {L : Spans} {x : Int × Int} {h : Int} (he : Hid (EndsRel w wq (.slice (some ⟨ge, 0, none⟩) (m + 1) ce) (L ++ [x]))) (hm : Hid (m = L.length * 2 + 1)) :
    Hid (EndsRel w ((wq.setCell ⟨ge, m, none⟩ (.int .i32 h)).drew) (.slice (some ⟨ge, 0, none⟩) (m + 1) ce) (L ++ [(x.1, h)])) := by
  obtain ⟨h1, h2⟩ := unhide he
  have hl : (flatE (L ++ [x])).length = m + 1 := by rw [flatE_length, unhide hm]; simp; omega
  have hl2 : (flatE (L ++ [(x.1, h)])).length = m + 1 := by rw [flatE_length, unhide hm]; simp; omega
  have hge : w.heap.size ≤ ge := by
    rcases h1.2 with ⟨e, _⟩ | ⟨g, cap, cur, e, hb, _⟩
    · cases e
    · have e1 := (Value.slice.inj e).1
      simp at e1
      rw [e1]; exact hb
  have h3 := own_set h1 (g := ge) (j := m) rfl (by omega) (.int .i32 h)
  rw [unhide hm, runesV_set, ← unhide hm, hl] at h3
  have h4 := h2.setCell (p := ⟨ge, m, none⟩) hge (.int .i32 h)
  refine ⟨?_, ⟨h4.os, h4.tape, h4.output, h4.size, h4.block⟩⟩
  rw [hl2]; exact h3
theorem ends_n {ts : Spans} {k m : Nat} {L : Spans} {x p : Int × Int} {h : Int} (hms : Hid (mergeS (ts.take (k + 1)) = stepS (L ++ [x]) p)) (hm : Hid (m = L.length * 2 + 1)) (he : stepS (L ++ [x]) p = L ++ [(x.1, h)]) : Hid (m + 1 = (flatE (mergeS (ts.take (k + 1)))).length) := by
  show m + 1 = _
  rw [unhide hms, he, flatE_length, unhide hm]; simp; omega
theorem ends_heap {w wr W : World} {v : Value} {acc : Spans} (h : EndsRel w wr v acc) (hh : W.heap = wr.heap) : W.ownsRow w.heap.size 21 1 v (flatE acc).length (runesV (flatE acc)) := by
  obtain ⟨hl, hx | ⟨g, cap, cur, hv, hb', hg, rest⟩⟩ := h.1
  · exact ⟨hl, .inl hx⟩
  · exact ⟨hl, .inr ⟨g, cap, cur, hv, hb', by rw [hh]; exact hg, rest⟩⟩
theorem ends_conv {W : World} {base n ce : Nat} {ae : Option Addr} {acc : Spans} (h : W.ownsRow base 21 1 (.slice ae n ce) (flatE acc).length (runesV (flatE acc))) (hn : n = (flatE acc).length) :
    (convert 107 61 (.slice ae n ce)).run Tryz.prog W = .ok (.string (encS acc)) W := by
  have hc := fun g (hg : (Value.slice ae n ce).ownBlock = some g) => h.cells hg
  rcases h.2 with ⟨e, hz⟩ | ⟨g, cap, cur, e, hb, hg, h1, h2, h3, h4⟩
  · cases e
    rw [run_convert_runes_nil W _ _ 21 0 0 Tryz.underlying107 Tryz.underlying21 Tryz.underlying61]
    rw [encS, List.eq_nil_of_length_eq_zero hz]; rfl
  · cases e
    have := run_convert_runes W 107 61 21 ⟨g, 0, none⟩ (flatE acc).length ce (flatE acc) (Nat.le_refl _) Tryz.underlying107 Tryz.underlying21 Tryz.underlying61 (fun j hj => hc g rfl j _ (by simp [runesV, hj]))
    rw [this, List.take_length]; rfl
theorem box_c0 (wr : World) (lo hi : Int) (q : Nat) : ((wr.alloc (.cells #[.int .i32 lo, .int .i32 hi] 248)).drewN q).cell? ⟨wr.heap.size, 0, none⟩ = some (.int .i32 lo) := (Box2.new wr (lo, hi)).c0
theorem box_c1 (wr : World) (lo hi : Int) (q : Nat) : ((wr.alloc (.cells #[.int .i32 lo, .int .i32 hi] 248)).drewN q).cell? ⟨wr.heap.size, 1, none⟩ = some (.int .i32 hi) := (Box2.new wr (lo, hi)).c1
set_option maxRecDepth 100000 in
set_option maxHeartbeats 4000000 in
theorem setOf_any (w : World) (sv : Value) (zs : List (Int × Int)) (hz : zs.length ≤ 1000) (hI : PcsAt w.heap.size w sv zs) (hg : ∀ p ∈ zs, GoodP p) :
    Calls Tryz.prog 160 #[sv] w fun e w' => e = .returned (.string (encS (canonS zs))) ∧ Below w.heap.size w w' := by
  obtain ⟨a, n0, cap, rfl⟩ : ∃ a n0 cap, sv = .slice a n0 cap := by
    rcases hI with ⟨rfl, _⟩ | ⟨b, off, cap, rfl, _⟩
    · exact ⟨_, _, _, rfl⟩
    · exact ⟨_, _, _, rfl⟩
  have hB0 : Below w.heap.size w (w.alloc (.cells #[.slice a n0 cap] 237)) := (Below.refl _ w).alloc (Nat.le_refl _) _
  have hI1 : PcsAt (w.alloc (.cells #[.slice a n0 cap] 237)).heap.size (w.alloc (.cells #[.slice a n0 cap] 237)) (.slice a n0 cap) zs := by
    rcases hI.below hB0 with h | ⟨b, off, cap', e, hb, hc⟩
    · exact .inl h
    · exact .inr ⟨b, off, cap', e, by simp; omega, hc⟩
  have hV := callsIn_wide.1 (vals_in 1 a n0 cap w)
  have hS := sortedFunc #[.pointer (some ⟨w.heap.size, 0, none⟩)] zs (by omega) _ (vals_stops 5 (by omega) w.heap.size _ _ zs (by omega) _ (by simp) (Nat.le_refl _) (Boxed.new w 237 (.slice a n0 cap)).cell hI1)
  generalize hW1 : w.alloc (.cells #[.slice a n0 cap] 237) = w1 at *
  have HV := hide hV
  have HS := hide hS
  have HB0 := hide hB0
  have HG := hide hg
  clear hV hS hB0 hI hI1 hg hW1
  go_enter Tryz.func160, Tryz.ntmps160
  go_wp2_with (first
    | (go_at_call 236; refine (unhide HV).mono ?_; clear HV; rintro e w' ⟨rfl, rfl⟩)
    | (go_at_call 235; refine (unhide HS).mono ?_; clear HS; rintro e w2 ⟨v, ts, rfl, hp, hs, hrow, hb⟩; have HP := hide hp; have HSR := hide hs; have HB := hide hb; obtain ⟨av, cv, rfl, hvw⟩ := own_view hrow; have HVW := hide hvw; clear hp hs hrow hb hvw))
  have hlen : ts.length = zs.length := (unhide HP).length_eq
  have HGT : Hid (∀ p ∈ ts, GoodP p) := fun p h => unhide HG p ((unhide HP).mem_iff.1 h)
  have HBW : Hid (Below w.heap.size w w2) := (unhide HB0).trans ((unhide HB).mono (unhide HB0).size)
  have hR0 : Hid (EndsRel w2 w2 (.slice none 0 0) (mergeS (ts.take 0))) := ⟨World.ownsRow_nil _ _ _ _, Below.refl _ _⟩
  go_loopw [4, 13] (fun v i wr => ∃ (k n : Nat) (ae : Option Addr) (ce : Nat), k ≤ zs.length ∧ i = .int .i64 k ∧ v = .slice ae n ce ∧ Hid (n = (flatE (mergeS (ts.take k))).length) ∧ Hid (EndsRel w2 wr (.slice ae n ce) (mergeS (ts.take k)))) (fun _ i _ => zs.length - (intOf i).toNat)
  case atStart => exact ⟨0, 0, none, 0, Nat.zero_le _, rfl, rfl, rfl, hR0⟩
  case round =>
    obtain ⟨k, n, ae, ce, hk, rfl, rfl, HN, HE⟩ := hrel
    obtain ⟨hown, hbel⟩ := unhide HE
    by_cases hlt : k < zs.length
    · obtain ⟨g, rfl, -, hg, hc, -⟩ := unhide HVW (by omega)
      have hkt : k < ts.length := by omega
      have hget := pcCells_get ts k hkt
      have c1 := hc (k * 2) (by omega)
      have c2 := hc (k * 2 + 1) (by omega)
      rw [hget.1, ← hbel.cell (p := ⟨g, k * 2, none⟩) hg] at c1
      rw [hget.2, ← hbel.cell (p := ⟨g, k * 2 + 1, none⟩) hg] at c2
      have htk : ts.take (k + 1) = ts.take k ++ [ts[k]] := List.take_succ_eq_append_getElem hkt
      have hgp := unhide HGT ts[k] (List.getElem_mem hkt)
      have hms : mergeS (ts.take (k + 1)) = stepS (mergeS (ts.take k)) ts[k] := by rw [htk, merge_snoc]
      have hml : (mergeS (ts.take k)).length ≤ 1000 := by have := merge_len (ts.take k); rw [List.length_take] at this; omega
      have HMS := hide hms
      have HGT2 := HGT
      have HSR2 := HSR
      clear hms htk hget hc HVW HP HSR HG HGT
      generalize hx1 : ts[k].1 = lo at c1
      generalize hx2 : ts[k].2 = hi at c2
      have hpe : ts[k] = (lo, hi) := Prod.ext hx1 hx2
      rw [hpe] at HMS hgp
      clear hx1 hx2 hpe
      obtain ⟨_, _, hvv, hve⟩ := own_view hown
      rw [← unhide HN] at hve
      obtain ⟨rfl, -, rfl⟩ := Value.slice.inj hvv
      clear hvv
      rcases List.eq_nil_or_concat (mergeS (ts.take k)) with hnil | ⟨L, x, hcon⟩
      · have hn0 : n = 0 := by rw [unhide HN, hnil]; rfl
        subst hn0
        rw [hnil] at HE HMS hml
        have HE' : Hid _ := hide (show EndsRel w2 (wr.alloc (.cells #[.int .i32 lo, .int .i32 hi] 248)) (.slice ae 0 ce) [] from ⟨(unhide HE).1.alloc _, (unhide HE).2.alloc (unhide HE).2.size _⟩)
        clear hown hbel hve hnil HE HN
        go_wp2_with fail
        go_quiet (fail)
        have q0 := box_c0 wr lo hi nq
        have q1 := box_c1 wr lo hi nq
        have HEq := hide ((unhide HE').drewN nq)
        clear HE'
        generalize (wr.alloc (.cells #[.int .i32 lo, .int .i32 hi] 248)).drewN nq = wq at *
        go_wp2_with (at_builtin; refine app_ends w2 wq [] _ lo hi (.tmp 42) (.tmp 47) rfl rfl rfl rfl HEq (by simp) ?_; intro ae1 ce1 w1 HE1)
        go_roundw
        case rel => exact ⟨k + 1, _, ae1, ce1, by omega, by go_num, rfl, (by show _ = _; rw [unhide HMS]; rfl), (by rw [unhide HMS, stepS_nil]; exact HE1)⟩
        case measure => simp [intOf]; omega
      · simp only [List.concat_eq_append] at hcon
        obtain ⟨m, hm⟩ : ∃ m, m = L.length * 2 + 1 := ⟨_, rfl⟩
        have hn2 : n = m + 1 := by rw [unhide HN, hcon, flatE_append, List.length_append, flatE_length, hm]; rfl
        subst hn2
        rw [hcon] at HE HMS hml
        have hxg : GoodP x := by
          have := tidy_good (fold_ok (ts.take k) (acc := []) trivial (fun p hp => unhide HGT2 p (List.mem_of_mem_take hp)) ((unhide HSR2).sublist (List.take_sublist _ _)) (by simp)).1 x
          exact this (by show x ∈ mergeS (ts.take k); rw [hcon]; simp)
        have HE' : Hid _ := hide (show EndsRel w2 (wr.alloc (.cells #[.int .i32 lo, .int .i32 hi] 248)) (.slice ae (m + 1) ce) (L ++ [x]) from ⟨(unhide HE).1.alloc _, (unhide HE).2.alloc (unhide HE).2.size _⟩)
        obtain ⟨ge, rfl, hge, hge2, hce, hfe⟩ := hve (by omega)
        have ce1 := hce m (by omega)
        have fe1 := hfe m
        have hml2 : L.length ≤ 1000 := by simp at hml; omega
        have hat : (runesV (flatE (mergeS (ts.take k))))[m]? = some (.int .i32 x.2) := by
          rw [hcon, flatE_append, hm]
          have hl := flatE_length L
          simp [runesV, flatE, hl]
        rw [hat] at ce1
        have hx2 := isSym_iff.1 hxg.2.1
        have HM := hide hm
        have hmb : m ≤ 2001 := by omega
        have hm1 : 1 ≤ m := by omega
        have hd0 : decide (0 < m) = true := by simp; omega
        clear hown hbel hve hcon HE HN hce hfe hat hm HGT2 HSR2
        have hbl := (unhide HE').2
        have cq : ∀ q, ((wr.alloc (.cells #[.int .i32 lo, .int .i32 hi] 248)).drewN q).cell? ⟨ge, m, none⟩ = some (.int .i32 x.2) := fun q => ((Below.refl wr.heap.size wr).alloc (Nat.le_refl _) _).cell (p := ⟨ge, m, none⟩) hge2 |>.trans ce1
        have fq : ∀ q, ((wr.alloc (.cells #[.int .i32 lo, .int .i32 hi] 248)).drewN q).frozen? ⟨ge, m, none⟩ = false := fun q => ((Below.refl wr.heap.size wr).alloc (Nat.le_refl _) _).frozen (p := ⟨ge, m, none⟩) hge2 |>.trans fe1
        have q0 := fun q => box_c0 wr lo hi q
        have q1 := fun q => box_c1 wr lo hi q
        by_cases hle : lo ≤ abv x.2
        · have hA : ∀ W : World, Calls Tryz.prog 232 #[.int .i32 x.2] W fun e w' => e = .returned (.int .i32 (abv x.2)) ∧ w' = W := fun W => (above_any x.2 W (by omega) (by omega)).mono fun e w' hh => ⟨hh.1, hh.2.symm⟩
          obtain ⟨av, hav⟩ : ∃ av, abv x.2 = av := ⟨_, rfl⟩
          rw [hav] at hle hA
          have HA := hide hA
          have HAV := hide hav
          clear hA hav
          go_wp2_with fail
          go_quiet ((go_at_call 232; exact Calls.quiet_of_same (unhide HA _)))
          have q0' := q0 nq
          have q1' := q1 nq
          have cq' := cq nq
          have fq' := fq nq
          have HEq := hide ((unhide HE').drewN nq)
          clear HE' q0 q1 cq fq HA hbl c1 c2 ce1 fe1
          generalize (wr.alloc (.cells #[.int .i32 lo, .int .i32 hi] 248)).drewN nq = wq at *
          go_wp2_with fail
          go_region
          go_wp2_with fail
          go_roundw
          case rel => exact ⟨k + 1, m + 1, _, _, by omega, by go_num, rfl, ends_n HMS HM (by rw [stepS_snoc, if_pos (by rw [unhide HAV]; exact hle)]), (by rw [unhide HMS, stepS_snoc, if_pos (by rw [unhide HAV]; exact hle)]; exact ends_store HEq HM)⟩
          case measure => simp [intOf]; omega
        · have hA : ∀ W : World, Calls Tryz.prog 232 #[.int .i32 x.2] W fun e w' => e = .returned (.int .i32 (abv x.2)) ∧ w' = W := fun W => (above_any x.2 W (by omega) (by omega)).mono fun e w' hh => ⟨hh.1, hh.2.symm⟩
          have hdl : decide (lo ≤ abv x.2) = false := by simpa using hle
          obtain ⟨av, hav⟩ : ∃ av, abv x.2 = av := ⟨_, rfl⟩
          rw [hav] at hle hA hdl
          have HA := hide hA
          have HAV := hide hav
          clear hA hav
          go_wp2_with fail
          go_quiet ((go_at_call 232; exact Calls.quiet_of_same (unhide HA _)))
          have q0' := q0 nq
          have q1' := q1 nq
          have HEq := hide ((unhide HE').drewN nq)
          clear HE' q0 q1 cq fq HA hbl c1 c2 ce1 fe1
          generalize (wr.alloc (.cells #[.int .i32 lo, .int .i32 hi] 248)).drewN nq = wq at *
          go_wp2_with (at_builtin; refine app_ends w2 wq (L ++ [x]) _ lo hi (.tmp 42) (.tmp 47) rfl rfl rfl rfl HEq (by simp; omega) ?_; intro ae1 ce2 w1 HE1)
          go_roundw
          case rel => exact ⟨k + 1, _, ae1, ce2, by omega, by go_num, rfl, (by show _ = _; rw [unhide HMS, stepS_snoc, if_neg (by rw [unhide HAV]; show ¬ lo ≤ av; omega), flatE_append (L ++ [x]), List.length_append]; rfl), (by rw [unhide HMS, stepS_snoc, if_neg (by rw [unhide HAV]; show ¬ lo ≤ av; omega)]; exact HE1)⟩
          case measure => simp [intOf]; omega
    · have hkz : k = ts.length := by omega
      have hcv : ∀ (W : World), W.heap = wr.heap → (convert 107 61 (.slice ae n ce)).run Tryz.prog W = .ok (.string (encS (mergeS ts))) W := by
        intro W hW
        rw [hkz, List.take_length] at HE HN
        exact ends_conv (ends_heap (unhide HE) hW) (unhide HN)
      have hfin : mergeS ts = canonS zs := merge_canon (unhide HG) (unhide HP) (unhide HSR)
      rw [hfin] at hcv
      have hc0 := hcv wr rfl
      have HBF := hide ((unhide HBW).trans (hbel.mono (unhide HBW).size))
      clear hfin hcv HG HP HSR HGT HVW HE HN hown hbel
      go_wp2_with fail
      go_ret
      exact ⟨rfl, unhide HBF⟩
end Go.Proofs.YtfolanohokflkaaGreatDoor
