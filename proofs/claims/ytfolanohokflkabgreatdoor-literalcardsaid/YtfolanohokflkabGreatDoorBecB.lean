import Derived.Test.YtfolanohokflkabGreatDoorBecA
import Derived.WalkKit
import Derived.WalkSpells
import Derived.WalkLawsBesides
import Derived.WalkMore
import Derived.Deep.QuietTactic
import Derived.BigQuiet
import Derived.BigRegion
import Derived.Deep.RegionHeld3
namespace Go.Proofs.YtfolanohokflkabGreatDoor
open Go.RowKit
section
variable {w : World} {t : TB} {T : List Te} {N S C : List (Value × Value)} {k : Ky}
theorem RowAt.rn {g cap : Nat} {lows : List Int} (h : RowAt w t g cap lows) : Rn w w g lows.length cap lows := ⟨h.own, rfl, rfl, rfl, rfl, rfl, fun _ _ => rfl⟩
theorem RowAt.below {w' : World} {g cap : Nat} {lows : List Int} (h : Hid (RowAt w t g cap lows)) (hb : Below w.heap.size w w') : Hid (RowAt w' t g cap lows) := (unhide h).move (hb.block g (unhide h).lt)
/-- where the search in the borders ends: the place of the low. -/
theorem place_of {l : Spans} {st : ByteArray} {c : Int} {i : Nat} (hs : IsSet st l) (hc : isSym c = true) (hb : Bs (bordersP l) c i i) (hf : ¬ (i < (bordersP l).length ∧ (bordersP l).getD i 0 = c)) : ∃ p, i = p + 1 ∧ p < (bordersP l).length ∧ inS l c = inS l ((bordersP l).getD p 0) := by
  have hc0 : 0 ≤ c := by have := isSym_iff.1 hc; omega
  have hpos : 0 < (bordersP l).length := by
    have hz := hs.zero
    cases hB : bordersP l with
    | nil => rw [hB] at hz; simp at hz
    | cons a r => simp
  have hz0 : (bordersP l).getD 0 0 = 0 := by
    have hz := hs.zero
    rw [List.getD_eq_getElem?_getD, List.getElem?_eq_getElem hpos] at hz ⊢
    exact hz
  cases i with
  | zero =>
    exfalso
    have := hb.hi 0 (Nat.le_refl _) hpos
    exact hf ⟨hpos, by omega⟩
  | succ p => exact ⟨p, rfl, by have := hb.ln; omega, hs.same c p hc hb hf⟩

theorem flatE_inj : ∀ {l l' : Spans}, flatE l = flatE l' → l = l'
  | [], [], _ => rfl
  | [], _ :: _, h => by simp [flatE] at h
  | _ :: _, [], h => by simp [flatE] at h
  | (a, b) :: l, (c, d) :: l', h => by
    simp only [flatE, List.cons.injEq] at h
    obtain ⟨h1, h2, h3⟩ := h
    rw [flatE_inj h3, h1, h2]
theorem IsSet.uniq {st : ByteArray} {l l' : Spans} (h : IsSet st l) (h' : IsSet st l') : l = l' := by
  have e1 := runes_encS (tidy_good h.tidy)
  have e2 := runes_encS (tidy_good h'.tidy)
  rw [← h.enc] at e1
  rw [← h'.enc, e1] at e2
  have e3 : (flatE l).map (Value.int .i32) = (flatE l').map (Value.int .i32) := by simpa using e2
  refine flatE_inj ?_
  have hinj : ∀ (a b : List Int), a.map (Value.int .i32) = b.map (Value.int .i32) → a = b := by
    intro a
    induction a with
    | nil => intro b hb; cases b with
      | nil => rfl
      | cons y b => simp at hb
    | cons x a ih => intro b hb; cases b with
      | nil => simp at hb
      | cons y b =>
        simp only [List.map_cons, List.cons.injEq, Value.int.injEq, true_and] at hb
        rw [hb.1, ih b hb.2]
  exact hinj _ _ e3
theorem BecR.same {n r : Nat} {c d : Int} {l : Spans} (hcl : ClsR T n l) (hin : inS l c = inS l d) (hr : BecR T n d r) : BecR T n c r := by
  obtain ⟨x, hx, hh⟩ := hcl
  obtain ⟨x', hx', hr'⟩ := hr
  rw [hx] at hx'
  cases hx'
  refine ⟨x, hx, ?_⟩
  rcases hr' with ⟨k1, l2, s2, e⟩ | ⟨k1, e⟩ | ⟨k1, i, j, y, f1, f2, f3, f4, f5, f6, f7, l2, s2, e⟩
  · rcases hh with ⟨_, s1⟩ | ⟨q, _⟩ | ⟨q, _⟩
    · refine .inl ⟨k1, l2, s2, ?_⟩
      have := IsSet.uniq s1 s2
      subst this
      rw [hin]; exact e
    · omega
    · omega
  · exact .inr (.inl ⟨k1, e⟩)
  · rcases hh with ⟨q, _⟩ | ⟨q, _⟩ | ⟨_, i', y', g1, g3, g4, g5, g6, s1⟩
    · omega
    · omega
    · have hii : i' = i := by rw [f1] at g1; omega
      subst hii
      rw [f3] at g3
      cases g3
      refine .inr (.inr ⟨k1, i', j, y, f1, f2, f3, f4, f5, f6, f7, l2, s2, ?_⟩)
      have := IsSet.uniq s1 s2
      subst this
      rw [hin]; exact e
theorem st_cells {r : Nat} {a c : Value} {ty : TypeId} (h : w.heap[r]? = some (.cells #[a, c] ty)) : w.cell? ⟨r, 0, none⟩ = some a ∧ w.cell? ⟨r, 1, none⟩ = some c := by
  refine ⟨?_, ?_⟩ <;> simp [World.cell?, h]
theorem Tab.stepped (h : Tab w t T N S C) (S' : List (Value × Value)) : Tab (ChangeMaps.setBlock w t.sb (mkMap S')) t T N S' C := by
  obtain ⟨n1, n2, n3, n4, n5, n6⟩ := h.ne
  refine ⟨(set_other n2).trans h.tb, (set_other n4).trans h.nb, set_same (h.foot (.inr (.inr (.inl rfl)))), (set_other (Ne.symm n6)).trans h.cb, ?_, h.ne, h.nr, h.ok, h.nd⟩
  obtain ⟨hl, hx | ⟨g, cap, cur, hv, hb', hg, rest⟩⟩ := h.row
  · exact ⟨hl, .inl hx⟩
  · refine ⟨hl, .inr ⟨g, cap, cur, hv, hb', ?_, rest⟩⟩
    have hne : g ≠ t.sb := by injection hv with e; exact (h.nr _ e).2.2.1
    exact (set_other hne).trans hg
/-- what the becomes' function of a term's kind answers. -/
def BecF (T : List Te) (n : Nat) (k : Ky) (f : Nat) : Prop := ∀ (W : World) (t : TB) (S C : List (Value × Value)) (d : Int), (Lit.int .i32 d).wf = true → isSym d = true → Hid (Tab W t T (numPairs T) S C) → Hid (CV W t T C) → Hid (SV T S) → Calls Tryz.prog f #[.pointer (some ⟨t.tb, 0, none⟩), vKy k, .int .i32 d] W (BOut T n d W t S (fun i => i < n))

set_option maxRecDepth 100000 in
set_option maxHeartbeats 4000000 in
theorem becomes_try {n m f : Nat} {b : Bool} {c : Int} {l0 : Spans} (h : Hid (Tab w t T (numPairs T) S C)) (hc : Hid (CV w t T C)) (hv : Hid (SV T S)) (hx : T[n]? = some (k, b)) (hn : n ≤ LIM) (hcl : ClsR T n l0) (hsy : isSym c = true) (hkd : k.kd = (m : Int)) (hm7 : m < 7) (hcell : kindCells[m * 3 + 1]? = some (fv f))
    (hcf : ∀ (args : Array Value) (w : World), (callFunc f args).run Tryz.prog w = .ok (.enter f args) w) (HF : Hid (BecF T n k f)) :
    Calls Tryz.prog 58 #[.pointer (some ⟨t.tb, 0, none⟩), .int .i64 n, .int .i32 c] w (BOut T n c w t S (fun i => i ≤ n)) := by
  have HCO := hide (clsOf_any h hc hn hcl)
  clear h hc hcl
  go_enter Tryz.func58, Tryz.ntmps58
  go_wp2_with (go_at_call 80; refine (unhide HCO).mono ?_; clear HCO; rintro x w1 ⟨l, g, cap, C1, rfl, hcl, HRow, HT1, HC1, HF1, hk1⟩; obtain ⟨sst, hss⟩ := hcl.set; have HS := hide hss; have HBS := hide (bsearch_rune w1 g (bordersP l).length cap (bordersP l) c (by have h1 := hss.few; rw [lowsP_len, lowsP, List.length_map]; omega) (hide (unhide HRow).rn) (hide hss.rise)); clear hss)
  refine (unhide HBS).mono ?_
  clear HBS
  rintro x w2 ⟨i, rfl, HB2, HBs⟩
  have hlen : (bordersP l).length ≤ 12 := by
    have h1 := (unhide HS).few
    rw [lowsP_len, lowsP, List.length_map]
    exact h1
  by_cases hfd : i < (bordersP l).length ∧ (bordersP l).getD i 0 = c
  · rw [decide_eq_true hfd]
    have hiI : (i : Int) < ((bordersP l).length : Int) := by omega
    have hi0 : (0 : Int) ≤ (i : Int) := by omega
    have c1 := ((unhide (RowAt.below HRow (unhide HB2))).rn.get hfd.1).1
    obtain ⟨d, hd⟩ : ∃ d, (bordersP l).getD i 0 = d := ⟨_, rfl⟩
    rw [hd] at c1
    have HIN : Hid (inS l c = inS l d) := by rw [← hd]; rw [hfd.2]; exact rfl
    have hwf : (Lit.int .i32 d).wf = true := (unhide HS).wf d (by
      rw [← hd, List.getD_eq_getElem?_getD, List.getElem?_eq_getElem (by omega)]
      exact List.getElem_mem _)
    have hsd : isSym d = true := (unhide HS).sy d (by
      rw [← hd, List.getD_eq_getElem?_getD, List.getElem?_eq_getElem (by omega)]
      exact List.getElem_mem _)
    have HSD := hide hsd
    clear hsd
    have HT2 := Tab.below HT1 (unhide HB2)
    have HC2 := CV.move HC1 (fun k hk _ => (unhide HB2).block k hk)
    have HTd := Tab.alloc HT2 (.cells #[.int .i64 n, .int .i32 d] 162)
    have HCd := CV.move (w' := w2.alloc (.cells #[.int .i64 n, .int .i32 d] 162)) HC2 (fun k hk _ => Below.heap_alloc w2 _ k hk)
    have HFd : Hid (TFr t t w (w2.alloc (.cells #[.int .i64 n, .int .i32 d] 162))) := ((unhide HF1).trans (TFr.below (unhide HB2))).trans (TFr.below ((Below.refl _ _).alloc (Nat.le_refl _) _))
    obtain ⟨q1, q2, q3, q4⟩ := (unhide HTd).cells
    have HBX := hide (heap_alloc_new w2 (.cells #[.int .i64 n, .int .i32 d] 162))
    have HCL := hide hcl
    have HFT : Hid (∀ k, TF t k → k < w2.heap.size) := fun k hk => (unhide HT2).foot hk
    clear HT1 HC1 HT2 HC2 HF1 hcl hk1 hsy hd
    dsimp only
    by_cases hit : ∃ p ∈ S, p.1 = vSt n d
    · obtain ⟨p, hp, hpn⟩ := hit
      obtain ⟨n', d', r, e, h1, h2, h3⟩ := (unhide hv).2 p hp
      rw [e] at hpn
      obtain ⟨rfl, rfl⟩ := vSt_inj hpn
      obtain ⟨j, hj⟩ := List.mem_iff_getElem?.1 hp
      rw [e] at hj
      have hlk := fun q => look_hit stKeyed Tryz.underlying91 ((unhide HTd).drew q).sb (unhide hv).keys (stOf hn hwf) (unhide hv).1 hj
      unfold vSt at hlk
      have hlk0 := hlk 0
      have HBR := hide (BecR.same (unhide HCL) (unhide HIN) h3)
      clear h1 h2 h3 e hp hpn hj q2
      go_wp2_with fail
      go_quiet (fail)
      go_wp2_with fail
      go_ret
      have hfd' := unhide HFd
      exact ⟨r, t, S, C1, rfl, unhide HBR, hide ((unhide HTd).drew nq), CV.move HCd (fun _ _ _ => rfl), hv, ⟨hfd'.os, hfd'.tape, hfd'.output, hfd'.size, hfd'.block, hfd'.tb, hfd'.nb, hfd'.sb, hfd'.cb, hfd'.row⟩, fun p hp => .inl hp⟩
    · have hmiss : ∀ p ∈ S, p.1 ≠ vSt n d := fun p hp e => hit ⟨p, hp, e⟩
      have hlk := fun q => look_miss stKeyed Tryz.underlying91 ((unhide HTd).drew q).sb (unhide hv).keys (stOf hn hwf) hmiss (z := .int .i64 0) (by simp [go_sem])
      unfold vSt at hlk
      have hlk0 := hlk 0
      obtain ⟨kd, st, fi, se⟩ := k
      dsimp only at hkd
      subst hkd
      have hlt : n < T.length := (List.getElem?_eq_some_iff.1 hx).1
      have hnI : (n : Int) < (T.length : Int) := by omega
      have hn0 : (0 : Int) ≤ (n : Int) := by omega
      have hm0 : (0 : Int) ≤ (m : Int) := by omega
      have hmI : (m : Int) < 7 := by omega
      have hnotb : ¬ TF t w2.heap.size := fun hf => absurd (unhide HFT _ hf) (Nat.lt_irrefl _)
      clear q2 hit hm7
      go_wp2_with fail
      go_quiet (fail)
      have HTq := hide ((unhide HTd).drew nq)
      have HCq : Hid (CV ((w2.alloc (.cells #[.int .i64 n, .int .i32 d] 162)).drewN nq) t T C1) := CV.move HCd (fun _ _ _ => rfl)
      have hfd' := unhide HFd
      have HFq : Hid (TFr t t w ((w2.alloc (.cells #[.int .i64 n, .int .i32 d] 162)).drewN nq)) := ⟨hfd'.os, hfd'.tape, hfd'.output, hfd'.size, hfd'.block, hfd'.tb, hfd'.nb, hfd'.sb, hfd'.cb, hfd'.row⟩
      have HBq : Hid (((w2.alloc (.cells #[.int .i64 n, .int .i32 d] 162)).drewN nq).heap[w2.heap.size]? = some (.cells #[.int .i64 n, .int .i32 d] 162)) := unhide HBX
      clear hlk hlk0 q1 q3 q4 HTd HCd HFd HBX hfd'
      generalize (w2.alloc (.cells #[.int .i64 n, .int .i32 d] 162)).drewN nq = Wq at *
      generalize w2.heap.size = sb2 at *
      obtain ⟨gt, q5, a0, a1, a2, a3, -⟩ := (unhide HTq).at hx
      dsimp only at a0 a1 a2 a3
      have HTk := Tab.alloc HTq (.cells #[.int .i64 m, .string st, .int .i64 fi, .int .i64 se] 99)
      have HCk := CV.move (w' := Wq.alloc (.cells #[.int .i64 m, .string st, .int .i64 fi, .int .i64 se] 99)) HCq (fun k hk _ => Below.heap_alloc Wq _ k hk)
      have HFk : Hid (TFr t t w (Wq.alloc (.cells #[.int .i64 m, .string st, .int .i64 fi, .int .i64 se] 99))) := (unhide HFq).trans (TFr.below ((Below.refl _ _).alloc (Nat.le_refl _) _))
      have hsq : sb2 < Wq.heap.size := (Array.getElem?_eq_some_iff.1 (unhide HBq)).1
      have HBk : Hid ((Wq.alloc (.cells #[.int .i64 m, .string st, .int .i64 fi, .int .i64 se] 99)).heap[sb2]? = some (.cells #[.int .i64 n, .int .i32 d] 162)) := (Below.heap_alloc Wq _ sb2 hsq).trans (unhide HBq)
      have HKk := hide (heap_alloc_new Wq (.cells #[.int .i64 m, .string st, .int .i64 fi, .int .i64 se] 99))
      have hnotk : ¬ TF t Wq.heap.size := Tab.new_not HTq (Nat.le_refl _)
      have hltk : Wq.heap.size < (Wq.alloc (.cells #[.int .i64 m, .string st, .int .i64 fi, .int .i64 se] 99)).heap.size := by simp
      have HFC := hide (fun q => unhide HF ((Wq.alloc (.cells #[.int .i64 m, .string st, .int .i64 fi, .int .i64 se] 99)).drewN q) t S C1 d hwf (unhide HSD) (hide ((unhide HTk).drew q)) (CV.move HCk (fun _ _ _ => rfl)) hv)
      unfold vKy at HFC
      dsimp only at HFC
      have qk := (unhide HTk).kind hcell
      have HCELL := hide hcell
      go_wp2_with fail
      clear HTq HCq HFq HBq q5 a0 a1 a2 a3 hcell
      generalize Wq.alloc (.cells #[.int .i64 m, .string st, .int .i64 fi, .int .i64 se] 99) = Wk at *
      generalize Wq.heap.size = kb at *
      obtain ⟨k0, k1, k2, k3⟩ := ky_cells (unhide HKk)
      obtain ⟨s0, s1⟩ := st_cells (unhide HBk)
      have hltb : sb2 < Wk.heap.size := (Array.getElem?_eq_some_iff.1 (unhide HBk)).1
      go_region_held3 (fun w' => w'.cell? ⟨kb, 0, none⟩ = some (.int .i64 m) ∧ w'.cell? ⟨kb, 1, none⟩ = some (.string st) ∧ w'.cell? ⟨kb, 2, none⟩ = some (.int .i64 fi) ∧ w'.cell? ⟨kb, 3, none⟩ = some (.int .i64 se) ∧ w'.cell? ⟨sb2, 1, none⟩ = some (.int .i32 d) ∧ w'.cell? ⟨t.tb, m * 3 + 1, none⟩ = some (fv f)) (go_keep)
        ((refine Calls.mono (unhide HFC 1) ?_; clear HFC; rintro x w4 ⟨r, t3, S3, C3, rfl, hbr, HT3, HC3, HV3, HF3, hk3⟩; obtain ⟨u0, u1, u2, u3⟩ := ky_cells (TFr.own HF3 hltk hnotk (unhide HKk)); have HBX4 := hide (TFr.own HF3 hltb hnotb (unhide HBk)); obtain ⟨v0, v1⟩ := st_cells (unhide HBX4); have rk := (unhide HT3).kind (unhide HCELL); rw [(unhide HF3).tb] at rk; obtain ⟨p1, p2, p3, p4⟩ := (unhide HT3).cells; rw [(unhide HF3).tb] at p1 p2 p3 p4))
      have hmiss3 : ∀ p ∈ S3, p.1 ≠ vSt n d := fun p hp e => by
        rcases hk3 p hp with h1 | ⟨i, d2, hi, h1⟩
        · exact hmiss p h1 e
        · have := (vSt_inj (h1.symm.trans e)).1
          omega
      have HT4 : Hid (Tab w4.drew t3 T (numPairs T) S3 C3) := (unhide HT3).drew 1
      have hup := put_new stKeyed Tryz.underlying91 (unhide HT4).sb (unhide HV3).keys (stOf hn hwf) hmiss3 (.int .i64 (r : Int))
      have HT5 := hide ((unhide HT4).stepped (S3 ++ [(vSt n d, .int .i64 (r : Int))]))
      have hsbF : TF t3 t3.sb := .inr (.inr (.inl rfl))
      have HC5 : Hid (CV (ChangeMaps.setBlock (w4.drew) t3.sb (mkMap (S3 ++ [(vSt n d, .int .i64 (r : Int))]))) t3 T C3) := CV.move HC3 fun k hk hf => set_other (w := w4.drew) (fun e => hf (by rw [e]; exact hsbF))
      have HV5 := hide ((unhide HV3).add hn hwf hbr hmiss3)
      have hf3 := unhide HF3
      have HF4 : Hid (TFr t t3 w w4) := (unhide HFk).trans ⟨hf3.os, hf3.tape, hf3.output, hf3.size, hf3.block, hf3.tb, hf3.nb, hf3.sb, hf3.cb, hf3.row⟩
      have hf4 := unhide HF4
      have HF5 : Hid (TFr t t3 w (ChangeMaps.setBlock (w4.drew) t3.sb (mkMap (S3 ++ [(vSt n d, .int .i64 (r : Int))])))) := ⟨hf4.os, hf4.tape, hf4.output, by rw [set_size]; exact hf4.size, fun k hk hf => (set_other (w := w4.drew) (fun e => hf (by rw [e, hf4.sb]; exact .inr (.inr (.inl rfl))))).trans (hf4.block k hk hf), hf4.tb, hf4.nb, hf4.sb, hf4.cb, hf4.row⟩
      have HK5 : Hid (∀ p ∈ S3 ++ [(vSt n d, Value.int .i64 (r : Int))], p ∈ S ∨ ∃ (i : Nat) (d' : Int), i ≤ n ∧ p.1 = vSt i d') := fun p hp => by
        rcases List.mem_append.1 hp with hp | hp
        · rcases hk3 p hp with h1 | ⟨i, d2, hi, h1⟩
          · exact .inl h1
          · exact .inr ⟨i, d2, by omega, h1⟩
        · rw [List.mem_singleton] at hp
          exact .inr ⟨n, d, Nat.le_refl _, by rw [hp]⟩
      have HBR := hide (BecR.same (unhide HCL) (unhide HIN) hbr)
      generalize hS5 : mkMap (S3 ++ [(vSt n d, .int .i64 (r : Int))]) = S5 at *
      generalize hSS : S3 ++ [(vSt n d, Value.int .i64 (r : Int))] = SS at *
      unfold vSt at hup
      clear hmiss hmiss3 hk3 hf3 hf4 HC3 HT3 HT4 HF3 HV3 HKk HBk HBX4 k0 k1 k2 k3 s0 s1 u0 u1 u2 u3 rk qk hS5 hSS
      go_wp2_with fail
      go_region
      go_wp2_with fail
      go_ret
      exact ⟨r, t3, SS, C3, rfl, unhide HBR, HT5, HC5, HV5, HF5, unhide HK5⟩

  · rw [decide_eq_false hfd]
    obtain ⟨p, rfl, hp, hin⟩ := place_of (unhide HS) hsy (unhide HBs) hfd
    have hiI : (p : Int) < ((bordersP l).length : Int) := by omega
    have hi0 : (0 : Int) ≤ (p : Int) := by omega
    have hwr : IntKind.i64.wrap (((p + 1 : Nat) : Int) - 1) = (p : Int) := by simp [IntKind.wrap, IntKind.bits, IntKind.signed]; omega
    have c1 := ((unhide (RowAt.below HRow (unhide HB2))).rn.get hp).1
    obtain ⟨d, hd⟩ : ∃ d, (bordersP l).getD p 0 = d := ⟨_, rfl⟩
    rw [hd] at c1
    have HIN : Hid (inS l c = inS l d) := by rw [← hd]; exact hin
    have hwf : (Lit.int .i32 d).wf = true := (unhide HS).wf d (by
      rw [← hd, List.getD_eq_getElem?_getD, List.getElem?_eq_getElem (by omega)]
      exact List.getElem_mem _)
    have hsd : isSym d = true := (unhide HS).sy d (by
      rw [← hd, List.getD_eq_getElem?_getD, List.getElem?_eq_getElem (by omega)]
      exact List.getElem_mem _)
    have HSD := hide hsd
    clear hsd
    have HT2 := Tab.below HT1 (unhide HB2)
    have HC2 := CV.move HC1 (fun k hk _ => (unhide HB2).block k hk)
    have HTd := Tab.alloc HT2 (.cells #[.int .i64 n, .int .i32 d] 162)
    have HCd := CV.move (w' := w2.alloc (.cells #[.int .i64 n, .int .i32 d] 162)) HC2 (fun k hk _ => Below.heap_alloc w2 _ k hk)
    have HFd : Hid (TFr t t w (w2.alloc (.cells #[.int .i64 n, .int .i32 d] 162))) := ((unhide HF1).trans (TFr.below (unhide HB2))).trans (TFr.below ((Below.refl _ _).alloc (Nat.le_refl _) _))
    obtain ⟨q1, q2, q3, q4⟩ := (unhide HTd).cells
    have HBX := hide (heap_alloc_new w2 (.cells #[.int .i64 n, .int .i32 d] 162))
    have HCL := hide hcl
    have HFT : Hid (∀ k, TF t k → k < w2.heap.size) := fun k hk => (unhide HT2).foot hk
    clear HT1 HC1 HT2 HC2 HF1 hcl hk1 hsy hd
    dsimp only
    by_cases hit : ∃ p ∈ S, p.1 = vSt n d
    · obtain ⟨p, hp, hpn⟩ := hit
      obtain ⟨n', d', r, e, h1, h2, h3⟩ := (unhide hv).2 p hp
      rw [e] at hpn
      obtain ⟨rfl, rfl⟩ := vSt_inj hpn
      obtain ⟨j, hj⟩ := List.mem_iff_getElem?.1 hp
      rw [e] at hj
      have hlk := fun q => look_hit stKeyed Tryz.underlying91 ((unhide HTd).drew q).sb (unhide hv).keys (stOf hn hwf) (unhide hv).1 hj
      unfold vSt at hlk
      have hlk0 := hlk 0
      have HBR := hide (BecR.same (unhide HCL) (unhide HIN) h3)
      clear h1 h2 h3 e hp hpn hj q2
      go_wp2_with fail
      go_quiet (fail)
      go_wp2_with fail
      go_ret
      have hfd' := unhide HFd
      exact ⟨r, t, S, C1, rfl, unhide HBR, hide ((unhide HTd).drew nq), CV.move HCd (fun _ _ _ => rfl), hv, ⟨hfd'.os, hfd'.tape, hfd'.output, hfd'.size, hfd'.block, hfd'.tb, hfd'.nb, hfd'.sb, hfd'.cb, hfd'.row⟩, fun p hp => .inl hp⟩
    · have hmiss : ∀ p ∈ S, p.1 ≠ vSt n d := fun p hp e => hit ⟨p, hp, e⟩
      have hlk := fun q => look_miss stKeyed Tryz.underlying91 ((unhide HTd).drew q).sb (unhide hv).keys (stOf hn hwf) hmiss (z := .int .i64 0) (by simp [go_sem])
      unfold vSt at hlk
      have hlk0 := hlk 0
      obtain ⟨kd, st, fi, se⟩ := k
      dsimp only at hkd
      subst hkd
      have hlt : n < T.length := (List.getElem?_eq_some_iff.1 hx).1
      have hnI : (n : Int) < (T.length : Int) := by omega
      have hn0 : (0 : Int) ≤ (n : Int) := by omega
      have hm0 : (0 : Int) ≤ (m : Int) := by omega
      have hmI : (m : Int) < 7 := by omega
      have hnotb : ¬ TF t w2.heap.size := fun hf => absurd (unhide HFT _ hf) (Nat.lt_irrefl _)
      clear q2 hit hm7
      go_wp2_with fail
      go_quiet (fail)
      have HTq := hide ((unhide HTd).drew nq)
      have HCq : Hid (CV ((w2.alloc (.cells #[.int .i64 n, .int .i32 d] 162)).drewN nq) t T C1) := CV.move HCd (fun _ _ _ => rfl)
      have hfd' := unhide HFd
      have HFq : Hid (TFr t t w ((w2.alloc (.cells #[.int .i64 n, .int .i32 d] 162)).drewN nq)) := ⟨hfd'.os, hfd'.tape, hfd'.output, hfd'.size, hfd'.block, hfd'.tb, hfd'.nb, hfd'.sb, hfd'.cb, hfd'.row⟩
      have HBq : Hid (((w2.alloc (.cells #[.int .i64 n, .int .i32 d] 162)).drewN nq).heap[w2.heap.size]? = some (.cells #[.int .i64 n, .int .i32 d] 162)) := unhide HBX
      clear hlk hlk0 q1 q3 q4 HTd HCd HFd HBX hfd'
      generalize (w2.alloc (.cells #[.int .i64 n, .int .i32 d] 162)).drewN nq = Wq at *
      generalize w2.heap.size = sb2 at *
      obtain ⟨gt, q5, a0, a1, a2, a3, -⟩ := (unhide HTq).at hx
      dsimp only at a0 a1 a2 a3
      have HTk := Tab.alloc HTq (.cells #[.int .i64 m, .string st, .int .i64 fi, .int .i64 se] 99)
      have HCk := CV.move (w' := Wq.alloc (.cells #[.int .i64 m, .string st, .int .i64 fi, .int .i64 se] 99)) HCq (fun k hk _ => Below.heap_alloc Wq _ k hk)
      have HFk : Hid (TFr t t w (Wq.alloc (.cells #[.int .i64 m, .string st, .int .i64 fi, .int .i64 se] 99))) := (unhide HFq).trans (TFr.below ((Below.refl _ _).alloc (Nat.le_refl _) _))
      have hsq : sb2 < Wq.heap.size := (Array.getElem?_eq_some_iff.1 (unhide HBq)).1
      have HBk : Hid ((Wq.alloc (.cells #[.int .i64 m, .string st, .int .i64 fi, .int .i64 se] 99)).heap[sb2]? = some (.cells #[.int .i64 n, .int .i32 d] 162)) := (Below.heap_alloc Wq _ sb2 hsq).trans (unhide HBq)
      have HKk := hide (heap_alloc_new Wq (.cells #[.int .i64 m, .string st, .int .i64 fi, .int .i64 se] 99))
      have hnotk : ¬ TF t Wq.heap.size := Tab.new_not HTq (Nat.le_refl _)
      have hltk : Wq.heap.size < (Wq.alloc (.cells #[.int .i64 m, .string st, .int .i64 fi, .int .i64 se] 99)).heap.size := by simp
      have HFC := hide (fun q => unhide HF ((Wq.alloc (.cells #[.int .i64 m, .string st, .int .i64 fi, .int .i64 se] 99)).drewN q) t S C1 d hwf (unhide HSD) (hide ((unhide HTk).drew q)) (CV.move HCk (fun _ _ _ => rfl)) hv)
      unfold vKy at HFC
      dsimp only at HFC
      have qk := (unhide HTk).kind hcell
      have HCELL := hide hcell
      go_wp2_with fail
      clear HTq HCq HFq HBq q5 a0 a1 a2 a3 hcell
      generalize Wq.alloc (.cells #[.int .i64 m, .string st, .int .i64 fi, .int .i64 se] 99) = Wk at *
      generalize Wq.heap.size = kb at *
      obtain ⟨k0, k1, k2, k3⟩ := ky_cells (unhide HKk)
      obtain ⟨s0, s1⟩ := st_cells (unhide HBk)
      have hltb : sb2 < Wk.heap.size := (Array.getElem?_eq_some_iff.1 (unhide HBk)).1
      go_region_held3 (fun w' => w'.cell? ⟨kb, 0, none⟩ = some (.int .i64 m) ∧ w'.cell? ⟨kb, 1, none⟩ = some (.string st) ∧ w'.cell? ⟨kb, 2, none⟩ = some (.int .i64 fi) ∧ w'.cell? ⟨kb, 3, none⟩ = some (.int .i64 se) ∧ w'.cell? ⟨sb2, 1, none⟩ = some (.int .i32 d) ∧ w'.cell? ⟨t.tb, m * 3 + 1, none⟩ = some (fv f)) (go_keep)
        ((refine Calls.mono (unhide HFC 1) ?_; clear HFC; rintro x w4 ⟨r, t3, S3, C3, rfl, hbr, HT3, HC3, HV3, HF3, hk3⟩; obtain ⟨u0, u1, u2, u3⟩ := ky_cells (TFr.own HF3 hltk hnotk (unhide HKk)); have HBX4 := hide (TFr.own HF3 hltb hnotb (unhide HBk)); obtain ⟨v0, v1⟩ := st_cells (unhide HBX4); have rk := (unhide HT3).kind (unhide HCELL); rw [(unhide HF3).tb] at rk; obtain ⟨p1, p2, p3, p4⟩ := (unhide HT3).cells; rw [(unhide HF3).tb] at p1 p2 p3 p4))
      have hmiss3 : ∀ p ∈ S3, p.1 ≠ vSt n d := fun p hp e => by
        rcases hk3 p hp with h1 | ⟨i, d2, hi, h1⟩
        · exact hmiss p h1 e
        · have := (vSt_inj (h1.symm.trans e)).1
          omega
      have HT4 : Hid (Tab w4.drew t3 T (numPairs T) S3 C3) := (unhide HT3).drew 1
      have hup := put_new stKeyed Tryz.underlying91 (unhide HT4).sb (unhide HV3).keys (stOf hn hwf) hmiss3 (.int .i64 (r : Int))
      have HT5 := hide ((unhide HT4).stepped (S3 ++ [(vSt n d, .int .i64 (r : Int))]))
      have hsbF : TF t3 t3.sb := .inr (.inr (.inl rfl))
      have HC5 : Hid (CV (ChangeMaps.setBlock (w4.drew) t3.sb (mkMap (S3 ++ [(vSt n d, .int .i64 (r : Int))]))) t3 T C3) := CV.move HC3 fun k hk hf => set_other (w := w4.drew) (fun e => hf (by rw [e]; exact hsbF))
      have HV5 := hide ((unhide HV3).add hn hwf hbr hmiss3)
      have hf3 := unhide HF3
      have HF4 : Hid (TFr t t3 w w4) := (unhide HFk).trans ⟨hf3.os, hf3.tape, hf3.output, hf3.size, hf3.block, hf3.tb, hf3.nb, hf3.sb, hf3.cb, hf3.row⟩
      have hf4 := unhide HF4
      have HF5 : Hid (TFr t t3 w (ChangeMaps.setBlock (w4.drew) t3.sb (mkMap (S3 ++ [(vSt n d, .int .i64 (r : Int))])))) := ⟨hf4.os, hf4.tape, hf4.output, by rw [set_size]; exact hf4.size, fun k hk hf => (set_other (w := w4.drew) (fun e => hf (by rw [e, hf4.sb]; exact .inr (.inr (.inl rfl))))).trans (hf4.block k hk hf), hf4.tb, hf4.nb, hf4.sb, hf4.cb, hf4.row⟩
      have HK5 : Hid (∀ p ∈ S3 ++ [(vSt n d, Value.int .i64 (r : Int))], p ∈ S ∨ ∃ (i : Nat) (d' : Int), i ≤ n ∧ p.1 = vSt i d') := fun p hp => by
        rcases List.mem_append.1 hp with hp | hp
        · rcases hk3 p hp with h1 | ⟨i, d2, hi, h1⟩
          · exact .inl h1
          · exact .inr ⟨i, d2, by omega, h1⟩
        · rw [List.mem_singleton] at hp
          exact .inr ⟨n, d, Nat.le_refl _, by rw [hp]⟩
      have HBR := hide (BecR.same (unhide HCL) (unhide HIN) hbr)
      generalize hS5 : mkMap (S3 ++ [(vSt n d, .int .i64 (r : Int))]) = S5 at *
      generalize hSS : S3 ++ [(vSt n d, Value.int .i64 (r : Int))] = SS at *
      unfold vSt at hup
      clear hmiss hmiss3 hk3 hf3 hf4 HC3 HT3 HT4 HF3 HV3 HKk HBk HBX4 k0 k1 k2 k3 s0 s1 u0 u1 u2 u3 rk qk hS5 hSS
      go_wp2_with fail
      go_region
      go_wp2_with fail
      go_ret
      exact ⟨r, t3, SS, C3, rfl, unhide HBR, HT5, HC5, HV5, HF5, unhide HK5⟩

end
end Go.Proofs.YtfolanohokflkabGreatDoor
