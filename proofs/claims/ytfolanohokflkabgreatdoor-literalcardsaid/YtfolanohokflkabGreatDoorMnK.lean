import Derived.Test.YtfolanohokflkabGreatDoorMnH
/-
  remainders, walked.
-/
namespace Go.Proofs.YtfolanohokflkabGreatDoor
open Go.RowKit
theorem met_in {w : World} {mb : Nat} {M : List Nat} {n : Nat} {B : Int} (h : Met w mb M) (hn : n ≤ LIM) (hB : ((addM M n).length : Int) ≤ B) :
    Calls Tryz.prog 57 #[.agg #[.int .i64 B, .map (some mb)], .int .i64 n] w fun e w' => e = .returned (.bool (decide (n ∉ M))) ∧ Hid (Met w' mb (addM M n) ∧ w.heap.size ≤ w'.heap.size ∧ w'.os = w.os ∧ w'.tape = w.tape ∧ w'.output = w.output ∧ ∀ k, k < w.heap.size → k ≠ mb → w'.heap[k]? = w.heap[k]?) := by
  refine (meet_any (B := B) (n := n) (hide h) hn).mono ?_
  rintro x w2 ⟨e, HM2, s2, o2, t2, u2, b2⟩
  rw [if_neg (by omega)] at e
  exact ⟨e, unhide HM2, s2, o2, t2, u2, b2⟩
def RmOut (w : World) (t : TB) (T : List Te) (P : Nat → Prop) (lows : Nat → List Int) (n0 : Nat) (e : Ending) (w' : World) : Prop :=
  ∃ (t' : TB) (rs : List Rm) (lg cap : Nat), e = .returned (.slice (some ⟨lg, 0, none⟩) rs.length cap) ∧ Hid (TS w' t' T) ∧ Hid (TFr t t' w w') ∧ Hid (w'.ownsRow w.heap.size 137 3 (.slice (some ⟨lg, 0, none⟩) rs.length cap) rs.length (rmCells rs)) ∧ Hid (Cls T P lows rs rs.length n0)
set_option maxRecDepth 100000 in
set_option maxHeartbeats 4000000 in
theorem rem_any {w : World} {t : TB} {T : List Te} {n0 K : Nat} {B : Int} {P : Nat → Prop} {clS : Nat → Spans} (h : Hid (TS w t T)) (hO : TOk T) (hP0 : P n0) (hP : ∀ n, P n → Row T n ∧ ClsR T n (clS n) ∧ ∀ c, isSym c = true → P (stpT T n c)) (hK : ∀ rs : List Rm, (rs.map (·.1)).Nodup → (∀ r ∈ rs, P r.1) → rs.length ≤ K) (hK2 : K ≤ 50) (hB : (K : Int) ≤ B) :
    Calls Tryz.prog 47 #[.pointer (some ⟨t.tb, 0, none⟩), .int .i64 n0, .int .i64 B] w (RmOut w t T P (fun n => bordersP (clS n)) n0) := by
  have hlim : ∀ n, P n → n ≤ LIM := fun n hn => by have := (hP n hn).1.lt; have := hO.lim; omega
  have hK0 : 1 ≤ K := by
    have := hK [(n0, 0, 0)] (by simp) (fun r hr => by simp at hr; rw [hr]; exact hP0)
    simpa using this
  have HNM := hide (newMeeting_any w B)
  have HM0 : Hid (∀ (W : World) (mb : Nat), Met W mb [] → _) := fun W mb hm => met_in (B := B) hm (hlim n0 hP0) (by show ((1 : Nat) : Int) ≤ B; omega)
  have HCS : Hid (∀ (wr : World) (t' : TB) (n : Nat), TS wr t' T → P n → _) := fun wr t' n hts hn => cls_ts (hide hts) (hlim n hn) (hP n hn).2.1
  have HBC : Hid (∀ (wr : World) (t' : TB) (n : Nat) (c : Int), TS wr t' T → P n → isSym c = true → _) := fun wr t' n c hts hn hc => bec_ok (hide hts) hO (hP n hn).1 hc
  have HSY : Hid (∀ n, P n → ∀ k, k < (bordersP (clS n)).length → isSym ((bordersP (clS n)).getD k 0) = true) := fun n hn k hk => by
    obtain ⟨st, hs⟩ := (hP n hn).2.1.set
    exact hs.sy _ (by simp [List.getD, hk])
  have HLN : Hid (∀ n, P n → (bordersP (clS n)).length ≤ 12) := fun n hn => by
    obtain ⟨st, hs⟩ := (hP n hn).2.1.set
    rw [lowsP_len]
    unfold lowsP
    rw [List.length_map]
    exact hs.few
  have HNX : Hid (∀ n c, P n → isSym c = true → P (stpT T n c)) := fun n c hn hc => (hP n hn).2.2 c hc
  have HLM := hide hlim
  have HKK := hide hK
  have HP0 := hide hP0
  generalize hQ : RmOut w t T P (fun n => bordersP (clS n)) n0 = QQ
  have HQ := hide hQ
  clear hQ hP hP0 hO hlim hK
  go_enter Tryz.func47, Tryz.ntmps47
  go_wp2_with (first
    | (go_at_call 56; refine (unhide HNM).mono ?_; clear HNM; rintro e w1 ⟨mb, rfl, HM1, hmb, HB1⟩)
    | (go_at_call 57; refine (unhide HM0 _ mb ((unhide HM1).move (Below.heap_alloc _ _ _ (Array.getElem?_eq_some_iff.1 (unhide HM1).at_).1))).mono ?_; clear HM0; rintro e w2 ⟨rfl, HM2⟩))
  have HI0 : Hid (RmI w (w2.alloc (.cells #[.int .i64 (n0 : Int), .int .i64 0, .int .i32 0] 137)) t t T mb w1.heap.size B [(n0, 0, 0)] (.slice (some ⟨w2.heap.size, 0, none⟩) 1 1)) := by
    have hml : mb < w1.heap.size := (Array.getElem?_eq_some_iff.1 (unhide HM1).at_).1
    have hb1 := unhide HB1
    have hba : Below w.heap.size w (w1.alloc (.cells #[.int .i64 B, .map (some mb)] 112)) := hb1.alloc hb1.size _
    have hmt : ¬ TF t mb := fun e => by have := (unhide h).foot e; omega
    have r0 : RmI w (w1.alloc (.cells #[.int .i64 B, .map (some mb)] 112)) t t T mb w1.heap.size B [] (.slice none 0 0) := ⟨unhide (TS.below h hba), TFr.below hba, (unhide HM1).move (Below.heap_alloc _ _ _ hml), hmt, hmb, World.ownsRow_nil _ _ _ _, heap_alloc_new w1 _⟩
    obtain ⟨q1, q2, q3, q4, q5, q6⟩ := unhide HM2
    have r1 := r0.meet q1 q2 q3 q4 q5 q6
    refine r1.app (x := (n0, 0, 0)) rfl ?_ ?_
    · have hs : w.heap.size ≤ w2.heap.size := r1.fr.size
      have hl := World.ownsRow_lit (e := 137) (size := 3) w2 #[.int .i64 (n0 : Int), .int .i64 0, .int .i32 0] 1 (Nat.le_refl _) (by decide) rfl
      exact own_base hl hs
    · have hb := (Below.refl w2.heap.size w2).alloc (Nat.le_refl _) (.cells #[.int .i64 (n0 : Int), .int .i64 0, .int .i32 0] 137)
      exact ⟨hb.os, hb.tape, hb.output, hb.size, fun k hk _ => hb.block k hk⟩
  have HC0 : Hid (Cls T P (fun n => bordersP (clS n)) [(n0, 0, 0)] 0 n0) := ⟨⟨_, rfl, rfl⟩, (fun r hr => by simp at hr; rw [hr]; exact unhide HP0), by simp, (fun i x hi => by omega)⟩
  clear HM1 HM2 HB1 h
  generalize w2.alloc (.cells #[.int .i64 (n0 : Int), .int .i64 0, .int .i32 0] 137) = w3 at *
  generalize w2.heap.size = lb at *
  generalize w1.heap.size = qb at *
  go_loopw [8, 9] (fun v i wr => ∃ (pl m cv : Nat) (av : Option Addr) (t' : TB) (rs : List Rm), i = .int .i64 (pl : Int) ∧ v = .slice av m cv ∧ pl ≤ m ∧ m ≤ K ∧ Hid (rs.length = m) ∧ Hid (RmI w wr t t' T mb qb B rs (.slice av m cv)) ∧ Hid (Cls T P (fun n => bordersP (clS n)) rs pl n0)) (fun _ i _ => K - (intOf i).toNat)
  case atStart => exact ⟨0, 1, 1, some ⟨lb, 0, none⟩, t, [(n0, 0, 0)], rfl, rfl, by omega, hK0, rfl, HI0, HC0⟩
  case round =>
    obtain ⟨pl, m, cv, av, t', rs, rfl, rfl, hpm, hmK, HM, HI, HC⟩ := hrel
    clear HI0 HC0
    by_cases hlt : pl < m
    · have hpI : (pl : Int) < (m : Int) := by omega
      have hprs : pl < rs.length := by have := unhide HM; omega
      obtain ⟨⟨n, f, b⟩, hx⟩ : ∃ x, rs[pl]? = some x := ⟨_, List.getElem?_eq_getElem hprs⟩
      have hPn : P n := (unhide HC).ok _ (List.mem_iff_getElem?.2 ⟨pl, hx⟩)
      obtain ⟨ao0, cp0, e0, hv0⟩ := own_view (unhide HI).own
      obtain ⟨g0, rfl, -⟩ := hv0 (by omega)
      injection e0 with e01 e02 e03
      subst e01
      clear e02 e03 hv0 cp0
      have c0 : wr.cell? ⟨g0, pl * 3, none⟩ = some (.int .i64 (n : Int)) := by
        have ho := (unhide HI).own
        rw [unhide HM] at ho
        rw [ho.cellAt _ (by omega)]
        exact (rm_get rs pl _ hx).1
      have HCS1 := hide (unhide HCS wr t' n (unhide HI).ts hPn)
      rw [(unhide HI).fr.tb] at HCS1
      have HXX := hide hx
      have HPN := hide hPn
      have hl12 := unhide HLN n hPn
      have HSYn := hide (unhide HSY n hPn)
      clear hx hprs HCS
      go_wp2_with (go_at_call 80; refine (unhide HCS1).mono ?_; clear HCS1; rintro e w4 ⟨g, cap, rfl, HR4, HT4, HF4⟩; have HI4 := hide ((unhide HI).tab (unhide HT4) (unhide HF4)))
      clear HT4 HF4 HI c0
      have HLO : Hid ((fun n => bordersP (clS n)) n = bordersP (clS n)) := rfl
      generalize bordersP (clS n) = lows at HLO HR4 hl12 HSYn ⊢
      go_loopw [8, 37] (fun v i wq => ∃ (k m' cv' : Nat) (av' : Option Addr) (t1 : TB) (rs' : List Rm), k ≤ lows.length ∧ i = .int .i64 (k : Int) ∧ v = .slice av' m' cv' ∧ m' ≤ K ∧ pl < m' ∧ Hid (rs'.length = m') ∧ Hid (RmI w wq t t1 T mb qb B rs' (.slice av' m' cv')) ∧ Hid (Cls T P (fun n => bordersP (clS n)) rs' pl n0) ∧ Hid (rs'[pl]? = some (n, f, b)) ∧ Hid (RowAt wq t1 g cap lows) ∧ Hid (∀ j, j < k → stpT T n (lows.getD j 0) ∈ rs'.map (·.1))) (fun _ i _ => lows.length - (intOf i).toNat)
      case atStart => exact ⟨0, m, cv, some ⟨g0, 0, none⟩, t', rs, Nat.zero_le _, rfl, rfl, hmK, hlt, HM, HI4, HC, HXX, HR4, fun j hj => absurd hj (by omega)⟩
      case round =>
        obtain ⟨k, m', cv', av', t1, rs', hk, rfl, rfl, hmK', hpm', HM', HI', HC', HX', HR', HJ⟩ := hrel
        clear HI4 HC HXX HR4 HM
        by_cases hkl : k < lows.length
        · have hkI : (k : Int) < (lows.length : Int) := by omega
          have d0 := (unhide HR').cell hkl
          have hsy := unhide HSYn k hkl
          have HBC1 := hide (unhide HBC _ t1 n (lows.getD k 0) (unhide HI').ts (unhide HPN) hsy)
          rw [(unhide HI').fr.tb] at HBC1
          have hPr := unhide HNX n (lows.getD k 0) (unhide HPN) hsy
          have hrl := unhide HLM _ hPr
          have HPR := hide hPr
          have HJK : Hid (∀ ns : List Nat, (∀ j, j < k → stpT T n (lows.getD j 0) ∈ ns) → stpT T n (lows.getD k 0) ∈ ns → ∀ j, j < k + 1 → stpT T n (lows.getD j 0) ∈ ns) := fun ns h1 h2 j hj => by
            by_cases e : j = k
            · rw [e]; exact h2
            · exact h1 j (by omega)
          clear hsy hPr HBC HNX
          generalize lows.getD k 0 = low at *
          generalize stpT T n low = r at *
          by_cases hin : r ∈ rs'.map (·.1)
          · have HAD := hide (addM_in hin)
            have HME : Hid (∀ (W : World), Met W mb (rs'.map (·.1)) → Calls Tryz.prog 57 #[.agg #[.int .i64 B, .map (some mb)], .int .i64 r] W fun e w' => e = .returned (.bool false) ∧ Hid (Met w' mb (rs'.map (·.1)) ∧ W.heap.size ≤ w'.heap.size ∧ w'.os = W.os ∧ w'.tape = W.tape ∧ w'.output = W.output ∧ ∀ k, k < W.heap.size → k ≠ mb → w'.heap[k]? = W.heap[k]?)) := fun W hM => by
              have hc := met_in (B := B) hM hrl (by rw [unhide HAD, List.length_map, unhide HM']; omega)
              rw [unhide HAD, show decide (r ∉ rs'.map (·.1)) = false from by simp [hin]] at hc
              exact hc
            have HIN := hide hin
            clear hin
            go_wp2_with (first
              | (go_at_call 58; refine (unhide HBC1).mono ?_; clear HBC1; rintro e w5 ⟨t5, rfl, -, HT5, HF5⟩; have HI5 := hide ((unhide HI').tab (unhide HT5) (unhide HF5)); have HR5 := RowAt.fr HR' HF5; obtain ⟨b0, b1⟩ := st_cells (unhide HI5).box)
              | (go_at_call 57; refine (unhide HME _ (unhide HI5).met).mono ?_; clear HME; rintro e w6 ⟨rfl, HM6⟩; clear b0 b1))
            obtain ⟨q1, q2, q3, q4, q5, q6⟩ := unhide HM6
            refine ⟨⟨k + 1, m', cv', av', t5, rs', by omega, by go_num, rfl, hmK', hpm', HM', ?_, HC', HX', ?_, unhide HJK _ (unhide HJ) (unhide HIN)⟩, ?_⟩
            · exact ((unhide HI5).meet q1 q2 q3 q4 q5 q6).same rfl
            · exact row_meet (unhide HR5) (unhide HI5).met.at_ q6
            · simp [intOf]
              omega
          · have HAD := hide (addM_out (a := (pl : Int)) (b := low) hin)
            have hmK2 : m' + 1 ≤ K := by
              have := unhide HKK (rs' ++ [(r, (pl : Int), low)]) (by
                rw [← unhide HAD]
                unfold addM
                rw [if_neg hin]
                exact List.nodup_append.2 ⟨(unhide HC').nd, by simp, fun a ha c hc e => hin (by rw [List.mem_singleton] at hc; rw [← hc, ← e]; exact ha)⟩) (fun y hy => by
                rcases List.mem_append.1 hy with h1 | h1
                · exact (unhide HC').ok y h1
                · rw [List.mem_singleton] at h1; rw [h1]; exact unhide HPR)
              rw [List.length_append, unhide HM'] at this
              exact this
            have HME : Hid (∀ (W : World), Met W mb (rs'.map (·.1)) → Calls Tryz.prog 57 #[.agg #[.int .i64 B, .map (some mb)], .int .i64 r] W fun e w' => e = .returned (.bool true) ∧ Hid (Met w' mb ((rs' ++ [(r, (pl : Int), low)]).map (·.1)) ∧ W.heap.size ≤ w'.heap.size ∧ w'.os = W.os ∧ w'.tape = W.tape ∧ w'.output = W.output ∧ ∀ k, k < W.heap.size → k ≠ mb → w'.heap[k]? = W.heap[k]?)) := fun W hM => by
              have hc := met_in (B := B) hM hrl (by rw [unhide HAD, List.length_map, List.length_append, unhide HM']; show ((m' + 1 : Nat) : Int) ≤ B; omega)
              rw [unhide HAD, show decide (r ∉ rs'.map (·.1)) = true from by simp only [decide_eq_true_eq]; exact hin] at hc
              exact hc
            have HIN := hide hin
            clear hin
            go_wp2_with (first
              | (go_at_call 58; refine (unhide HBC1).mono ?_; clear HBC1; rintro e w5 ⟨t5, rfl, -, HT5, HF5⟩; have HI5 := hide ((unhide HI').tab (unhide HT5) (unhide HF5)); have HR5 := RowAt.fr HR' HF5; obtain ⟨b0, b1⟩ := st_cells (unhide HI5).box)
              | (go_at_call 57; refine (unhide HME _ (unhide HI5).met).mono ?_; clear HME; rintro e w6 ⟨rfl, HM6⟩; clear b0 b1; obtain ⟨q1, q2, q3, q4, q5, q6⟩ := unhide HM6; have HI6 := hide ((unhide HI5).meet q1 q2 q3 q4 q5 q6); have HR6 := hide (row_meet (unhide HR5) (unhide HI5).met.at_ q6); clear q1 q2 q3 q4 q5 q6; have HO6 := hide (unhide HI6).own; rw [unhide HM'] at HO6; have hs6 := (unhide HI6).fr.size)
              | (at_builtin; refine app_gen Tryz.underlying100 infoRm rfl (by decide) (by decide) w.heap.size w6 m' (rmCells rs') [.int .i64 (r : Int), .int .i64 (pl : Int), .int .i32 low] (.slice av' m' cv') (.tmp 48) (.tmp 53) rfl rfl rfl w6.heap.size rfl rfl HO6 hs6 (by omega) rfl (by intro u hu; simp at hu; rcases hu with rfl | rfl | rfl <;> rfl) ?_; intro g7 cap7 w7 HO7 HG7))
            refine ⟨⟨k + 1, m' + 1, cap7, some ⟨g7, 0, none⟩, t5, rs' ++ [(r, (pl : Int), low)], by omega, by go_num, rfl, hmK2, by omega, ?_, ?_, ?_, ?_, ?_, ?_⟩, ?_⟩
            · show (rs' ++ [(r, (pl : Int), low)]).length = m' + 1
              rw [List.length_append, unhide HM']
              rfl
            · refine (unhide HI6).app rfl ?_ (unhide HG7)
              rw [List.length_append, unhide HM', rmCells_append]
              exact unhide HO7
            · exact (unhide HC').app (unhide HPR) (unhide HIN) (by rw [unhide HM']; omega)
            · show (rs' ++ [(r, (pl : Int), low)])[pl]? = _
              rw [List.getElem?_append_left (by rw [unhide HM']; exact hpm')]
              exact unhide HX'
            · exact row_app (unhide HR6) (unhide HI6).own (unhide HG7)
            · refine unhide HJK _ (fun j hj => ?_) ?_
              · rw [List.map_append]
                exact List.mem_append.2 (.inl (unhide HJ j hj))
              · rw [List.map_append]
                exact List.mem_append.2 (.inr (by simp))
            · simp [intOf]
              omega
        · have hkl' : k = lows.length := by omega
          have HCN : Hid (Cls T P (fun n => bordersP (clS n)) rs' (pl + 1) n0) := by
            refine (unhide HC').next (unhide HX') (fun c hc => ?_)
            have e : bordersP (clS n) = lows := unhide HLO
            have hc' : c ∈ lows := by rw [← e]; exact hc
            obtain ⟨j, hj⟩ := List.mem_iff_getElem?.1 hc'
            have hjl := (List.getElem?_eq_some_iff.1 hj).1
            have := unhide HJ j (by omega)
            rw [show lows.getD j 0 = c from by simp [List.getD, hj]] at this
            exact this
          clear HJ HC' HX' HR'
          go_wp2_with fail
          refine ⟨⟨pl + 1, m', cv', av', t1, rs', by go_num, rfl, by omega, hmK', HM', HI', HCN⟩, ?_⟩
          simp [intOf]
          omega
    · have hpl : pl = m := by omega
      have hm := unhide HM
      subst hm
      subst hpl
      obtain ⟨y, hy, -⟩ := (unhide HC).first
      have hpos : 0 < rs.length := (List.getElem?_eq_some_iff.1 hy).1
      obtain ⟨ao0, cp0, e0, hv0⟩ := own_view (unhide HI).own
      obtain ⟨lg, rfl, -⟩ := hv0 hpos
      injection e0 with e01 e02 e03
      subst e01
      clear e02 e03 hv0 cp0 HCS HBC HSY HLN HNX hy
      go_wp2_with fail
      rw [← unhide HQ]
      exact ⟨t', rs, lg, cv, rfl, (unhide HI).ts, (unhide HI).fr, (unhide HI).own, HC⟩
end Go.Proofs.YtfolanohokflkabGreatDoor

/-
  smallest.
-/
namespace Go.Proofs.YtfolanohokflkabGreatDoor
open Go.RowKit
/-- all that is known of a literal's states in the table. -/
structure LS (T : List Te) (L : Nat) (E v : Nat → Nat) (clS : Nat → Spans) (em : Nat → Bool) : Prop where
  la : LA L E v (stpT T) (fun n => bordersP (clS n)) em
  ok : ∀ j, j ≤ L + 1 → NumOk T clS em (E j)
  few : L ≤ 20
def isE (L : Nat) (E : Nat → Nat) (n : Nat) : Prop := ∃ j, j ≤ L + 1 ∧ n = E j
section
variable {T : List Te} {L : Nat} {E v : Nat → Nat} {clS : Nat → Spans} {em : Nat → Bool}
theorem LS.step (A : LS T L E v clS em) {n : Nat} (hn : isE L E n) (c : Int) : isE L E (stpT T n c) := by
  obtain ⟨j, hj, rfl⟩ := hn
  by_cases h0 : j = 0
  · subst h0; exact ⟨L + 1, Nat.le_refl _, A.la.m0 c⟩
  · by_cases h1 : j = L + 1
    · subst h1; exact ⟨L + 1, Nat.le_refl _, A.la.m2 c⟩
    · by_cases hc : c = (v j : Int)
      · subst hc; exact ⟨j - 1, by omega, A.la.hit j (by omega) (by omega)⟩
      · exact ⟨L + 1, Nat.le_refl _, A.la.miss j c (by omega) (by omega) hc⟩
theorem isE_few {rs : List Rm} (hn : (rs.map (·.1)).Nodup) (h : ∀ r ∈ rs, isE L E r.1) : rs.length ≤ L + 2 := by
  have h1 := nodup_le hn (b := (List.range (L + 2)).map E) (fun x hx => by
    obtain ⟨r, hr, rfl⟩ := List.mem_map.1 hx
    obtain ⟨j, hj, e⟩ := h r hr
    exact List.mem_map.2 ⟨j, List.mem_range.2 (by omega), e.symm⟩)
  simpa using h1
theorem LS.all (A : LS T L E v clS em) {rs : List Rm} (h : Cls T (isE L E) (fun n => bordersP (clS n)) rs rs.length (E L)) : AllE L E (rs.map (·.1)) := by
  have cl : ∀ n ∈ rs.map (·.1), ∀ c ∈ bordersP (clS n), stpT T n c ∈ rs.map (·.1) := fun n hn c hc => by
    obtain ⟨r, hr, rfl⟩ := List.mem_map.1 hn
    obtain ⟨i, hi⟩ := List.mem_iff_getElem?.1 hr
    exact h.cl i r (List.getElem?_eq_some_iff.1 hi).1 hi c hc
  have h0 : E L ∈ rs.map (·.1) := by
    obtain ⟨y, hy, e⟩ := h.first
    rw [← e]
    exact List.mem_map.2 ⟨y, List.mem_iff_getElem?.2 ⟨0, hy⟩, rfl⟩
  have down : ∀ d, d ≤ L → E (L - d) ∈ rs.map (·.1) := by
    intro d
    induction d with
    | zero => intro _; exact h0
    | succ d ih =>
      intro hd
      have hm := ih (by omega)
      have hj1 : 1 ≤ L - d := by omega
      have hj2 : L - d ≤ L := by omega
      have hc : ((v (L - d) : Nat) : Int) ∈ bordersP (clS (E (L - d))) := by
        rw [A.la.cl1 _ hj1 hj2]
        split
        · rename_i hv; rw [hv]; simp
        · simp
      have := cl _ hm _ hc
      rw [A.la.hit _ hj1 hj2] at this
      rw [show L - (d + 1) = L - d - 1 from by omega]
      exact this
  have e0 : E 0 ∈ rs.map (·.1) := by have := down L (Nat.le_refl _); rwa [Nat.sub_self] at this
  have e1 : E (L + 1) ∈ rs.map (·.1) := by
    have := cl _ e0 0 (by rw [A.la.cl0]; simp)
    rwa [A.la.m0] at this
  refine ⟨h.nd, fun j hj => ?_, fun n hn => ?_⟩
  · by_cases e : j = L + 1
    · rw [e]; exact e1
    · have := down (L - j) (by omega)
      rwa [show L - (L - j) = j from by omega] at this
  · obtain ⟨r, hr, rfl⟩ := List.mem_map.1 hn
    exact h.ok r hr
theorem Rnd.congr {k : Nat} {g g' : Nat → Nat} (h : Rnd L E k g) (e : ∀ j, j ≤ L + 1 → g' (E j) = g (E j)) : Rnd L E k g' :=
  ⟨h.le, fun j hj => by rw [e j hj]; exact h.sm j hj, fun i j hi hj => by rw [e i hi, e j hj]; exact h.eq i j hi hj⟩
end
theorem stG_map {ns : List Nat} {f : Nat → Nat} {n : Nat} (h : n ∈ ns) : stG (ns.map fun n => (n, f n)) n = f n := by
  unfold stG
  induction ns with
  | nil => cases h
  | cons x ns ih =>
    by_cases e : x = n
    · subst e; simp
    · have hn : n ∈ ns := by
        rcases List.mem_cons.1 h with h | h
        · exact absurd h.symm e
        · exact h
      have := ih hn
      rw [List.map_cons, List.find?_cons_of_neg (by simpa using e)]
      exact this
theorem stG_lt {G : List (Nat × Nat)} {M : Nat} (h : ∀ p ∈ G, p.2 < M) (h0 : 0 < M) (n : Nat) : stG G n < M := by
  unfold stG
  split
  · rename_i p hp
    exact h p (List.mem_of_find?_eq_some hp)
  · exact h0
/-- what a round knows. -/
structure Smi (w wr : World) (t t' : TB) (T : List Te) (L : Nat) (E : Nat → Nat) (lg lcap mb k : Nat) (G : List (Nat × Nat)) (rs : List Rm) : Prop where
  ts : TS wr t' T
  fr : TFr t t' w wr
  st : StM wr mb G
  mt : ¬ TF t' mb
  row : wr.ownsRow w.heap.size 137 3 (.slice (some ⟨lg, 0, none⟩) rs.length lcap) rs.length (rmCells rs)
  rnd : Rnd L E k (stG G)
  sm : ∀ c, stG G c < 100
end Go.Proofs.YtfolanohokflkabGreatDoor

/-
  smallest, walked.
-/
namespace Go.Proofs.YtfolanohokflkabGreatDoor
open Go.RowKit
/-- so many semicolons. -/
def SmOut (w : World) (t : TB) (T : List Te) (L : Nat) (e : Ending) (w' : World) : Prop :=
  ∃ (t' : TB) (s : List UInt8), e = .returned (.string (tx s)) ∧ s.count 59 = L + 2 ∧ s.length ≤ 100000 ∧ Hid (TS w' t' T) ∧ Hid (TFr t t' w w')
/-- what a round of tellApart comes to. -/
def SmTell (w : World) (t : TB) (T : List Te) (L : Nat) (E : Nat → Nat) (lg lcap k : Nat) (rs : List Rm) (B0 : Nat) (e : Ending) (w' : World) : Prop :=
  ∃ (t1 : TB) (sb cap m : Nat) (ao : Option Addr) (FL : List (List UInt8)) (G' : List (Nat × Nat)), e = .returned (.tuple #[.map (some sb), .slice ao m cap]) ∧ m ≤ 22 ∧ m = min (k + 1) (L + 1) + 1 ∧ Hid (FL.length = m) ∧ Hid (k ≤ L → Smi w w' t t1 T L E lg lcap sb (k + 1) G' rs) ∧ Hid (TS w' t1 T ∧ TFr t t1 w w') ∧ Hid (w'.ownsRow B0 9 1 (.slice ao m cap) m (strCells FL)) ∧ Hid (FL.flatten.count 59 = m ∧ ∀ l ∈ FL, l.length ≤ 1000)
theorem sm_tell {w wr : World} {t t' : TB} {T : List Te} {L lg lcap mb k : Nat} {E v : Nat → Nat} {clS : Nat → Spans} {em : Nat → Bool} {G : List (Nat × Nat)} {rs : List Rm} (hO : TOk T) (A : LS T L E v clS em) (hd : Hid (DbOk w)) (hdt : ¬ TF t 3) (hC : Cls T (isE L E) (fun n => bordersP (clS n)) rs rs.length (E L)) (hS : Smi w wr t t' T L E lg lcap mb k G rs) :
    Calls Tryz.prog 48 #[.pointer (some ⟨t.tb, 0, none⟩), .slice (some ⟨lg, 0, none⟩) rs.length lcap, .map (some mb)] wr (SmTell w t T L E lg lcap k rs wr.heap.size) := by
  have hE := A.all hC
  have hrl : rs.length ≤ L + 2 := isE_few hC.nd hC.ok
  have k2 := hS.fr.kept (unhide hd).lt hdt
  have hN : ∀ r ∈ rs, NumOk T clS em r.1 := fun r hr => by
    obtain ⟨j, hj, e⟩ := hC.ok r hr
    rw [e]
    exact A.ok j hj
  have hc := tell_any (B := w.heap.size) (clS := clS) (em := em) (hide hS.ts) hO hN hC.nd (by have := A.few; omega) (hide hS.row) (hide hS.st) hS.mt hS.sm (hide ((unhide hd).move k2.2.2)) k2.2.1
  rw [hS.fr.tb] at hc
  have hlines : (((rs.map (·.1)).map (lnT T clS em G)).foldl addB []).length = min (k + 1) (L + 1) + 1 := hS.rnd.lines A.la txtOK hE
  have hcount : (((rs.map (·.1)).map (lnT T clS em G)).foldl addB []).flatten.count 59 = (((rs.map (·.1)).map (lnT T clS em G)).foldl addB []).length := hS.rnd.count A.la txtOK hE
  have hsz : ∀ l ∈ ((rs.map (·.1)).map (lnT T clS em G)).foldl addB [], l.length ≤ 1000 := fun l hl => by
    rw [ddL_mem] at hl
    rcases hl with hl | hl
    · cases hl
    · obtain ⟨n, hn, rfl⟩ := List.mem_map.1 hl
      obtain ⟨r, hr, rfl⟩ := List.mem_map.1 hn
      exact (line_ts (w := wr) (t := t') (mb := mb) (hide hS.ts) hO (hN r hr) (hide hS.st) hS.mt hS.sm (hide ((unhide hd).move k2.2.2)) k2.2.1).2
  have hnx : k ≤ L → Rnd L E (k + 1) (stG ((rs.map (·.1)).map fun n => (n, (((rs.map (·.1)).map (lnT T clS em G)).foldl addB []).idxOf (lnT T clS em G n)))) := fun hk => (hS.rnd.next A.la txtOK hE (by have := A.few; omega) hk).congr (fun j hj => stG_map (f := fun n => (((rs.map (·.1)).map (lnT T clS em G)).foldl addB []).idxOf (lnT T clS em G n)) (hE.all j hj))
  have hsm : ∀ c, stG ((rs.map (·.1)).map fun n => (n, (((rs.map (·.1)).map (lnT T clS em G)).foldl addB []).idxOf (lnT T clS em G n))) c < 100 := fun c => stG_lt (fun p hp => by
    obtain ⟨n, hn, rfl⟩ := List.mem_map.1 hp
    have : lnT T clS em G n ∈ ((rs.map (·.1)).map (lnT T clS em G)).foldl addB [] := by
      rw [ddL_mem]
      exact .inr (List.mem_map.2 ⟨n, hn, rfl⟩)
    have := List.idxOf_lt_length_iff.2 this
    have := A.few
    show List.idxOf _ _ < 100
    omega) (by decide) c
  refine hc.mono ?_
  rintro e w' ⟨t1, sb, cap, ao, rfl, hT, hF, hSt, hst, hs0, hOw⟩
  have hfew := A.few
  refine ⟨t1, sb, cap, _, ao, _, _, rfl, by omega, by omega, rfl, fun hk => ⟨unhide hT, hS.fr.trans (unhide hF), unhide hSt, hst, own_ts hS.row hS.ts (unhide hF) (by decide) (by decide), hnx hk, hsm⟩, ⟨unhide hT, hS.fr.trans (unhide hF)⟩, hOw, hcount, hsz⟩
set_option maxRecDepth 100000 in
set_option maxHeartbeats 4000000 in
theorem smallest_any {w : World} {t : TB} {T : List Te} {L : Nat} {E v : Nat → Nat} {clS : Nat → Spans} {em : Nat → Bool} {B : Int} (h : Hid (TS w t T)) (hO : TOk T) (A : LS T L E v clS em) (hB : (L : Int) + 2 ≤ B) (hd : Hid (DbOk w)) (hdt : ¬ TF t 3) :
    Calls Tryz.prog 26 #[.pointer (some ⟨t.tb, 0, none⟩), .int .i64 (E L), .int .i64 B] w (SmOut w t T L) := by
  have HRM := hide (rem_any (K := L + 2) (B := B) (n0 := E L) (P := isE L E) (clS := clS) h hO ⟨L, by omega, rfl⟩ (fun n hn => by
    obtain ⟨j, hj, rfl⟩ := id hn
    obtain ⟨a, b, _⟩ := A.ok j hj
    exact ⟨a, b, fun c _ => A.step hn c⟩) (fun rs h1 h2 => isE_few h1 h2) (by have := A.few; omega) (by omega))
  have HTA : Hid (∀ (wr : World) (t' : TB) (lg lcap mb k : Nat) (G : List (Nat × Nat)) (rs : List Rm), Cls T (isE L E) (fun n => bordersP (clS n)) rs rs.length (E L) → Smi w wr t t' T L E lg lcap mb k G rs → Calls Tryz.prog 48 #[.pointer (some ⟨t.tb, 0, none⟩), .slice (some ⟨lg, 0, none⟩) rs.length lcap, .map (some mb)] wr (SmTell w t T L E lg lcap k rs wr.heap.size)) := fun wr t' lg lcap mb k G rs hC hS => sm_tell hO A hd hdt hC hS
  have HL : Hid (L ≤ 20) := A.few
  have hL20 : L ≤ 20 := A.few
  generalize hQ : SmOut w t T L = QQ
  have HQ := hide hQ
  have hm1 : ∀ w : World, (Instr.makeMap 102 none).run Tryz.prog w = .ok (.map (some w.heap.size)) (w.alloc (mkMap [])) := fun w => rfl
  clear hQ hO A hB hd hdt h
  go_enter Tryz.func26, Tryz.ntmps26
  go_wp2_with (go_at_call 47; refine (unhide HRM).mono ?_; clear HRM; rintro e w1 ⟨t1, rs, lg, lcap, rfl, HT1, HF1, HO1, HC1⟩)
  have HS0 : Hid (Smi w (w1.alloc (mkMap [])) t t1 T L E lg lcap w1.heap.size 0 [] rs) := by
    have hb := (Below.refl w1.heap.size w1).alloc (Nat.le_refl _) (mkMap [])
    exact ⟨unhide (TS.below HT1 hb), (unhide HF1).trans (TFr.below hb), ⟨heap_alloc_new w1 (mkMap []), (fun p hp => by cases hp), List.nodup_nil⟩, (fun e => by have := (unhide HT1).foot e; omega), own_below (unhide HO1) hb (Nat.le_refl _), (Rnd.zero L E).congr (fun j hj => rfl), fun c => by show (0 : Nat) < 100; decide⟩
  clear HT1 HF1 HO1 hm1
  generalize w1.alloc (mkMap []) = w2 at *
  generalize w1.heap.size = mb0 at *
  go_loopw [8, 9] (fun v i wr => ∃ (k mb : Nat) (t' : TB) (G : List (Nat × Nat)), k ≤ L + 1 ∧ v = .map (some mb) ∧ i = .int .i64 ((k : Int) + 1) ∧ Hid (Smi w wr t t' T L E lg lcap mb k G rs)) (fun _ i _ => L + 3 - (intOf i).toNat)
  case atStart => exact ⟨0, mb0, t1, [], by omega, rfl, rfl, HS0⟩
  case round =>
    obtain ⟨k, mb, t', G, hk, rfl, rfl, HS⟩ := hrel
    clear HS0
    have HTL := hide (unhide HTA wr t' lg lcap mb k G rs (unhide HC1) (unhide HS))
    clear HTA HS
    by_cases hkL : k ≤ L
    · go_wp2_with (go_at_call 48; refine (unhide HTL).mono ?_; clear HTL; rintro e w3 ⟨t3, sb, cap, m, ao, FL, G', rfl, hm22, hm, HLF, HSN, -, -, -⟩; have hmk : m = k + 2 := (by omega); clear hm; subst hmk; have HSM := hide (unhide HSN hkL); clear HSN)
      refine ⟨⟨k + 1, sb, t3, G', by omega, rfl, by go_num, HSM⟩, ?_⟩
      simp [intOf]
      omega
    · have hkk : k = L + 1 := by omega
      subst hkk
      go_wp2_with (first
        | (go_at_call 48; refine (unhide HTL).mono ?_; clear HTL; rintro e w3 ⟨t3, sb, cap, m, ao, FL, G', rfl, hm22, hm, HLF, -, HTF, HOW, HCT⟩; have hmk : m = L + 2 := (by omega); clear hm; subst hmk; have hjl : (Lib.join FL []).length ≤ 22000 := (by refine Nat.le_trans (join_len (M := 1000) (sep := []) FL (unhide HCT).2) ?_; rw [unhide HLF]; show (L + 2) * 1000 ≤ 22000; omega); have HJ := hide (join_any (w := w3) (B := wr.heap.size) (ao := ao) (cap := cap) (ss := FL) [] (by rw [unhide HLF]; exact unhide HOW) (by rw [unhide HLF]; omega) (by omega)); rw [unhide HLF, join_flat] at HJ; rw [join_flat] at hjl)
        | (go_at_call 49; refine (unhide HJ).mono ?_; clear HJ; rintro e w4 ⟨rfl, hb4⟩; have HB4 := hide hb4; clear hb4))
      rw [← unhide HQ]
      refine ⟨t3, FL.flatten, rfl, (unhide HCT).1, by omega, TS.below (hide (unhide HTF).1) (unhide HB4), (unhide HTF).2.trans (TFr.below (unhide HB4))⟩
end Go.Proofs.YtfolanohokflkabGreatDoor
