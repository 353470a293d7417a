import Derived.Test.YtfolanohokflkabGreatDoorMnC
import Derived.Test.YtfolanohokflkabGreatDoorStrA
import Derived.Test.YtfolanohokflkabGreatDoorNsB
import Derived.Deep.RegionHeld3
import Derived.Deep.AppendLies
import Derived.Deep.DrawnRows
/-
  line.
-/
namespace Go.Proofs.YtfolanohokflkabGreatDoor
open Go.RowKit
attribute [local go_sem ↓] Go.wp_at_zero Go.wp_at_succ
/-- the place of the noughts at the end of sixteen. -/
def DbOk (w : World) : Prop := w.cell? ⟨3, 15, none⟩ = some (.int .u8 4)
theorem DbOk.lt {w : World} (h : DbOk w) : 3 < w.heap.size := World.block_lt_of_cell? w _ h
theorem DbOk.move {w w' : World} (h : DbOk w) (e : w'.heap[3]? = w.heap[3]?) : DbOk w' := by
  unfold DbOk
  rw [World.cell?_of_block (a := ⟨3, 15, none⟩) e]
  exact h
theorem DbOk.below {w w' : World} (h : DbOk w) (hb : Below w.heap.size w w') : DbOk w' := h.move (hb.block _ h.lt)
theorem wrap_small (n : Nat) (h : n ≤ 2000000) : IntKind.i64.wrap (n : Int) = (n : Int) := by
  simp [IntKind.wrap, IntKind.bits, IntKind.signed]
  omega
theorem tx_sp {x : Sp} : tx (hxT x.1) ++ tx [45] ++ tx (hxT x.2.1) ++ tx [62] ++ tx (dcT x.2.2) = tx (spText hxT dcT x) := by
  apply ByteArray.ext
  unfold spText
  simp
theorem tx_line {em : Bool} {ss : List (List UInt8)} : tx [if em = true then 43 else 45] ++ tx (Lib.join ss [44]) ++ tx [59] = tx ((if em = true then 43 else 45) :: (commaL ss ++ [59])) := by
  apply ByteArray.ext
  rw [commaL_eq]
  simp
theorem grown_cell {w6 w8 : World} {o : Obj} {v : Value} {pb j : Nat} {u : Value} (hg : (w6.alloc o).grownBy w8 v.ownBlock) (hne : v.ownBlock ≠ some pb) (h : w6.cell? ⟨pb, j, none⟩ = some u) : w8.cell? ⟨pb, j, none⟩ = some u := by
  have hl : pb < w6.heap.size := World.block_lt_of_cell? w6 _ h
  rw [World.cell?_of_block (a := ⟨pb, j, none⟩) ((hg.block pb (by rw [World.size_alloc]; omega) (fun e => hne e.symm)).trans (Below.heap_alloc w6 o pb hl))]
  exact h
set_option maxRecDepth 100000 in
set_option maxHeartbeats 4000000 in
theorem line_any {w : World} {t : TB} {T : List Te} {n mb : Nat} {G : List (Nat × Nat)} {l : Spans} {x : Te} (h : Hid (TS w t T)) (hO : TOk T) (hr : Row T n) (hcl : ClsR T n l) (hx : T[n]? = some x) (hM : Hid (StM w mb G)) (hmt : ¬ TF t mb) (hG : ∀ c, stG G c < 100) (hd : Hid (DbOk w)) (hdt : ¬ TF t 3) :
    Calls Tryz.prog 81 #[.pointer (some ⟨t.tb, 0, none⟩), .int .i64 n, .map (some mb)] w fun e w' => ∃ t' : TB, e = .returned (.string (tx (lineP hxT dcT x.2 (spansP (bordersP l) fun c => stG G (stpT T n c))))) ∧ Hid (TS w' t' T) ∧ Hid (TFr t t' w w') := by
  have HS := hide (spans_any h hO hr hcl hM hmt)
  obtain ⟨st, hs⟩ := hcl.set
  have HRG := hide (spans_rng (cl := bordersP l) (st := fun c => stG G (stpT T n c)) (fun k hk => by
    have := isSym_iff.1 (hs.sy ((bordersP l).getD k 0) (by simp [List.getD, hk]))
    omega) (fun k h0 hk => lows_pos hs h0 hk) _ (Nat.le_refl _))
  rw [List.take_length] at HRG
  have hlen : (spansP (bordersP l) fun c => stG G (stpT T n c)).length ≤ 12 := by
    refine Nat.le_trans (spans_len _ _) ?_
    rw [lowsP_len]
    unfold lowsP
    rw [List.length_map]
    exact hs.few
  have HGS : Hid (∀ y ∈ spansP (bordersP l) fun c => stG G (stpT T n c), y.2.2 < 100) := fun y hy => by
    obtain ⟨_, _, c, e⟩ := unhide HRG y hy
    rw [e]
    exact hG _
  have HDK : Hid (∀ (w' : World) (t' : TB), TFr t t' w w' → DbOk w') := fun w' t' f => (unhide hd).move (f.kept (unhide hd).lt hdt).2.2
  have hnI : (n : Int) < (T.length : Int) := by have := hr.lt; omega
  have HX := hide hx
  generalize spansP (bordersP l) (fun c => stG G (stpT T n c)) = sp at *
  obtain ⟨i0, hi0, hz0, hz1, hz2⟩ := info_parts infoStr
  clear h hO hr hcl hM hmt hG hd hdt hs hx
  go_enter Tryz.func81, Tryz.ntmps81
  go_wp2_with (go_at_call 141; refine (unhide HS).mono ?_; clear HS; rintro e w1 ⟨t1, sa, scap, rfl, HO1, HT1, HF1⟩)
  have HD1 := hide (unhide HDK w1 t1 (unhide HF1))
  clear HDK
  obtain ⟨sao, scp, es, hsv⟩ := own_view (unhide HO1)
  injection es with es1 es2 es3
  subst es1
  subst es3
  have HSV := hide hsv
  clear hsv HO1 es2
  go_loopw [7, 16] (fun v i wr => ∃ (k cv : Nat) (av : Option Addr), k ≤ sp.length ∧ i = .int .i64 (k : Int) ∧ v = .slice av k cv ∧ Hid (wr.ownsRow w1.heap.size 9 1 (.slice av k cv) k (strCells ((sp.take k).map (spText hxT dcT)))) ∧ Hid (Below w1.heap.size w1 wr)) (fun _ i _ => sp.length - (intOf i).toNat)
  case atStart => exact ⟨0, 0, none, Nat.zero_le _, rfl, rfl, World.ownsRow_nil _ _ _ _, Below.refl _ _⟩
  case round =>
    obtain ⟨k, cv, av, hk, rfl, rfl, HO, HB⟩ := hrel
    by_cases hlt : k < sp.length
    · obtain ⟨sg, rfl, -, hsg, hsc, -⟩ := unhide HSV (by omega)
      obtain ⟨g0, g1, g2⟩ := sp_get sp k sp[k] (List.getElem?_eq_getElem hlt)
      have c0 := hsc (k * 3) (by omega)
      have c1 := hsc (k * 3 + 1) (by omega)
      have c2 := hsc (k * 3 + 2) (by omega)
      rw [g0, ← (unhide HB).cell (p := ⟨sg, k * 3, none⟩) hsg] at c0
      rw [g1, ← (unhide HB).cell (p := ⟨sg, k * 3 + 1, none⟩) hsg] at c1
      rw [g2, ← (unhide HB).cell (p := ⟨sg, k * 3 + 2, none⟩) hsg] at c2
      obtain ⟨⟨r1, r2⟩, ⟨r3, r4⟩, -⟩ := unhide HRG sp[k] (List.getElem_mem hlt)
      have r5 := unhide HGS sp[k] (List.getElem_mem hlt)
      have HTK := hide (show (sp.take (k + 1)).map (spText hxT dcT) = (sp.take k).map (spText hxT dcT) ++ [spText hxT dcT sp[k]] from by rw [List.take_succ_eq_append_getElem hlt, List.map_append]; rfl)
      have HTX := hide (tx_sp (x := sp[k]))
      have hkI : (k : Int) < (sp.length : Int) := by omega
      generalize spText hxT dcT sp[k] = sx at *
      obtain ⟨la, hla⟩ : ∃ la : Nat, sp[k].1 = (la : Int) := ⟨sp[k].1.toNat, by omega⟩
      obtain ⟨lb, hlb⟩ : ∃ lb : Nat, sp[k].2.1 = (lb : Int) := ⟨sp[k].2.1.toNat, by omega⟩
      rw [hla] at r1 r2 c0 HTX
      rw [hlb] at r3 r4 c1 HTX
      generalize sp[k].2.2 = ls at *
      obtain ⟨xa, hxa⟩ : ∃ xa, tx (hxT (la : Int)) = xa := ⟨_, rfl⟩
      obtain ⟨xb, hxb⟩ : ∃ xb, tx (hxT (lb : Int)) = xb := ⟨_, rfl⟩
      obtain ⟨xc, hxc⟩ : ∃ xc, tx (dcT ls) = xc := ⟨_, rfl⟩
      have sa1 : xa.size ≤ 9 := by rw [← hxa]; exact hex_len _
      have sb1 : xb.size ≤ 9 := by rw [← hxb]; exact hex_len _
      have sc1 : xc.size ≤ 2 := by rw [← hxc]; exact dec_len r5
      have HFA : Hid (∀ W : World, DbOk W → Calls Tryz.prog 142 #[.int .i64 (IntKind.i64.wrap (la : Int)), .int .i64 16] W fun e w' => e = .returned (.string xa) ∧ Below W.heap.size W w') := fun W hc => by rw [← hxa, wrap_small la (by omega)]; exact fmt_any W la (by omega) hc
      have HFB : Hid (∀ W : World, DbOk W → Calls Tryz.prog 142 #[.int .i64 (IntKind.i64.wrap (lb : Int)), .int .i64 16] W fun e w' => e = .returned (.string xb) ∧ Below W.heap.size W w') := fun W hc => by rw [← hxb, wrap_small lb (by omega)]; exact fmt_any W lb (by omega) hc
      have HIT : Hid (∀ W : World, Calls Tryz.prog 59 #[.int .i64 (ls : Int)] W fun e w' => e = .returned (.string xc) ∧ W = w') := fun W => by rw [← hxc]; exact itoa_any ls r5 W
      rw [hxa, hxb, hxc] at HTX
      clear hxa hxb hxc hla hlb g0 g1 g2 hsc HSV HRG HGS r5
      have P0 := hide (cells_at (w := wr) (o := .cells #[.int .i32 (la : Int), .int .i32 (lb : Int), .int .i64 (ls : Int)] 201) rfl 0 rfl)
      have P1 := hide (cells_at (w := wr) (o := .cells #[.int .i32 (la : Int), .int .i32 (lb : Int), .int .i64 (ls : Int)] 201) rfl 1 rfl)
      have P2 := hide (cells_at (w := wr) (o := .cells #[.int .i32 (la : Int), .int .i32 (lb : Int), .int .i64 (ls : Int)] 201) rfl 2 rfl)
      have HBQ := hide ((unhide HB).alloc (unhide HB).size (.cells #[.int .i32 (la : Int), .int .i32 (lb : Int), .int .i64 (ls : Int)] 201))
      have HOQ := hide ((unhide HO).alloc (.cells #[.int .i32 (la : Int), .int .i32 (lb : Int), .int .i64 (ls : Int)] 201))
      have HLQ : Hid (wr.heap.size < (wr.alloc (.cells #[.int .i32 (la : Int), .int .i32 (lb : Int), .int .i64 (ls : Int)] 201)).heap.size) := by rw [World.size_alloc]; exact Nat.lt_succ_self _
      have HNE : Hid ((Value.slice av k cv).ownBlock ≠ some wr.heap.size) := fun e => by have := ((unhide HO).lt _ e).2; omega
      go_wp2_with fail
      generalize wr.alloc (.cells #[.int .i32 (la : Int), .int .i32 (lb : Int), .int .i64 (ls : Int)] 201) = wq at *
      generalize wr.heap.size = pb at *
      have HDQ : Hid (DbOk wq) := (unhide HD1).move ((unhide HBQ).block _ (unhide HD1).lt)
      clear c0 c1 c2 HO HB
      obtain ⟨s1, hs1⟩ : ∃ s1, xa ++ tx [45] = s1 := ⟨_, rfl⟩
      obtain ⟨s2, hs2⟩ : ∃ s2, s1 ++ xb = s2 := ⟨_, rfl⟩
      obtain ⟨s3, hs3⟩ : ∃ s3, s2 ++ tx [62] = s3 := ⟨_, rfl⟩
      have z1 : s1.size ≤ 10 := by rw [← hs1, ByteArray.size_append]; show xa.size + 1 ≤ 10; omega
      have z2 : s2.size ≤ 19 := by rw [← hs2, ByteArray.size_append]; omega
      have z3 : s3.size ≤ 20 := by rw [← hs3, ByteArray.size_append]; show s2.size + 1 ≤ 20; omega
      rw [hs1, hs2, hs3] at HTX
      have k1 : ∀ W : World, (Op.stringOp .add xa ⟨#[45]⟩).run Tryz.prog W = .ok (.string s1) W := fun W => by rw [← hs1]; exact run_string_add_sum W _ _ (by show xa.size + 1 ≤ _; omega)
      have k2 : ∀ W : World, (Op.stringOp .add s1 xb).run Tryz.prog W = .ok (.string s2) W := fun W => by rw [← hs2]; exact run_string_add_sum W _ _ (by omega)
      have k3 : ∀ W : World, (Op.stringOp .add s2 ⟨#[62]⟩).run Tryz.prog W = .ok (.string s3) W := fun W => by rw [← hs3]; exact run_string_add_sum W _ _ (by show s2.size + 1 ≤ _; omega)
      have k4 : ∀ W : World, (Op.stringOp .add s3 xc).run Tryz.prog W = .ok (.string (tx sx)) W := fun W => by rw [← unhide HTX]; exact run_string_add_sum W _ _ (by omega)
      clear hs1 hs2 hs3 sa1 sb1 sc1 z1 z2 z3
      have p0 : wq.drew.cell? ⟨pb, 0, none⟩ = some (.int .i32 (la : Int)) := unhide P0
      have p1 : wq.drew.cell? ⟨pb, 1, none⟩ = some (.int .i32 (lb : Int)) := unhide P1
      have p2 : wq.drew.cell? ⟨pb, 2, none⟩ = some (.int .i64 (ls : Int)) := unhide P2
      go_region_held3 (fun w' => w'.cell? ⟨pb, 0, none⟩ = some (.int .i32 (la : Int)) ∧ w'.cell? ⟨pb, 1, none⟩ = some (.int .i32 (lb : Int)) ∧ w'.cell? ⟨pb, 2, none⟩ = some (.int .i64 (ls : Int))) (go_keep)
        (first
          | (have HFA' := HFA; clear HFA; go_at_call 142; refine (unhide HFA' wq.drew (unhide HDQ)).mono ?_; rintro e w5 ⟨rfl, hb5⟩; have HB5 := hide hb5; clear hb5; have q0 := cell_under HB5 (unhide HLQ) p0; have q1 := cell_under HB5 (unhide HLQ) p1; have q2 := cell_under HB5 (unhide HLQ) p2)
          | (have HFB' := HFB; clear HFB; go_at_call 142; refine (unhide HFB' w5 (DbOk.below (w := wq.drew) (unhide HDQ) (unhide HB5))).mono ?_; rintro e w6 ⟨rfl, hb6⟩; have HB6 := hide hb6; clear hb6; have r0 := cell_under HB6 (Nat.lt_of_lt_of_le (unhide HLQ) (unhide HB5).size) q0; have r1 := cell_under HB6 (Nat.lt_of_lt_of_le (unhide HLQ) (unhide HB5).size) q1; have r2 := cell_under HB6 (Nat.lt_of_lt_of_le (unhide HLQ) (unhide HB5).size) q2; have HO6 := hide (own_below (own_below (unhide HOQ).drew (unhide HB5) (Nat.le_refl _)) (unhide HB6) (Nat.le_refl _)); have hs6 : w1.heap.size ≤ w6.heap.size := Nat.le_trans (unhide HBQ).size (Nat.le_trans (unhide HB5).size (unhide HB6).size))
          | (go_at_call 59; refine (unhide HIT _).mono ?_; rintro e w7 ⟨rfl, rfl⟩)
          | ((refine step_append_lies _ (by rfl) _ _ _ (by rfl) w1.heap.size 9 i0 _ 1 16 Tryz.underlying28 hi0 hz0 hz1 hz2 rfl (by omega) (.slice av k cv) k (strCells ((sp.take k).map (spText hxT dcT))) (by rfl) ((unhide HO6).alloc _) ⟨w6.heap.size, 0, none⟩ 1 1 [.string (tx sx)] (by rfl) (by rfl) (World.news_of_block (cs := #[.string (tx sx)]) (t := 9) (fr := (0, 0)) (heap_alloc_new w6 _)) (c_one _ rfl) (by omega) (by unfold maxLen; omega) (by omega) (by rw [World.size_alloc]; omega) (w6.heap.size + 1) (by simp) ?_; intro gg cap2 w8 hown1 hgrow hat hlt3; have HOA := hide hown1; have HGR := hide hgrow; clear hown1 hgrow hat; have v0 := grown_cell (unhide HGR) (unhide HNE) r0; have v1 := grown_cell (unhide HGR) (unhide HNE) r1; have v2 := grown_cell (unhide HGR) (unhide HNE) r2)))
      clear p0 p1 p2 q0 q1 q2 r0 r1 r2 v0 v1 v2 k1 k2 k3 k4
      have HBE : Hid (Below w1.heap.size w1 w8) := by
        have hb := unhide HBQ
        have hbd : Below w1.heap.size w1 wq.drew := ⟨hb.os, hb.tape, hb.output, hb.size, hb.block⟩
        have b5 := hbd.trans ((unhide HB5).mono hbd.size)
        have b6 := b5.trans ((unhide HB6).mono b5.size)
        exact below_grown (b6.alloc b6.size _) ((unhide HO6).alloc _) (unhide HGR) (by rw [World.size_alloc]; omega)
      go_wp2_with fail
      go_roundw
      case rel =>
        refine ⟨k + 1, cap2, some ⟨gg, 0, none⟩, by omega, by go_num, rfl, ?_, HBE⟩
        rw [unhide HTK, strCells_append]
        exact HOA
      case measure => simp [intOf]; omega
    · have hkl : k = sp.length := by omega
      subst hkl
      rw [List.take_length] at HO
      have HT2 := TS.below HT1 (unhide HB)
      obtain ⟨gt, gcap, d0, d1⟩ := (unhide HT2).at (unhide HX)
      rw [(unhide HF1).tb] at d0
      have hssl : (sp.map (spText hxT dcT)).length = sp.length := List.length_map _
      have hjl : (Lib.join (sp.map (spText hxT dcT)) [44]).length ≤ 276 := by
        refine Nat.le_trans (join_len (M := 22) (sep := [44]) (sp.map (spText hxT dcT)) (fun y hy => ?_)) ?_
        · obtain ⟨z, hz, rfl⟩ := List.mem_map.1 hy
          exact spText_len (unhide HGS z hz)
        · rw [hssl]
          have : sp.length * (22 + [44].length) ≤ 12 * 23 := Nat.mul_le_mul_right _ hlen
          exact this
      have HJ := hide (join_any (w := wr) (B := w1.heap.size) (ao := av) (cap := cv) (ss := sp.map (spText hxT dcT)) [44] (by rw [hssl]; exact unhide HO) (by rw [hssl]; omega) (by omega))
      rw [hssl] at HJ
      have HLN := hide (tx_line (em := x.2) (ss := sp.map (spText hxT dcT)))
      have HLP : Hid (lineP hxT dcT x.2 sp = (if x.2 = true then 43 else 45) :: (commaL (sp.map (spText hxT dcT)) ++ [59])) := rfl
      obtain ⟨js, hjs⟩ : ∃ js, tx (Lib.join (sp.map (spText hxT dcT)) [44]) = js := ⟨_, rfl⟩
      have hjz : js.size ≤ 276 := by rw [← hjs]; exact hjl
      rw [hjs] at HLN HJ
      have HQ : Hid (∀ w' : World, Below wr.heap.size wr w' → TS w' t1 T ∧ TFr t t1 w w') := fun w' hb => by
        have hb1 : Below w1.heap.size w1 w' := (unhide HB).trans (hb.mono (unhide HB).size)
        exact ⟨unhide (TS.below HT1 hb1), (unhide HF1).trans (TFr.below hb1)⟩
      clear hjs hjl hssl HO HSV HRG HGS HT1 HT2 HF1 HB HD1 HX
      obtain ⟨xk, xe⟩ := x
      dsimp only at d1 HLN HLP
      cases xe with
      | true =>
        have HLE : Hid ((⟨#[43]⟩ : ByteArray) ++ js ++ ⟨#[59]⟩ = tx (lineP hxT dcT true sp)) := unhide HLN
        clear HLN HLP
        go_wp2_with (go_at_call 49; refine (unhide HJ).mono ?_; clear HJ; rintro e w9 ⟨rfl, hb9⟩; have HB9 := hide hb9; clear hb9)
        go_ret
        exact ⟨congrArg (fun z => Ending.returned (.string z)) (unhide HLE), t1, (unhide HQ _ (unhide HB9)).1, (unhide HQ _ (unhide HB9)).2⟩
      | false =>
        have HLE : Hid ((⟨#[45]⟩ : ByteArray) ++ js ++ ⟨#[59]⟩ = tx (lineP hxT dcT false sp)) := unhide HLN
        clear HLN HLP
        go_wp2_with (go_at_call 49; refine (unhide HJ).mono ?_; clear HJ; rintro e w9 ⟨rfl, hb9⟩; have HB9 := hide hb9; clear hb9)
        go_ret
        exact ⟨congrArg (fun z => Ending.returned (.string z)) (unhide HLE), t1, (unhide HQ _ (unhide HB9)).1, (unhide HQ _ (unhide HB9)).2⟩
end Go.Proofs.YtfolanohokflkabGreatDoor
