import Derived.Test.YtfolanohokflkabGreatDoorMnM
import Derived.Defers
import Derived.Recover
import Derived.Test.YtfolanohokflkabGreatDoorMtC
import Derived.Test.YtfolanohokflkabGreatDoorTabC
/-
  attempt over Minimal's work.
-/
namespace Go.Proofs.YtfolanohokflkabGreatDoor
open Go.RowKit
set_option maxRecDepth 100000 in
set_option maxHeartbeats 4000000 in
theorem attempt_min {w : World} {u : List Nat} {k0 k1 k2 : Nat} {m : Nd} {B : Int} (hu : u.length ≤ 20) (hB : (u.length : Int) + 2 ≤ B) (h0 : Hid (NdAt w k0 m)) (h1 : w.cell? ⟨k1, 0, none⟩ = some (.int .i64 B)) (h2 : w.cell? ⟨k2, 0, none⟩ = some (.string ⟨#[]⟩)) (h2z : w.frozen? ⟨k2, 0, none⟩ = false) (hk02 : k2 ≠ k0) (hk12 : k2 ≠ k1) (hd : Hid (DbOk w))
    (HO : Hid (∀ (X : World) (t : TB), Hid (Below w.heap.size w X) → Hid (Tab X t tab0 (numPairs tab0) [] []) → Calls Tryz.prog 27 #[.pointer (some ⟨t.tb, 0, none⟩), vNd m] X fun e w' => ∃ (n : Nat) (t' : TB) (T : List Te), e = .returned (.int .i64 n) ∧ Hid (LitR2 u n T) ∧ Hid (Tab w' t' T (numPairs T) [] []) ∧ Hid (TFr t t' X w'))) :
    Calls Tryz.prog 23 #[.func (.func 24) #[] #[.pointer (some ⟨k0, 0, none⟩), .pointer (some ⟨k1, 0, none⟩), .pointer (some ⟨k2, 0, none⟩)]] w fun e w' => e = .returned (.agg #[.int .i64 0, .int .i64 0]) ∧ Hid (Up k2 w w') ∧ ∃ s, Hid (MinS u s) ∧ w'.cell? ⟨k2, 0, none⟩ = some (.string (tx s)) := by
  have hmf : ∀ (fn : Fn) (first cap : Array Value) (w : World), (Instr.makeFunc fn first cap).run Tryz.prog w = .ok (.func fn first cap) w := fun _ _ _ _ => rfl
  have hl1 := World.block_lt_of_cell? w _ h1
  have hl2 := World.block_lt_of_cell? w _ h2
  have HA : Hid (Below w.heap.size w (w.alloc (.cells #[.int .i64 0, .int .i64 0] 57))) := (Below.refl _ _).alloc (Nat.le_refl _) _
  have HW := hide (work_min (w := w.alloc (.cells #[.int .i64 0, .int .i64 0] 57)) hu hB (NdAt.alloc h0 _) (cell_under HA hl1 h1) (cell_under HA hl2 h2) (by rw [World.frozen?_of_block (a := ⟨k2, 0, none⟩) ((unhide HA).block _ hl2)]; exact h2z) hk02 hk12 (hide ((unhide hd).below (unhide HA))) (hide fun X t hb ht => unhide HO X t ((unhide HA).trans ((unhide hb).mono (unhide HA).size)) ht))
  have hnew : w.heap.size < (w.alloc (.cells #[.int .i64 0, .int .i64 0] 57)).heap.size := by simp
  have c0 := cells_new w [.int .i64 0, .int .i64 0] 57 0 _ rfl
  have c1 := cells_new w [.int .i64 0, .int .i64 0] 57 1 _ rfl
  have hne : w.heap.size ≠ k2 := by have : k2 < w.heap.size := hl2; omega
  have HN := hide hnew
  have C0 := hide c0
  have C1 := hide c1
  have H2 := hide h2
  have HL2 : Hid (k2 < w.heap.size) := hl2
  clear h0 h1 h2 h2z HO hl1 hl2 hnew c0 c1 hd hk02 hk12
  go_enter_defers Tryz.func23, Tryz.ntmps23
  go_wp2_with (go_at_call 24; refine (unhide HW).mono ?_; clear HW; rintro e w1 ⟨rfl, W, s, HMS, HB, ew⟩; have HU : Hid (Up k2 (w.alloc (.cells #[.int .i64 0, .int .i64 0] 57)) w1) := (by rw [ew]; exact (Up.below (unhide HB)).trans ⟨rfl, rfl, rfl, by simp [World.setCell], fun j _ hb => Below.heap_setCell W ⟨k2, 0, none⟩ _ j hb⟩); have Q2 : Hid (w1.cell? ⟨k2, 0, none⟩ = some (.string (tx s))) := (by rw [ew]; exact World.cell?_setCell_same _ _ _ (cell_under HB (Nat.lt_trans (unhide HL2) (unhide HN)) (cell_under HA (unhide HL2) (unhide H2)))); clear ew; have q0 : w1.cell? ⟨w.heap.size, 0, none⟩ = some (.int .i64 0) := (by rw [World.cell?_of_block (a := ⟨w.heap.size, 0, none⟩) ((unhide HU).block _ (unhide HN) hne)]; exact unhide C0); have q1 : w1.cell? ⟨w.heap.size, 1, none⟩ = some (.int .i64 0) := (by rw [World.cell?_of_block (a := ⟨w.heap.size, 1, none⟩) ((unhide HU).block _ (unhide HN) hne)]; exact unhide C1); have z0 : w1.frozen? ⟨w.heap.size, 0, none⟩ = false := (by rw [World.frozen?_of_block (a := ⟨w.heap.size, 0, none⟩) ((unhide HU).block _ (unhide HN) hne)]; exact World.frozen?_alloc_at _ _ _ _ rfl); have z1 : w1.frozen? ⟨w.heap.size, 1, none⟩ = false := (by rw [World.frozen?_of_block (a := ⟨w.heap.size, 1, none⟩) ((unhide HU).block _ (unhide HN) hne)]; exact World.frozen?_alloc_at _ _ _ _ rfl))
  have hl1 := World.block_lt_of_cell? w1 _ q0
  refine leaves_cons (f := 44) (args := #[.pointer (some ⟨w.heap.size, 0, none⟩)]) (by simp) (by simp [go_sem]) ?_
  refine (catch_idle ⟨w.heap.size, 0, none⟩ _).mono ?_
  rintro e u' w'' ⟨rfl, rfl, rfl⟩
  show Leaves _ _ _ _ [] .returning _
  refine ⟨.agg #[.int .i64 0, .int .i64 0], ?_, rfl, ?_, s, HMS, ?_⟩
  · simp [results, Tryz.results23, go_sem, q0, q1]
  · exact Up.setNew (Up.setNew ((Up.below ((Below.refl _ _).alloc (Nat.le_refl _) _)).trans (unhide HU)) _ _ _ (Nat.le_refl _)) _ _ _ (Nat.le_refl _)
  · rw [World.cell?_of_block (a := ⟨k2, 0, none⟩) ((Below.heap_setCell _ ⟨w.heap.size, 1, none⟩ _ k2 (Ne.symm hne)).trans (Below.heap_setCell _ ⟨w.heap.size, 0, none⟩ _ k2 (Ne.symm hne)))]
    exact unhide Q2
end Go.Proofs.YtfolanohokflkabGreatDoor

/-
  Minimal of a literal.
-/
namespace Go.Proofs.YtfolanohokflkabGreatDoor
open Go.RowKit
set_option maxRecDepth 100000 in
set_option maxHeartbeats 4000000 in
theorem min_any {w : World} {p : ByteArray} {u : List Nat} {B : Int} {z : Pn} (hs : p.size ≤ 60) (hu : u.length ≤ 20) (ht : Hid (Lib.Utf8Tabs 4 5 w)) (hd : Hid (DbOk w)) (hR : Hid (treeR p = .ok z)) (hz : ¬ 60 < z.2) (hB : (u.length : Int) + 2 ≤ B) (hB1 : B ≤ 200)
    (HO : Hid (∀ (W : World) (b : Nat) (m : Nd) (X : World) (t : TB), Hid (NodeOK W (fun k => b < k) m z) → Hid (Below W.heap.size W X) → Hid (Tab X t tab0 (numPairs tab0) [] []) → Calls Tryz.prog 27 #[.pointer (some ⟨t.tb, 0, none⟩), vNd m] X fun e w' => ∃ (n : Nat) (t' : TB) (T : List Te), e = .returned (.int .i64 n) ∧ Hid (LitR2 u n T) ∧ Hid (Tab w' t' T (numPairs T) [] []) ∧ Hid (TFr t t' X w'))) :
    Calls Tryz.prog 10 #[.string p, .int .i64 B] w fun e w' => ∃ s, e = .returned (.tuple #[.string (tx s), .int .i64 0]) ∧ Hid (MinS u s) ∧ Hid (Below w.heap.size w w') := by
  obtain ⟨wb, hwb⟩ : ∃ wb, w.alloc (.cells #[.int .i64 B] 3) = wb := ⟨_, rfl⟩
  have HBb : Hid (Below w.heap.size w wb) := by
    rw [← hwb]
    exact (Below.refl _ _).alloc (Nat.le_refl _) _
  have htb : Hid (Lib.Utf8Tabs 4 5 wb) := by
    have hlt := tabs_lt (unhide ht)
    exact tabs_of (unhide ht) ((unhide HBb).block 4 (by omega)) ((unhide HBb).block 5 (by omega))
  have b1 : wb.cell? ⟨w.heap.size, 0, none⟩ = some (.int .i64 B) := by
    rw [← hwb]
    exact cells_at rfl 0 rfl
  have HBT := hide (begin_ok (w := wb) (B := B) hs htb hR hz (by omega) hB1)
  have hmf : ∀ (fn : Fn) (first cap : Array Value) (w : World), (Instr.makeFunc fn first cap).run Tryz.prog w = .ok (.func fn first cap) w := fun _ _ _ _ => rfl
  have HAM : Hid (∀ (w2 : World) (m : Nd), Hid (Below wb.heap.size wb w2) → Hid (NodeOK w2 (fun k => wb.heap.size < k) m z) → Calls Tryz.prog 23 #[.func (.func 24) #[] #[.pointer (some ⟨w2.heap.size, 0, none⟩), .pointer (some ⟨w.heap.size, 0, none⟩), .pointer (some ⟨w2.heap.size + 1, 0, none⟩)]] ((w2.alloc (obNd m)).alloc (.cells #[.string ⟨#[]⟩] 9)) fun e w' => e = .returned (.agg #[.int .i64 0, .int .i64 0]) ∧ Hid (Below w.heap.size w w') ∧ ∃ s, Hid (MinS u s) ∧ w'.cell? ⟨w2.heap.size + 1, 0, none⟩ = some (.string (tx s))) := by
    intro w2 m hb hn
    have hw2 : (w2.alloc (obNd m)).heap.size = w2.heap.size + 1 := by simp
    have hb0 : Below w.heap.size w w2 := (unhide HBb).trans ((unhide hb).mono (unhide HBb).size)
    have hA : Below w2.heap.size w2 ((w2.alloc (obNd m)).alloc (.cells #[.string ⟨#[]⟩] 9)) := ((Below.refl _ _).alloc (Nat.le_refl _) _).alloc (by rw [hw2]; omega) _
    have hc3 : ((w2.alloc (obNd m)).alloc (.cells #[.string ⟨#[]⟩] 9)).cell? ⟨w2.heap.size + 1, 0, none⟩ = some (.string ⟨#[]⟩) := by rw [← hw2]; exact cells_at rfl 0 rfl
    have hz3 : ((w2.alloc (obNd m)).alloc (.cells #[.string ⟨#[]⟩] 9)).frozen? ⟨w2.heap.size + 1, 0, none⟩ = false := by rw [← hw2]; exact World.frozen?_alloc_at _ _ _ _ rfl
    have hwl : w.heap.size < w2.heap.size := World.block_lt_of_cell? _ _ (cell_under hb (World.block_lt_of_cell? _ _ b1) b1)
    have hd2 : DbOk ((w2.alloc (obNd m)).alloc (.cells #[.string ⟨#[]⟩] 9)) := ((unhide hd).below hb0).below hA
    refine (attempt_min hu hB (NdAt.alloc (hide (NdAt.new w2 m)) _) (cell_under (hide hA) (World.block_lt_of_cell? _ _ (cell_under hb (World.block_lt_of_cell? _ _ b1) b1)) (cell_under hb (World.block_lt_of_cell? _ _ b1) b1)) hc3 hz3 (by omega) (by omega) (hide hd2) (hide fun X t hb' ht => unhide HO w2 wb.heap.size m X t hn (hide (hA.trans ((unhide hb').mono hA.size))) ht)).mono ?_
    rintro ex w' ⟨e, hU, s, hms, hc⟩
    have hU' := unhide hU
    have hAs := hA.size
    refine ⟨e, ⟨hU'.os.trans (hA.os.trans hb0.os), hU'.tape.trans (hA.tape.trans hb0.tape), hU'.output.trans (hA.output.trans hb0.output), Nat.le_trans hb0.size (Nat.le_trans hAs hU'.size), fun k hk => ?_⟩, s, hms, hc⟩
    have h2 := hb0.size
    exact (hU'.block k (by omega) (by omega)).trans ((hA.block k (by omega)).trans (hb0.block k hk))
  clear HO ht htb hR hz hs b1 HBb hd
  subst hwb
  go_enter Tryz.func10, Tryz.ntmps10
  go_wp2_with (first
    | (go_at_call 22; refine (unhide HBT).mono ?_; clear HBT; simp only [vNd]; rintro ex w2 ⟨m, rfl, HB2, HN2⟩; have HA2 := hide (unhide HAM w2 m HB2 HN2); clear HAM)
    | (go_at_call 23; refine (unhide HA2).mono ?_; clear HA2; rintro ex w3 ⟨rfl, HB3, s, HMS, q3⟩; have q4 := World.block_lt_of_cell? w3 _ q3))
  have g1 : (w3.alloc (.cells #[.int .i64 0, .int .i64 0] 57)).cell? ⟨w2.heap.size + 1, 0, none⟩ = some (.string (tx s)) := by rw [World.cell?_alloc_past _ _ _ q4]; exact q3
  have g2 : (w3.alloc (.cells #[.int .i64 0, .int .i64 0] 57)).cell? ⟨w3.heap.size, 0, none⟩ = some (.int .i64 0) := cells_at rfl 0 rfl
  have HB4 : Hid (Below w.heap.size w (w3.alloc (.cells #[.int .i64 0, .int .i64 0] 57))) := (unhide HB3).alloc (unhide HB3).size _
  generalize w3.alloc (.cells #[.int .i64 0, .int .i64 0] 57) = W4 at *
  go_quiet (fail)
  go_wp2_with fail
  have h := unhide HB4
  refine bodyPost_ret (v := .tuple #[.string (tx s), .int .i64 0]) ?_ rfl ⟨s, rfl, HMS, ⟨h.os, h.tape, h.output, h.size, h.block⟩⟩
  simp [results, Tryz.results10, go_sem]
end Go.Proofs.YtfolanohokflkabGreatDoor

/-
  A text of symbols below 128, byte for byte.
-/
namespace Go.Proofs.YtfolanohokflkabGreatDoor
open Go.RowKit
theorem enc_low (c : Nat) (h : c < 128) : Utf8.encode (c : Int) = ⟨#[UInt8.ofNat c]⟩ := by
  have : ∀ c : Fin 128, Utf8.encode ((c.val : Nat) : Int) = ⟨#[UInt8.ofNat c.val]⟩ := by decide +kernel
  exact this ⟨c, h⟩
theorem runes_low : ∀ (u : List Nat), (∀ c ∈ u, c < 128) → runesBytes (sysOf u) = ⟨(u.map UInt8.ofNat).toArray⟩
  | [], _ => rfl
  | c :: u, h => by
    have ih := runes_low u (fun d hd => h d (List.mem_cons_of_mem _ hd))
    show runesBytes ((c : Int) :: sysOf u) = _
    rw [runesBytes_cons, ih, enc_low c (h c (List.mem_cons_self ..))]
    apply ByteArray.ext
    simp
theorem size_low {u : List Nat} (h : ∀ c ∈ u, c < 128) : (runesBytes (sysOf u)).size = u.length := by
  rw [runes_low u h]
  simp [ByteArray.size]
end Go.Proofs.YtfolanohokflkabGreatDoor

/-
  The law Literal.
-/
namespace Go.Proofs.YtfolanohokflkabGreatDoor
open Go.RowKit
theorem runes_bytes {u : List Nat} (h : ∀ c ∈ u, c < 128) : runesBytes (sysOf u) = bytesOf u := runes_low u h
theorem tree_esc {u : List Nat} (h : ∀ c ∈ u, c < 128) : treeR (bytesOf (escL u)) = .ok (mkRow (u.map leafN)) := by
  have e := choice_esc (n := (bytesOf (escL u)).size) (u := u) (l := symsFrom (bytesOf (escL u)) 0) (cds_bytes (esc_low h))
  unfold treeR
  rw [e]
  rfl
theorem bytes_inj {a b : List Nat} (ha : ∀ c ∈ a, c < 128) (hb : ∀ c ∈ b, c < 128) (h : bytesOf a = bytesOf b) : a = b := by
  have e := congrArg (fun s => cds (symsFrom s 0)) h
  simp only [cds_bytes ha, cds_bytes hb] at e
  exact e
theorem tabs_below {w w' : World} (h : Hid (Lib.Utf8Tabs 4 5 w)) (hb : Below w.heap.size w w') : Hid (Lib.Utf8Tabs 4 5 w') := by
  have hlt := tabs_lt (unhide h)
  exact tabs_of (unhide h) (hb.block 4 (by omega)) (hb.block 5 (by omega))
/-- Match of a text as a pattern, and another. -/
theorem match_esc {w : World} {u x : List Nat} (hu : ∀ c ∈ u, c < 128) (hul : u.length ≤ 20) (hx : ∀ c ∈ x, c < 128) (hxl : x.length ≤ 20) (ht : Hid (Lib.Utf8Tabs 4 5 w)) :
    Calls Tryz.prog 15 #[.string (bytesOf (escL u)), .string (bytesOf x), .int .i64 200] w fun e w' => e = .returned (.tuple #[.bool (decide (x = u)), .int .i64 0]) ∧ Hid (Below w.heap.size w w') := by
  have hs : (bytesOf (escL u)).size ≤ 60 := by rw [bytes_size]; have := esc_most u; omega
  have hc := match_any (w := w) (p := bytesOf (escL u)) (x := x) (u := u) (B := 200) (z := mkRow (u.map leafN)) hs (by rw [runes_bytes hx, bytes_size]; omega) (by omega) hx ht (hide (tree_esc hu)) (size_esc hul) (by omega) (by omega) (of_begin hu (by omega))
  rw [runes_bytes hx] at hc
  exact hc
theorem min_esc {w : World} {u : List Nat} (hu : ∀ c ∈ u, c < 128) (hul : u.length ≤ 20) (ht : Hid (Lib.Utf8Tabs 4 5 w)) (hd : Hid (DbOk w)) :
    Calls Tryz.prog 10 #[.string (bytesOf (escL u)), .int .i64 200] w fun e w' => ∃ s, e = .returned (.tuple #[.string (tx s), .int .i64 0]) ∧ Hid (MinS u s) ∧ Hid (Below w.heap.size w w') := by
  have hs : (bytesOf (escL u)).size ≤ 60 := by rw [bytes_size]; have := esc_most u; omega
  exact min_any (w := w) (p := bytesOf (escL u)) (u := u) (B := 200) (z := mkRow (u.map leafN)) hs hul ht hd (hide (tree_esc hu)) (size_esc hul) (by omega) (by omega) (of_begin hu (by omega))
theorem count_next {s : List UInt8} {k : Nat} (hk : k < s.length) : (s.take (k + 1)).count 59 = (s.take k).count 59 + if s[k] = 59 then 1 else 0 := by
  rw [List.take_succ_eq_append_getElem hk, List.count_append]
  congr 1
  by_cases h : s[k] = 59
  · rw [if_pos h, h]; rfl
  · rw [if_neg h]
    simp [h]
theorem s_count (s : List UInt8) : ∀ (k : Nat) (h : k < (tx s).size), ((tx s).data.toList.take (k + 1)).count 59 = ((tx s).data.toList.take k).count 59 + if (tx s)[k] = 59 then 1 else 0 := fun k h => by
  have h' : k < s.length := by simpa [ByteArray.size] using h
  exact count_next h'
theorem u8_eq {b : UInt8} (h : b.toNat = 59) : b = 59 := by
  apply UInt8.toNat_inj.1
  rw [h]
  rfl
set_option maxRecDepth 100000 in
set_option maxHeartbeats 4000000 in
theorem literal_any {w : World} {x y : ByteArray} (hx : x.size ≤ maxLen) (hy : y.size ≤ maxLen) (ht : Hid (Lib.Utf8Tabs 4 5 w)) (hd : Hid (DbOk w)) :
    Calls Tryz.prog 4 #[.string x, .string y] w fun e w' => e = .returned (.bool true) ∧ Hid (Below w.heap.size w w') := by
  have HP1 := hide (plain_any x hx w)
  have HP2 := hide (fun W => plain_any y hy W)
  have hu := plain_low x
  have hul := plain_len x
  have hv := plain_low y
  have hvl := plain_len y
  generalize plainL x = u at *
  generalize plainL y = v at *
  have HE := hide (fun W => escaped_any hu hul W)
  have HM1 := hide (fun (W : World) ht => match_esc (w := W) hu hul hu hul ht)
  have HM2 := hide (fun (W : World) ht => match_esc (w := W) hu hul hv hvl ht)
  have HMN := hide (fun (W : World) ht hd => min_esc (w := W) hu hul ht hd)
  have HIN := hide (fun e : bytesOf u = bytesOf v => bytes_inj hu hv e)
  have hus := bytes_size u
  have HUV : Hid ((bytesOf u = bytesOf v) ↔ v = u) := ⟨fun e => (unhide HIN e).symm, fun e => by rw [e]⟩
  clear hu hv HIN hx hy hvl
  generalize bytesOf (escL u) = p at *
  generalize hbu : bytesOf u = bu at *
  generalize hbv : bytesOf v = bv at *
  clear hbu hbv
  have HUS := hide hus
  clear hus
  rw [show decide (u = u) = true from by simp] at HM1
  by_cases huv : v = u
  · have hbb : bu = bv := (unhide HUV).2 huv
    subst hbb
    rw [show decide (v = u) = true from by simp [huv]] at HM2
    have hsz : bu.size ≤ 20 := by rw [unhide HUS]; exact hul
    clear huv HUV
    go_enter Tryz.func4, Tryz.ntmps4
    go_wp2_with (first
      | (have HP1' := HP1; clear HP1; go_at_call 9; refine (unhide HP1').mono ?_; clear HP1'; rintro e w1 ⟨rfl, hb1⟩; have HB1 := hide hb1; clear hb1)
      | (have HP2' := HP2; clear HP2; go_at_call 9; refine (unhide HP2' _).mono ?_; clear HP2'; rintro e w2 ⟨rfl, hb2⟩; have HB2 : Hid (Below w.heap.size w w2) := (unhide HB1).trans (hb2.mono (unhide HB1).size); clear hb2)
      | (go_at_call 14; refine (unhide HE _).mono ?_; clear HE; rintro e w3 ⟨rfl, hb3⟩; have HB3 : Hid (Below w.heap.size w w3) := (unhide HB2).trans (hb3.mono (unhide HB2).size); clear hb3)
      | (have HM1' := HM1; clear HM1; go_at_call 15; refine (unhide HM1' w3 (tabs_below ht (unhide HB3))).mono ?_; clear HM1'; rintro e w4 ⟨rfl, hb4⟩; have HB4 : Hid (Below w.heap.size w w4) := (unhide HB3).trans ((unhide hb4).mono (unhide HB3).size); clear hb4)
      | (have HM2' := HM2; clear HM2; go_at_call 15; refine (unhide HM2' w4 (tabs_below ht (unhide HB4))).mono ?_; clear HM2'; rintro e w5 ⟨rfl, hb5⟩; have HB5 : Hid (Below w.heap.size w w5) := (unhide HB4).trans ((unhide hb5).mono (unhide HB4).size); clear hb5)
      | (go_at_call 10; refine (unhide HMN w5 (tabs_below ht (unhide HB5)) (hide ((unhide hd).below (unhide HB5)))).mono ?_; clear HMN; rintro e w6 ⟨s, rfl, HMS, hb6⟩; have HB6 : Hid (Below w.heap.size w w6) := (unhide HB5).trans ((unhide hb6).mono (unhide HB5).size); clear hb6))
    have HLT := hide (s_count s)
    have HSZ : Hid ((tx s).size = s.length) := by show s.toArray.size = s.length; simp
    have hsl : (tx s).size ≤ 100000 := by rw [unhide HSZ]; exact (unhide HMS).2
    have HCT : Hid (((tx s).data.toList.take (tx s).size).count 59 = bu.size + 2) := by
      rw [unhide HUS, ← (unhide HMS).1]
      have e : (tx s).data.toList = s := by simp
      rw [e, unhide HSZ, List.take_length]
      rfl
    generalize tx s = S at *
    clear HMS HSZ
    go_loopw [14, 15] (fun n i wr => ∃ k : Nat, k ≤ S.size ∧ i = .int .i64 (k : Int) ∧ n = .int .i64 ((S.data.toList.take k).count 59 : Int) ∧ Hid (wr = w6)) (fun _ i _ => S.size - (intOf i).toNat)
    case atStart => exact ⟨0, Nat.zero_le _, rfl, rfl, rfl⟩
    case round =>
      obtain ⟨k, hk, rfl, rfl, HW⟩ := hrel
      obtain rfl : wr = w6 := unhide HW
      clear HW
      by_cases hlt : k < S.size
      · have hc := unhide HLT k hlt
        have hcl : (S.data.toList.take k).count 59 ≤ 100000 := by
          have h1 := List.count_le_length (a := (59 : UInt8)) (l := S.data.toList.take k)
          rw [List.length_take] at h1
          omega
        by_cases he : (S[k].toNat : Int) = 59
        · have HC := hide hc
          clear hc
          have HEQ := hide he
          have he' : ((S[k].toNat : Int) == 59) = true := by simp [he]
          clear he
          generalize hcn : (S.data.toList.take k).count 59 = cn at *
          clear hcn
          go_wp2
          refine ⟨⟨k + 1, by omega, by go_num, ?_, hide trivial⟩, ?_⟩
          · have e := unhide HC
            rw [if_pos (u8_eq (by have := unhide HEQ; omega))] at e
            rw [e]
            go_num
          · simp [intOf]
            omega
        · have HC := hide hc
          clear hc
          have HEQ := hide he
          have he' : ((S[k].toNat : Int) == 59) = false := by simp [he]
          clear he
          generalize hcn : (S.data.toList.take k).count 59 = cn at *
          clear hcn
          go_wp2
          refine ⟨⟨k + 1, by omega, by go_num, ?_, hide trivial⟩, ?_⟩
          · have e := unhide HC
            rw [if_neg (fun h => unhide HEQ (by rw [h]; rfl))] at e
            rw [e]
            rfl
          · simp [intOf]
            omega
      · have hks : k = S.size := by omega
        subst hks
        rw [unhide HCT]
        go_wp2
        go_ret
        exact ⟨rfl, HB6⟩
  · have hbb : ¬ bu = bv := fun e => huv ((unhide HUV).1 e)
    rw [show decide (v = u) = false from by simp [huv]] at HM2
    have hsz : bu.size ≤ 20 := by rw [unhide HUS]; exact hul
    clear huv HUV
    go_enter Tryz.func4, Tryz.ntmps4
    go_wp2_with (first
      | (have HP1' := HP1; clear HP1; go_at_call 9; refine (unhide HP1').mono ?_; clear HP1'; rintro e w1 ⟨rfl, hb1⟩; have HB1 := hide hb1; clear hb1)
      | (have HP2' := HP2; clear HP2; go_at_call 9; refine (unhide HP2' _).mono ?_; clear HP2'; rintro e w2 ⟨rfl, hb2⟩; have HB2 : Hid (Below w.heap.size w w2) := (unhide HB1).trans (hb2.mono (unhide HB1).size); clear hb2)
      | (go_at_call 14; refine (unhide HE _).mono ?_; clear HE; rintro e w3 ⟨rfl, hb3⟩; have HB3 : Hid (Below w.heap.size w w3) := (unhide HB2).trans (hb3.mono (unhide HB2).size); clear hb3)
      | (have HM1' := HM1; clear HM1; go_at_call 15; refine (unhide HM1' w3 (tabs_below ht (unhide HB3))).mono ?_; clear HM1'; rintro e w4 ⟨rfl, hb4⟩; have HB4 : Hid (Below w.heap.size w w4) := (unhide HB3).trans ((unhide hb4).mono (unhide HB3).size); clear hb4)
      | (have HM2' := HM2; clear HM2; go_at_call 15; refine (unhide HM2' w4 (tabs_below ht (unhide HB4))).mono ?_; clear HM2'; rintro e w5 ⟨rfl, hb5⟩; have HB5 : Hid (Below w.heap.size w w5) := (unhide HB4).trans ((unhide hb5).mono (unhide HB4).size); clear hb5)
      | (go_at_call 10; refine (unhide HMN w5 (tabs_below ht (unhide HB5)) (hide ((unhide hd).below (unhide HB5)))).mono ?_; clear HMN; rintro e w6 ⟨s, rfl, HMS, hb6⟩; have HB6 : Hid (Below w.heap.size w w6) := (unhide HB5).trans ((unhide hb6).mono (unhide HB5).size); clear hb6))
    have HLT := hide (s_count s)
    have HSZ : Hid ((tx s).size = s.length) := by show s.toArray.size = s.length; simp
    have hsl : (tx s).size ≤ 100000 := by rw [unhide HSZ]; exact (unhide HMS).2
    have HCT : Hid (((tx s).data.toList.take (tx s).size).count 59 = bu.size + 2) := by
      rw [unhide HUS, ← (unhide HMS).1]
      have e : (tx s).data.toList = s := by simp
      rw [e, unhide HSZ, List.take_length]
      rfl
    generalize tx s = S at *
    clear HMS HSZ
    go_loopw [14, 15] (fun n i wr => ∃ k : Nat, k ≤ S.size ∧ i = .int .i64 (k : Int) ∧ n = .int .i64 ((S.data.toList.take k).count 59 : Int) ∧ Hid (wr = w6)) (fun _ i _ => S.size - (intOf i).toNat)
    case atStart => exact ⟨0, Nat.zero_le _, rfl, rfl, rfl⟩
    case round =>
      obtain ⟨k, hk, rfl, rfl, HW⟩ := hrel
      obtain rfl : wr = w6 := unhide HW
      clear HW
      by_cases hlt : k < S.size
      · have hc := unhide HLT k hlt
        have hcl : (S.data.toList.take k).count 59 ≤ 100000 := by
          have h1 := List.count_le_length (a := (59 : UInt8)) (l := S.data.toList.take k)
          rw [List.length_take] at h1
          omega
        by_cases he : (S[k].toNat : Int) = 59
        · have HC := hide hc
          clear hc
          have HEQ := hide he
          have he' : ((S[k].toNat : Int) == 59) = true := by simp [he]
          clear he
          generalize hcn : (S.data.toList.take k).count 59 = cn at *
          clear hcn
          go_wp2
          refine ⟨⟨k + 1, by omega, by go_num, ?_, hide trivial⟩, ?_⟩
          · have e := unhide HC
            rw [if_pos (u8_eq (by have := unhide HEQ; omega))] at e
            rw [e]
            go_num
          · simp [intOf]
            omega
        · have HC := hide hc
          clear hc
          have HEQ := hide he
          have he' : ((S[k].toNat : Int) == 59) = false := by simp [he]
          clear he
          generalize hcn : (S.data.toList.take k).count 59 = cn at *
          clear hcn
          go_wp2
          refine ⟨⟨k + 1, by omega, by go_num, ?_, hide trivial⟩, ?_⟩
          · have e := unhide HC
            rw [if_neg (fun h => unhide HEQ (by rw [h]; rfl))] at e
            rw [e]
            rfl
          · simp [intOf]
            omega
      · have hks : k = S.size := by omega
        subst hks
        rw [unhide HCT]
        have hbt : (bu.toList == bv.toList) = false := by
          rw [beq_eq_false_iff_ne, ByteArray.toList_eq, ByteArray.toList_eq]
          exact fun e => hbb (ByteArray.ext (Array.toList_inj.1 e))
        go_wp2
        go_ret
        exact ⟨rfl, HB6⟩
end Go.Proofs.YtfolanohokflkabGreatDoor
