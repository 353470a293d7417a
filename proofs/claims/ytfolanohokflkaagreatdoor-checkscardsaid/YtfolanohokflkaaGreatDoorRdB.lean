import Derived.Test.YtfolanohokflkaaGreatDoorNdZ
import Derived.WalkKit
import Derived.WalkSpells
import Derived.WalkLawsBesides
import Derived.WalkMore
import Derived.Deep.QuietTactic
import Derived.BigQuiet
import Derived.Deep.RegionHeld3
import Derived.Test.YtfolanohokflkaaGreatDoorPSame
namespace Go.Proofs.YtfolanohokflkaaGreatDoor
open Go.RowKit
/-! read: a node and why it is refused -/
abbrev obGu (e p : Int) : Obj := .cells #[.int .i64 e, .int .i64 p] 74

/-- the end of read: its two results lie in blocks of their own. -/
theorem read_ret {Q : Ending → World → Prop} {a : Act} {W : World} {rb gb : Nat} {n : Nd} {e p : Int} (h2 : a.tmps.getD 2 undef = .pointer (some ⟨rb, 0, none⟩)) (h3 : a.tmps.getD 3 undef = .pointer (some ⟨gb, 0, none⟩)) (hd : a.defers = []) (hat : Hid (NdAt W rb n)) (g0 : W.cell? ⟨gb, 0, none⟩ = some (.int .i64 e)) (g1 : W.cell? ⟨gb, 1, none⟩ = some (.int .i64 p)) (hq : Q (.returned (.tuple #[vNd n, .agg #[.int .i64 e, .int .i64 p]])) W) : bodyPost Tryz.prog Tryz.f65 Q .ret a W := by
  obtain ⟨k0, k1, k2, k3, k4, k5, k6⟩ := NdAt.cells (unhide hat)
  refine bodyPost_ret (v := .tuple #[vNd n, .agg #[.int .i64 e, .int .i64 p]]) ?_ hd hq
  have h2' : a.tmps[2]?.getD undef = .pointer (some ⟨rb, 0, none⟩) := by simpa using h2
  have h3' : a.tmps[3]?.getD undef = .pointer (some ⟨gb, 0, none⟩) := by simpa using h3
  simp [results, Tryz.results65, h2', h3', go_sem, k0, k1, k2, k3, k4, k5, k6, g0, g1, vNd]

/-- the four blocks of read. -/
abbrev rd4 (w : World) (s : ByteArray) : World := (((w.alloc (.cells #[.string s] 9)).alloc (obNd nd0)).alloc (obGu 0 0)).alloc (obNd nd0)
theorem gu_cells {w : World} {b : Nat} {e p : Int} {t : TypeId} (h : w.heap[b]? = some (.cells #[.int .i64 e, .int .i64 p] t)) : w.cell? ⟨b, 0, none⟩ = some (.int .i64 e) ∧ w.cell? ⟨b, 1, none⟩ = some (.int .i64 p) ∧ ∀ k, w.frozen? ⟨b, k, none⟩ = false := by
  refine ⟨?_, ?_, fun k => ?_⟩ <;> simp [World.cell?, World.frozen?, h]
/-- the blocks of read, as they stand behind what it calls. -/
structure RdOk (W : World) (n : Nat) (m : Nd) : Prop where
  r : NdAt W (n + 1) nd0
  g : W.heap[n + 1 + 1]? = some (obGu 0 0)
  v : NdAt W (n + 1 + 1 + 1) m
theorem rd4_ok (w : World) (s : ByteArray) : RdOk (rd4 w s) w.heap.size nd0 := by
  have s1 : (w.alloc (.cells #[.string s] 9)).heap.size = w.heap.size + 1 := by simp
  have s2 : ((w.alloc (.cells #[.string s] 9)).alloc (obNd nd0)).heap.size = w.heap.size + 1 + 1 := by simp
  have s3 : (((w.alloc (.cells #[.string s] 9)).alloc (obNd nd0)).alloc (obGu 0 0)).heap.size = w.heap.size + 1 + 1 + 1 := by simp
  refine ⟨?_, ?_, ?_⟩
  · have h := NdAt.new (w.alloc (.cells #[.string s] 9)) nd0
    rw [s1] at h
    exact unhide (NdAt.alloc (NdAt.alloc (hide h) _) _)
  · have h := heap_alloc_new ((w.alloc (.cells #[.string s] 9)).alloc (obNd nd0)) (obGu 0 0)
    rw [s2] at h
    exact (Below.heap_alloc _ _ _ (by rw [s3]; omega)).trans h
  · have h := NdAt.new (((w.alloc (.cells #[.string s] 9)).alloc (obNd nd0)).alloc (obGu 0 0)) nd0
    rw [s3] at h
    exact h
theorem rd4_size (w : World) (s : ByteArray) : (rd4 w s).heap.size = w.heap.size + 4 := by simp
theorem rd4_str (w : World) (s : ByteArray) : (rd4 w s).cell? ⟨w.heap.size, 0, none⟩ = some (.string s) := by
  have h := cells_new w [.string s] 9 0 _ rfl
  rw [World.cell?_alloc_past _ _ _ (by simp; omega), World.cell?_alloc_past _ _ _ (by simp; omega), World.cell?_alloc_past _ _ _ (by simp)]
  exact h
theorem rd4_below (w : World) (s : ByteArray) : Below w.heap.size w (rd4 w s) := ((((Below.refl _ _).alloc (Nat.le_refl _) _).alloc (by simp) _).alloc (by simp; omega) _).alloc (by simp; omega) _
/-- and with 'stop' made. -/
theorem RdOk.stop {W : World} {n : Nat} {m : Nd} (h : RdOk W n m) (o : Obj) : RdOk (W.alloc o) n m :=
  ⟨unhide (NdAt.alloc (hide h.r) _), (Below.heap_alloc _ _ _ (Array.getElem?_eq_some_iff.1 h.g).1).trans h.g, unhide (NdAt.alloc (hide h.v) _)⟩

theorem RdOk.below {W W' : World} {n : Nat} {m : Nd} (h : RdOk W n m) (hb : Below W.heap.size W W') (hs : W.heap.size = n + 4) : RdOk W' n m :=
  ⟨(hb.block _ (by omega)).trans h.r, (hb.block _ (by omega)).trans h.g, (hb.block _ (by omega)).trans h.v⟩
theorem rd_below {w W W' : World} {n : Nat} (h0 : Below w.heap.size w W) (hb : Below W.heap.size W W') (_ : W.heap.size = n + 4) (o : Obj) : Below w.heap.size w (W'.alloc o) := by
  have h := h0.trans (hb.mono h0.size)
  exact h.alloc h.size o
theorem rd_size {W W' : World} {n : Nat} (hb : Below W.heap.size W W') (hs : W.heap.size = n + 4) : n + 4 ≤ W'.heap.size := hs ▸ hb.size

set_option maxRecDepth 100000 in
set_option maxHeartbeats 4000000 in
theorem read_long {w : World} {s : ByteArray} (hs : (60 : Int) < (s.size : Int)) :
    Calls Tryz.prog 65 #[.string s] w fun x w' => x = .returned (.tuple #[vNd nd0, .agg #[.int .i64 1, .int .i64 0]]) ∧ Hid (Below w.heap.size w w') := by
  go_enter Tryz.func65, Tryz.ntmps65
  go_wp2_with fail
  have hb : Below w.heap.size w (((w.alloc (.cells #[.string s] 9)).alloc (obNd nd0)).alloc (obGu 1 0)) := (((Below.refl _ _).alloc (Nat.le_refl _) _).alloc (by simp) _).alloc (by simp; omega) _
  have s1 : (w.alloc (.cells #[.string s] 9)).heap.size = w.heap.size + 1 := by simp
  have s2 : ((w.alloc (.cells #[.string s] 9)).alloc (obNd nd0)).heap.size = w.heap.size + 1 + 1 := by simp
  have h1 := NdAt.new (w.alloc (.cells #[.string s] 9)) nd0
  rw [s1] at h1
  have h2 := heap_alloc_new ((w.alloc (.cells #[.string s] 9)).alloc (obNd nd0)) (obGu 1 0)
  rw [s2] at h2
  obtain ⟨g0, g1, -⟩ := gu_cells h2
  exact read_ret rfl rfl rfl (NdAt.alloc (hide h1) _) g0 g1 ⟨rfl, hb⟩

/-- how read leaves the memory. -/
def rdEnd (W : World) (n : Nat) (m : Nd) (e p : Int) : World := ((setNd W (n + 1) m).setCell ⟨n + 1 + 1, 0, none⟩ (.int .i64 e)).setCell ⟨n + 1 + 1, 1, none⟩ (.int .i64 p)
section
variable {W : World} {n : Nat} {m : Nd} {e p : Int}
theorem rdEnd_other {k : Nat} (h1 : k ≠ n + 1) (h2 : k ≠ n + 1 + 1) : (rdEnd W n m e p).heap[k]? = W.heap[k]? :=
  (Below.heap_setCell _ ⟨n + 1 + 1, 1, none⟩ _ k h2).trans ((Below.heap_setCell _ ⟨n + 1 + 1, 0, none⟩ _ k h2).trans (setNd_other h1))
theorem rdEnd_size : (rdEnd W n m e p).heap.size = W.heap.size := by simp [rdEnd, World.setCell, setNd]
theorem rdEnd_r (hR : RdOk W n m) : NdAt (rdEnd W n m e p) (n + 1) m := by
  have h2 : n + 1 ≠ n + 1 + 1 := by omega
  exact (Below.heap_setCell _ ⟨n + 1 + 1, 1, none⟩ _ (n + 1) h2).trans ((Below.heap_setCell _ ⟨n + 1 + 1, 0, none⟩ _ (n + 1) h2).trans (NdAt.set hR.r))
theorem rdEnd_g (hR : RdOk W n m) : (rdEnd W n m e p).heap[n + 1 + 1]? = some (obGu e p) := by
  have hg1 : (setNd W (n + 1) m).heap[n + 1 + 1]? = some (obGu 0 0) := (setNd_other (by omega)).trans hR.g
  have k0 := heap_setCell_same _ (n + 1 + 1) 0 _ _ (.int .i64 e) hg1
  have k1 := heap_setCell_same _ (n + 1 + 1) 1 _ _ (.int .i64 p) k0
  exact k1.trans (by simp)
theorem rdEnd_below {w : World} (hB : Below w.heap.size w W) : Below w.heap.size w (rdEnd W w.heap.size m e p) :=
  Below.setCell (Below.setCell (Below.setCell (Below.setCell (Below.setCell (Below.setCell (Below.setCell (Below.setCell (Below.setCell hB (Nat.le_succ _) _) (Nat.le_succ _) _) (Nat.le_succ _) _) (Nat.le_succ _) _) (Nat.le_succ _) _) (Nat.le_succ _) _) (Nat.le_succ _) _) (Nat.le_add_right _ 2) _) (Nat.le_add_right _ 2) _
end
theorem rd_end {Q : Ending → World → Prop} {a : Act} {w W : World} {m : Nd} {e p : Int} (h2 : a.tmps.getD 2 undef = .pointer (some ⟨w.heap.size + 1, 0, none⟩)) (h3 : a.tmps.getD 3 undef = .pointer (some ⟨w.heap.size + 1 + 1, 0, none⟩)) (hd : a.defers = []) (hR : Hid (RdOk W w.heap.size m)) (hB : Hid (Below w.heap.size w W))
    (hq : ∀ w', (∀ k, k ≠ w.heap.size + 1 → k ≠ w.heap.size + 1 + 1 → w'.heap[k]? = W.heap[k]?) → w'.heap.size = W.heap.size → Hid (Below w.heap.size w w') → Q (.returned (.tuple #[vNd m, .agg #[.int .i64 e, .int .i64 p]])) w') : bodyPost Tryz.prog Tryz.f65 Q .ret a (rdEnd W w.heap.size m e p).drew := by
  have hr := rdEnd_r (e := e) (p := p) (unhide hR)
  have hg := rdEnd_g (e := e) (p := p) (unhide hR)
  have hb := rdEnd_below (m := m) (e := e) (p := p) (unhide hB)
  have hsz := rdEnd_size (W := W) (n := w.heap.size) (m := m) (e := e) (p := p)
  have ho := fun k a b => rdEnd_other (W := W) (n := w.heap.size) (m := m) (e := e) (p := p) (k := k) a b
  generalize rdEnd W w.heap.size m e p = W' at *
  obtain ⟨g0, g1, -⟩ := gu_cells hg
  exact read_ret h2 h3 hd (n := m) hr g0 g1 (hq W'.drew ho hsz hb.drew)

set_option maxRecDepth 100000 in
set_option maxHeartbeats 4000000 in
theorem read_go {w : World} {s : ByteArray} (hs : s.size ≤ 60) {e p : Int} {K : World → Nd → Prop} (HA : Hid (Calls Tryz.prog 41 #[.func (.func 98) #[] #[.pointer (some ⟨w.heap.size, 0, none⟩), .pointer (some ⟨w.heap.size + 1 + 1 + 1, 0, none⟩)]] (rd4 w s) fun x w' => x = .returned (.agg #[.int .i64 e, .int .i64 p]) ∧ ∃ m, Hid (RdOk w' w.heap.size m) ∧ Hid (Below w.heap.size w w') ∧ w.heap.size + 4 ≤ w'.heap.size ∧ Hid (K w' m))) :
    Calls Tryz.prog 65 #[.string s] w fun x w' => ∃ m w2, x = .returned (.tuple #[vNd m, .agg #[.int .i64 (if e = 0 ∧ 60 < m.sz then 5 else e), .int .i64 (if e = 0 ∧ 60 < m.sz then 0 else p)]]) ∧ Hid (Below w.heap.size w w') ∧ Hid (K w2 m) ∧ w.heap.size + 4 ≤ w2.heap.size ∧ w2.heap.size ≤ w'.heap.size ∧ ∀ k, k < w2.heap.size → k ≠ w.heap.size + 1 → k ≠ w.heap.size + 1 + 1 → w'.heap[k]? = w2.heap[k]? := by
  have hmf : ∀ (fn : Fn) (first cap : Array Value) (w : World), (Instr.makeFunc fn first cap).run Tryz.prog w = .ok (.func fn first cap) w := fun _ _ _ _ => rfl
  have hs' : (s.size : Int) ≤ 60 := by omega
  clear hs
  by_cases he : e = 0
  · subst he
    go_enter Tryz.func65, Tryz.ntmps65
    go_wp2_with (go_at_call 41; refine (unhide HA).mono ?_; clear HA; rintro x w2 ⟨rfl, m, HR2, HB, hz, HK⟩; have HR3 := hide ((unhide HR2).stop (obGu 0 p)); obtain ⟨c0, c1, c2, c3, c4, c5, c6⟩ := NdAt.cells (unhide HR3).v)
    · have HQ := hide (heap_alloc_new w2 (obGu 5 0))
      have HB3 := hide ((unhide HB).alloc (by omega) (obGu 5 0))
      have HS3 : Hid (∀ k, k < w2.heap.size → (w2.alloc (obGu 5 0)).heap[k]? = w2.heap[k]?) := fun k hk => Below.heap_alloc w2 _ k hk
      have HZ3 : Hid (w2.heap.size ≤ (w2.alloc (obGu 5 0)).heap.size) := by show _ ≤ _; simp
      have HR4 := hide ((unhide HR2).stop (obGu 5 0))
      clear HR3 c0 c1 c2 c3 c4 c5 c6
      generalize w2.alloc (obGu 5 0) = W at *
      generalize hqq : w2.heap.size = q at *
      obtain ⟨ok_r, ok_g, ok_v⟩ := unhide HR4
      obtain ⟨c0, c1, c2, c3, c4, c5, c6⟩ := NdAt.cells ok_v
      obtain ⟨r0, r1, r2, r3, r4, r5, r6⟩ := NdAt.cells ok_r
      have rf := NdAt.fz ok_r
      obtain ⟨g0, g1, gf⟩ := gu_cells ok_g
      obtain ⟨q0, q1, -⟩ := gu_cells (unhide HQ)
      clear ok_r ok_g ok_v
      have hn : w.heap.size + 1 + 1 + 1 < q := by omega
      generalize hv : w.heap.size + 1 + 1 + 1 = v at *
      generalize hg : w.heap.size + 1 + 1 = g at *
      generalize hr : w.heap.size + 1 = r at *
      have e1 : r ≠ v := by omega
      have e2 : v ≠ r := by omega
      have e3 : g ≠ v := by omega
      have e4 : v ≠ g := by omega
      have e5 : r ≠ q := by omega
      have e6 : q ≠ r := by omega
      have e7 : g ≠ q := by omega
      have e8 : q ≠ g := by omega
      have e9 : r ≠ g := by omega
      have e10 : g ≠ r := by omega
      go_region_held3 (fun w' => w'.cell? ⟨v, 0, none⟩ = some (.int .i64 m.sh) ∧ w'.cell? ⟨v, 1, none⟩ = some (.slice m.pa m.pn m.pc) ∧ w'.cell? ⟨v, 2, none⟩ = some (.string m.ss) ∧ w'.cell? ⟨v, 3, none⟩ = some (.int .i64 m.le) ∧ w'.cell? ⟨v, 4, none⟩ = some (.int .i64 m.mo) ∧ w'.cell? ⟨v, 5, none⟩ = some (.int .i64 m.fa) ∧ w'.cell? ⟨v, 6, none⟩ = some (.int .i64 m.sz) ∧ w'.cell? ⟨q, 0, none⟩ = some (.int .i64 5) ∧ w'.cell? ⟨q, 1, none⟩ = some (.int .i64 0)) (go_keep) (fail)
      go_wp2_with fail
      subst hv
      subst hg
      subst hr
      subst hqq
      refine rd_end rfl rfl rfl HR4 HB3 fun w' h1 h2 h3 => ⟨m, w2, ?_, h3, HK, hz, Nat.le_trans (unhide HZ3) (Nat.le_of_eq h2.symm), fun k a b c => (h1 k b c).trans (unhide HS3 k a)⟩
      rw [if_pos ⟨trivial, by assumption⟩, if_pos ⟨trivial, by assumption⟩]
    · have HQ := hide (heap_alloc_new w2 (obGu 0 p))
      have HB3 := hide ((unhide HB).alloc (by omega) (obGu 0 p))
      have HS3 : Hid (∀ k, k < w2.heap.size → (w2.alloc (obGu 0 p)).heap[k]? = w2.heap[k]?) := fun k hk => Below.heap_alloc w2 _ k hk
      have HZ3 : Hid (w2.heap.size ≤ (w2.alloc (obGu 0 p)).heap.size) := by show _ ≤ _; simp
      have HR4 := hide ((unhide HR2).stop (obGu 0 p))
      clear HR3 c0 c1 c2 c3 c4 c5 c6
      generalize w2.alloc (obGu 0 p) = W at *
      generalize hqq : w2.heap.size = q at *
      obtain ⟨ok_r, ok_g, ok_v⟩ := unhide HR4
      obtain ⟨c0, c1, c2, c3, c4, c5, c6⟩ := NdAt.cells ok_v
      obtain ⟨r0, r1, r2, r3, r4, r5, r6⟩ := NdAt.cells ok_r
      have rf := NdAt.fz ok_r
      obtain ⟨g0, g1, gf⟩ := gu_cells ok_g
      obtain ⟨q0, q1, -⟩ := gu_cells (unhide HQ)
      clear ok_r ok_g ok_v
      have hn : w.heap.size + 1 + 1 + 1 < q := by omega
      generalize hv : w.heap.size + 1 + 1 + 1 = v at *
      generalize hg : w.heap.size + 1 + 1 = g at *
      generalize hr : w.heap.size + 1 = r at *
      have e1 : r ≠ v := by omega
      have e2 : v ≠ r := by omega
      have e3 : g ≠ v := by omega
      have e4 : v ≠ g := by omega
      have e5 : r ≠ q := by omega
      have e6 : q ≠ r := by omega
      have e7 : g ≠ q := by omega
      have e8 : q ≠ g := by omega
      have e9 : r ≠ g := by omega
      have e10 : g ≠ r := by omega
      go_region_held3 (fun w' => w'.cell? ⟨v, 0, none⟩ = some (.int .i64 m.sh) ∧ w'.cell? ⟨v, 1, none⟩ = some (.slice m.pa m.pn m.pc) ∧ w'.cell? ⟨v, 2, none⟩ = some (.string m.ss) ∧ w'.cell? ⟨v, 3, none⟩ = some (.int .i64 m.le) ∧ w'.cell? ⟨v, 4, none⟩ = some (.int .i64 m.mo) ∧ w'.cell? ⟨v, 5, none⟩ = some (.int .i64 m.fa) ∧ w'.cell? ⟨v, 6, none⟩ = some (.int .i64 m.sz) ∧ w'.cell? ⟨q, 0, none⟩ = some (.int .i64 0) ∧ w'.cell? ⟨q, 1, none⟩ = some (.int .i64 p)) (go_keep) (fail)
      go_wp2_with fail
      subst hv
      subst hg
      subst hr
      subst hqq
      refine rd_end rfl rfl rfl HR4 HB3 fun w' h1 h2 h3 => ⟨m, w2, ?_, h3, HK, hz, Nat.le_trans (unhide HZ3) (Nat.le_of_eq h2.symm), fun k a b c => (h1 k b c).trans (unhide HS3 k a)⟩
      rw [if_neg (fun a => by omega), if_neg (fun a => by omega)]
  · have he' : (e == 0) = false := by simpa using he
    go_enter Tryz.func65, Tryz.ntmps65
    go_wp2_with (go_at_call 41; refine (unhide HA).mono ?_; clear HA; rintro x w2 ⟨rfl, m, HR2, HB, hz, HK⟩)
    have HQ := hide (heap_alloc_new w2 (obGu e p))
    have HB3 := hide ((unhide HB).alloc (by omega) (obGu e p))
    have HS3 : Hid (∀ k, k < w2.heap.size → (w2.alloc (obGu e p)).heap[k]? = w2.heap[k]?) := fun k hk => Below.heap_alloc w2 _ k hk
    have HZ3 : Hid (w2.heap.size ≤ (w2.alloc (obGu e p)).heap.size) := by show _ ≤ _; simp
    have HR4 := hide ((unhide HR2).stop (obGu e p))
    clear he'
    generalize w2.alloc (obGu e p) = W at *
    generalize hqq : w2.heap.size = q at *
    obtain ⟨ok_r, ok_g, ok_v⟩ := unhide HR4
    obtain ⟨c0, c1, c2, c3, c4, c5, c6⟩ := NdAt.cells ok_v
    obtain ⟨r0, r1, r2, r3, r4, r5, r6⟩ := NdAt.cells ok_r
    have rf := NdAt.fz ok_r
    obtain ⟨g0, g1, gf⟩ := gu_cells ok_g
    obtain ⟨q0, q1, -⟩ := gu_cells (unhide HQ)
    clear ok_r ok_g ok_v
    have hn : w.heap.size + 1 + 1 + 1 < q := by omega
    generalize hv : w.heap.size + 1 + 1 + 1 = v at *
    generalize hg : w.heap.size + 1 + 1 = g at *
    generalize hr : w.heap.size + 1 = r at *
    have e1 : r ≠ v := by omega
    have e2 : v ≠ r := by omega
    have e3 : g ≠ v := by omega
    have e4 : v ≠ g := by omega
    have e5 : r ≠ q := by omega
    have e6 : q ≠ r := by omega
    have e7 : g ≠ q := by omega
    have e8 : q ≠ g := by omega
    have e9 : r ≠ g := by omega
    have e10 : g ≠ r := by omega
    go_region_held3 (fun w' => w'.cell? ⟨v, 0, none⟩ = some (.int .i64 m.sh) ∧ w'.cell? ⟨v, 1, none⟩ = some (.slice m.pa m.pn m.pc) ∧ w'.cell? ⟨v, 2, none⟩ = some (.string m.ss) ∧ w'.cell? ⟨v, 3, none⟩ = some (.int .i64 m.le) ∧ w'.cell? ⟨v, 4, none⟩ = some (.int .i64 m.mo) ∧ w'.cell? ⟨v, 5, none⟩ = some (.int .i64 m.fa) ∧ w'.cell? ⟨v, 6, none⟩ = some (.int .i64 m.sz) ∧ w'.cell? ⟨q, 0, none⟩ = some (.int .i64 e) ∧ w'.cell? ⟨q, 1, none⟩ = some (.int .i64 p)) (go_keep) (fail)
    go_wp2_with fail
    subst hv
    subst hg
    subst hr
    subst hqq
    refine rd_end rfl rfl rfl HR4 HB3 fun w' h1 h2 h3 => ⟨m, w2, ?_, h3, HK, hz, Nat.le_trans (unhide HZ3) (Nat.le_of_eq h2.symm), fun k a b c => (h1 k b c).trans (unhide HS3 k a)⟩
    rw [if_neg (fun a => he a.1), if_neg (fun a => he a.1)]
end Go.Proofs.YtfolanohokflkaaGreatDoor

namespace Go.Proofs.YtfolanohokflkaaGreatDoor
open Go.RowKit
theorem below_comp {w w1 w2 : World} (h : Hid (Below w.heap.size w w1)) (k : Hid (Below w1.heap.size w1 w2)) : Hid (Below w.heap.size w w2) :=
  ⟨(unhide k).os.trans (unhide h).os, (unhide k).tape.trans (unhide h).tape, (unhide k).output.trans (unhide h).output, Nat.le_trans (unhide h).size (unhide k).size, fun i hi => ((unhide k).block i (Nat.lt_of_lt_of_le hi (unhide h).size)).trans ((unhide h).block i hi)⟩
theorem below_drew {w w1 w2 : World} {o o' : Obj} {n : Nat} (h : Hid (Below w.heap.size w w1)) (e : w2 = ((w1.alloc o).alloc o').drewN n) : Hid (Below w.heap.size w w2) := by
  have h1 := unhide h
  have h2 : Below w.heap.size w ((w1.alloc o).alloc o') := (h1.alloc h1.size _).alloc (by have := h1.size; simp; omega) _
  subst e
  exact ⟨h2.os, h2.tape, h2.output, h2.size, h2.block⟩

set_option maxRecDepth 100000 in
set_option maxHeartbeats 4000000 in
theorem check_of {w : World} {s : ByteArray} {e p : Int} (HA : Hid (Calls Tryz.prog 65 #[.string s] w fun x w' => ∃ m, x = .returned (.tuple #[vNd m, .agg #[.int .i64 e, .int .i64 p]]) ∧ Hid (Below w.heap.size w w'))) :
    Calls Tryz.prog 36 #[.string s] w fun x w' => x = .returned (.tuple #[.int .i64 e, .int .i64 p]) ∧ Hid (Below w.heap.size w w') := by
  go_enter Tryz.func36, Tryz.ntmps36
  go_wp2_with (go_at_call 65; refine (unhide HA).mono ?_; clear HA; rintro x w2 ⟨m, hx, HB⟩; rw [vNd] at hx; subst hx)
  go_quiet (fail)
  go_wp2_with fail
  go_ret2
  exact ⟨rfl, below_drew HB rfl⟩

theorem tabs_rd4 {w : World} {s : ByteArray} (ht : Hid (Lib.Utf8Tabs 4 5 w)) : Hid (Lib.Utf8Tabs 4 5 (rd4 w s)) := by
  have hlt := tabs_lt (unhide ht)
  have hb := rd4_below w s
  exact tabs_of (unhide ht) (hb.block _ (by omega)) (hb.block _ (by omega))

/-- what read answers of a text that is no pattern. -/
theorem readAll_err {w : World} {s : ByteArray} (hs : s.size ≤ 60) (ht : Hid (Lib.Utf8Tabs 4 5 w)) {y : Int × Int} (hR : Hid (treeR s = .error y)) :
    Calls Tryz.prog 65 #[.string s] w fun x w' => ∃ m, x = .returned (.tuple #[vNd m, .agg #[.int .i64 y.1, .int .i64 y.2]]) ∧ Hid (Below w.heap.size w w') := by
  have hsz := rd4_size w s
  refine (read_go (K := fun _ m => m = nd0) hs (hide ((attempt_err (j := w.heap.size + 1 + 1 + 1) hs (tabs_rd4 ht) (rd4_str w s) hR).mono fun x w' h => ⟨h.1, nd0, hide ((rd4_ok w s).below (unhide h.2) hsz), hide ((rd4_below w s).trans ((unhide h.2).mono (rd4_below w s).size)), rd_size (unhide h.2) hsz, rfl⟩))).mono ?_
  rintro x w' ⟨m, w2, hx, hb, hk, -⟩
  have hm : m = nd0 := unhide hk
  subst hm
  have hn : ¬ (y.1 = 0 ∧ 60 < nd0.sz) := fun h => absurd h.2 (by decide)
  rw [if_neg hn, if_neg hn] at hx
  exact ⟨nd0, hx, hb⟩

/-- what read answers of a text that can be read: its node, and whether it is too big. -/
theorem readAll_ok {w : World} {s : ByteArray} (hs : s.size ≤ 60) (ht : Hid (Lib.Utf8Tabs 4 5 w)) {z : Pn} (hR : Hid (treeR s = .ok z)) :
    Calls Tryz.prog 65 #[.string s] w fun x w' => ∃ m, x = .returned (.tuple #[vNd m, .agg #[.int .i64 (if 60 < z.2 then 5 else 0), .int .i64 0]]) ∧ Hid (Below w.heap.size w w') ∧ Hid (NodeOK w' (fun k => w.heap.size ≤ k) m z) := by
  have hsz := rd4_size w s
  have h4 := rd4_ok w s
  have hb4 := rd4_below w s
  have hA := attempt_ok (j := w.heap.size + 1 + 1 + 1) hs (tabs_rd4 ht) (rd4_str w s) (hide h4.v) hR
  refine (read_go (e := 0) (p := 0) (K := fun w' m => NodeOK w' (fun k => w.heap.size + 4 < k) m z) hs (hide (hA.mono ?_))).mono ?_
  · rintro x w' ⟨hx, m, HU, HJ, HN⟩
    have hu := unhide HU
    refine ⟨hx, m, hide ⟨(hu.block _ (by omega) (by omega)).trans h4.r, (hu.block _ (by omega) (by omega)).trans h4.g, unhide HJ⟩, hide ⟨hu.os.trans hb4.os, hu.tape.trans hb4.tape, hu.output.trans hb4.output, Nat.le_trans hb4.size hu.size, fun k hk => (hu.block k (by omega) (by omega)).trans (hb4.block k hk)⟩, by have := hu.size; omega, NodeOK.move HN fun k hk _ => ⟨rfl, by omega⟩⟩
  · rintro x w' ⟨m, w2, hx, hb, hk, h4', hle, ho⟩
    have hm : m.sz = z.2 := (unhide hk).1
    have he : (0 : Int) = 0 ∧ 60 < m.sz ↔ 60 < z.2 := by rw [hm]; exact ⟨fun h => h.2, fun h => ⟨rfl, h⟩⟩
    refine ⟨m, ?_, hb, NodeOK.move hk fun k h1 h2 => ⟨ho k h2 (by omega) (by omega), by omega⟩⟩
    rw [hx]
    by_cases hz : 60 < z.2
    · rw [if_pos (he.2 hz), if_pos (he.2 hz), if_pos hz]
    · rw [if_neg (fun h => hz (he.1 h)), if_neg (fun h => hz (he.1 h)), if_neg hz]

/-- the program's Check answers the plain function. -/
theorem check_any (w : World) (s : ByteArray) (ht : Hid (Lib.Utf8Tabs 4 5 w)) :
    Calls Tryz.prog 36 #[.string s] w fun x w' => x = .returned (.tuple #[.int .i64 (checkS s).1, .int .i64 (checkS s).2]) ∧ Hid (Below w.heap.size w w') := by
  rw [check_same]
  by_cases hl : 60 < s.size
  · rw [parseS, if_pos hl]
    exact check_of (hide ((read_long (w := w) (by omega)).mono fun x w' h => ⟨nd0, h.1, h.2⟩))
  · rw [treeR_parse s hl]
    cases hR : treeR s with
    | error y => exact check_of (hide (readAll_err (by omega) ht (hide hR)))
    | ok z =>
      dsimp only
      have h := check_of (hide ((readAll_ok (w := w) (by omega) ht (hide hR)).mono fun x w' ⟨m, a, b, _⟩ => ⟨m, a, b⟩))
      by_cases hz : 60 < z.2
      · rw [if_pos hz] at h ⊢; exact h
      · rw [if_neg hz] at h ⊢; exact h
end Go.Proofs.YtfolanohokflkaaGreatDoor
