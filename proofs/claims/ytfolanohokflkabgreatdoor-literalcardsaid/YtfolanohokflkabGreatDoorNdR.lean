import Derived.Test.YtfolanohokflkabGreatDoorNdQ
import Derived.Test.YtfolanohokflkabGreatDoorBnd
import Derived.BigRegion
import Derived.Deep.RegionHeld3
import Derived.Deep.RegionWith
import Derived.Test.YtfolanohokflkabGreatDoorLastA
import Derived.WalkKit
import Derived.WalkSpells
import Derived.WalkLawsBesides
import Derived.WalkMore
namespace Go.Proofs.YtfolanohokflkabGreatDoor
open Go.RowKit
section
variable {w0 w : World} {b : Nat} {s : ByteArray} {d : Int} {l : List Sy}
abbrev BdP (a : List Sy → Res Pn) : Prop := ∀ l v l', a l = .ok (v, l') → 0 ≤ v.2 ∧ v.2 ≤ 61
def NotP (R : Res Pn) (at_ : List Sy → Res Pn) (w1 wr : World) (b : Nat) (s : ByteArray) (d : Int) (k : Nat) : Prop :=
  ∃ f l, mapR (notK k) (itemP s.size at_ f l) = R ∧ l.length < f ∧ k + l.length ≤ 60 ∧ Hid (PL w1 wr b s d l)
/-- the node of an item in its block, while it is being wrapped. -/
def BoxP (w w1 wr : World) (nb : Nat) (z : Pn) : Prop :=
  ∃ n, 0 ≤ z.2 ∧ z.2 ≤ 61 ∧ w1.heap.size ≤ nb ∧ NdAt wr nb n ∧ NodeOK wr (fun j => w.heap.size < j ∧ j ≠ nb) n z
def RepP (R : Res Pn) (w w1 wr : World) (b : Nat) (s : ByteArray) (d : Int) (k nb : Nat) : Prop :=
  ∃ f l z, mapR (notK k) (repsP s.size f z l) = R ∧ l.length < f ∧ BoxP w w1 wr nb z ∧ Hid (PL w1 wr b s d l)
/-- a node that is wrapped: in its block lies the new one, and the old one is its only part. -/
theorem wrap_box {w1 wq : World} {nb : Nat} {n2 n' : Nd} {t : Pt} {z' : Pn} (hnb : w1.heap.size ≤ nb) (hw1 : w.heap.size < w1.heap.size) (hat : Hid (NdAt wq nb n2)) (hv : NodeV wq (fun j => w.heap.size < j ∧ j ≠ nb) n2 t)
    (hpv : n'.pv = .slice (some ⟨wq.heap.size, 0, none⟩) 1 1) (hz : n'.sz = z'.2) (h0 : 0 ≤ z'.2) (h61 : z'.2 ≤ 61)
    (hk : ∀ W, PartsV W (fun j => w.heap.size < j ∧ j ≠ nb) n'.pv [n2] → NodeV W (fun j => w.heap.size < j ∧ j ≠ nb) n2 t → NodeV W (fun j => w.heap.size < j ∧ j ≠ nb) n' z'.1) :
    BoxP w w1 ((setNd wq nb n').alloc (obNd n2)).drew nb z' := by
  have hlt := NdAt.lt (unhide hat)
  have hbl : ∀ j, j < wq.heap.size → j ≠ nb → ((setNd wq nb n').alloc (obNd n2)).drew.heap[j]? = wq.heap[j]? := fun j hj hn => (Below.heap_alloc (setNd wq nb n') (obNd n2) j (by rw [setNd_size]; exact hj)).trans (setNd_other hn)
  refine ⟨n', h0, h61, hnb, ?_, hz, hk _ ?_ (hv.move fun j hj hl => ⟨hbl j hl hj.2, hj⟩)⟩
  · exact (Below.heap_alloc (setNd wq nb n') (obNd n2) nb (by rw [setNd_size]; exact hlt)).trans (NdAt.set (unhide hat))
  · rw [hpv]
    refine ⟨?_, fun k hk => ?_⟩
    · have h := World.ownsRow_lit (base := 0) (e := 53) (size := 7) (setNd wq nb n') #[.int .i64 n2.sh, .slice n2.pa n2.pn n2.pc, .string n2.ss, .int .i64 n2.le, .int .i64 n2.mo, .int .i64 n2.fa, .int .i64 n2.sz] 1 (Nat.zero_le _) (by decide) rfl
      rw [setNd_size] at h
      have e : ndCells [n2] = cNd n2 := by simp [ndCells]
      rw [e]
      exact h.drew
    · have : wq.heap.size = k := by simpa [Value.ownBlock] using hk
      subst this
      exact ⟨by omega, by omega⟩
theorem PL.drew (h : Hid (PL w0 w b s d l)) : Hid (PL w0 w.drew b s d l) := PL.below h ⟨rfl, rfl, rfl, Nat.le_refl _, fun _ _ => rfl⟩
theorem pl_wrap {w1 wq : World} {nb : Nat} (h : Hid (PL w1 wq b s d l)) (hnb : w1.heap.size ≤ nb) (hb : b < nb) (n' n2 : Nd) : Hid (PL w1 ((setNd wq nb n').alloc (obNd n2)).drew b s d l) :=
  PL.drew (PL.alloc (PL.setNd h hnb hb n') (obNd n2))
/-- between two signs. -/
def WrapP (w w1 wr : World) (b : Nat) (s : ByteArray) (d : Int) (k i nb : Nat) (zf : Pn) (l : List Sy) : Prop :=
  ∃ z, notK (k - i) z = zf ∧ BoxP w w1 wr nb z ∧ Hid (PL w1 wr b s d l)
theorem wrap_start {w1 wr w4 : World} {nb k : Nat} {z : Pn} (hx : Hid (BoxP w w1 wr nb z)) (hs : Hid (PL w1 wr b s d l)) (h4 : Hid (PL wr w4 b s d l)) (hb : b < w.heap.size) (hb3 : b < nb) : Hid (WrapP w w1 w4 b s d k 0 nb (notK k z) l) := by
  obtain ⟨n, h0, h1, h2, h3, h5⟩ := unhide hx
  exact ⟨z, rfl, ⟨n, h0, h1, h2, NdAt.up h3 (PL.up h4) (by omega), NodeOK.move h5 fun j hj hl => ⟨(PL.up h4).block j hl (by omega), hj⟩⟩, PL.join (PL.up hs) h4⟩
theorem repeatP_b {n : Nat} {l l1 : List Sy} {o : Often} (h : repeatP n l = .ok (o, l1)) : 0 ≤ o.2.2 ∧ o.2.2 ≤ 13 := by
  have e := repeat_same n l
  rw [h] at e
  exact repeatS_bd e
theorem repeatP_len {n : Nat} {l l1 : List Sy} {o : Often} (hr : isRep (hd l) = true) (h : repeatP n l = .ok (o, l1)) : l1.length < l.length := by
  have e := repeat_same n l
  rw [h] at e
  exact repeatS_len hr e

set_option maxRecDepth 100000 in
set_option maxHeartbeats 8000000 in
theorem qItem {at_ : List Sy → Res Pn} (HA : Hid (PartC 289 at_ b s d)) (HB : Hid (BdP at_)) (h : Hid (PL w w b s d l)) :
    Calls Tryz.prog 263 #[.pointer (some ⟨b, 0, none⟩)] w (OutN (itemP s.size at_ (l.length + 1) l) w b s d) := by
  obtain ⟨R, hR⟩ : ∃ R, itemP s.size at_ (l.length + 1) l = R := ⟨_, rfl⟩
  rw [hR]
  have hbw := PL.lt h
  have HUE : Hid (∀ w', Hid (Up b (w.alloc (obNd nd0)) w') → Hid (Up b w w')) := fun w' hu => up_entry h hu
  have HPE : Hid (∀ w' l' n, Hid (PL (w.alloc (obNd nd0)) w' b s d l') → Hid (PL w (setNd w' w.heap.size n) b s d l')) := fun w' l' n h' => pl_exit7 h h' n
  have HAT := hide (NdAt.new w nd0)
  have hsz1 : (w.alloc (obNd nd0)).heap.size = w.heap.size + 1 := by simp
  have HP : Hid (NotP R at_ (w.alloc (obNd nd0)) (w.alloc (obNd nd0)) b s d 0) := ⟨_, l, by rw [mapR_not0]; exact hR, Nat.lt_succ_self _, by have := PL.len h; omega, pl_entry h (obNd nd0)⟩
  clear hR h
  go_enter Tryz.func263, Tryz.ntmps263
  go_wp2_with fail
  go_loopw [3] (fun v wr => ∃ k : Nat, v = .int .i64 k ∧ Hid (NotP R at_ (w.alloc (obNd nd0)) wr b s d k)) (fun _ wr => left s b wr)
  case atStart => exact ⟨0, rfl, HP⟩
  case round =>
    clear HP
    obtain ⟨k, rfl, HP⟩ := hrel
    obtain ⟨f, l', hf, hlt, hk, HS⟩ := unhide HP
    obtain ⟨f, rfl⟩ : ∃ f', f = f' + 1 := ⟨f - 1, by omega⟩
    have HL := hide (PL.left HS)
    have hk60 : (k : Int) ≤ 60 := by omega
    by_cases hn : hd l' = 126
    · have hp := hd_pos (l := l') (by omega)
      rw [mapR_notS hn] at hf
      have HF := hide hf
      have HN := hide hn
      clear hf hn HP
      go_wp2_with (first
        | (go_at_call 183; refine (qMet_yes HS 126 HN).mono ?_; clear HS; rintro x w2 ⟨rfl, HS⟩))
      go_roundw
      case rel => exact ⟨k + 1, by go_num, f, _, unhide HF, by omega, by omega, HS⟩
      case measure =>
        have e1 := PL.left HS
        have e2 := unhide HL
        show left s b _ < left s b _
        omega
    · rw [itemP, if_neg hn] at hf
      have HN := hide hn
      clear hn HP HL
      cases ha : at_ l' with
      | error y =>
        rw [ha] at hf
        have HX : Hid (R = .error y) := hf.symm
        have HAE := hide ha
        clear ha hf
        go_wp2_with (first
          | (go_at_call 183; refine (qMet_no HS 126 HN).mono ?_; clear HS; rintro x w2 ⟨rfl, HS⟩)
          | (go_at_call 289; refine (outN_err (unhide HA _ _ (PL.base HS)) HAE).mono ?_; rintro x w3 ⟨rfl, HU⟩; have HU2 := hide ((PL.up HS).trans (unhide HU))))
        rw [unhide HX]
        exact ⟨rfl, rfl, unhide HUE _ HU2⟩
      | ok y =>
        obtain ⟨z, l1⟩ := y
        rw [ha] at hf
        dsimp only at hf
        obtain ⟨hz0, hz61⟩ := unhide HB _ _ _ ha
        have HAE := hide ha
        have HF := hide hf
        clear ha hf
        go_wp2_with (first
          | (go_at_call 183; refine (qMet_no HS 126 HN).mono ?_; clear HS; rintro x w2 ⟨rfl, HS⟩)
          | (go_at_call 289; refine (outN_ok (unhide HA _ _ (PL.base HS)) HAE).mono ?_; simp only [vNd]; rintro x w3 ⟨n, rfl, HN3, HS3⟩; have HT3 := PL.join (PL.up HS) HS3; have hs2 := (PL.up HS).size; have hs3 := (PL.up HT3).size; have hb3 := PL.lt HT3))
        have HQ : Hid (RepP R w (w.alloc (obNd nd0)) (w3.alloc (obNd n)) b s d k w3.heap.size) := by
          refine ⟨_, l1, z, unhide HF, Nat.lt_succ_self _, ⟨n, hz0, hz61, hs3, NdAt.new w3 n, ?_⟩, PL.alloc HT3 _⟩
          exact NodeOK.move HN3 fun j hj hl => ⟨Below.heap_alloc w3 _ j hl, by omega, by omega⟩
        clear HF HS HS3 HT3 HAE HN HN3
        generalize w3.alloc (obNd n) = wb at *
        generalize w3.heap.size = nb at *
        go_loopw [] (fun wr => Hid (RepP R w (w.alloc (obNd nd0)) wr b s d k nb)) (fun wr => left s b wr)
        case atStart => exact HQ
        case round =>
          clear HQ hz0 hz61 hlt hk
          obtain ⟨f2, l2, z2, hf2, hlt2, HBX, HS⟩ := unhide hrel
          obtain ⟨f2, rfl⟩ : ∃ f', f2 = f' + 1 := ⟨f2 - 1, by omega⟩
          have HL := hide (PL.left HS)
          rw [repsP] at hf2
          obtain ⟨c, hcc⟩ : ∃ c, hd l2 = c := ⟨_, rfl⟩
          have HCC := hide hcc
          rw [hcc] at hf2
          cases hr : isRep c
          · rw [if_neg (by rw [hr]; decide)] at hf2
            have HX : Hid (R = .ok (notK k z2, l2)) := hf2.symm
            have HR := hide hr
            have HBX2 := hide HBX
            clear hr hf2 hcc hrel HL HBX
            go_wp2_with (first
              | (go_at_call 233; refine (qLook (PL.base HS) HCC).mono ?_; rintro x w2 ⟨rfl, HS2⟩)
              | (go_at_call 290; refine (qCon_rep HS2 HCC HR).mono ?_; clear HS2; rintro x w4 ⟨rfl, HS2⟩))
            have HW : Hid (WrapP w (w.alloc (obNd nd0)) w4 b s d k 0 nb (notK k z2) l2) := wrap_start HBX2 HS HS2 hbw hb3
            clear HS HS2 HBX2 HR HCC
            go_loopw [28] (fun v wr => ∃ i : Nat, i ≤ k ∧ v = .int .i64 i ∧ Hid (WrapP w (w.alloc (obNd nd0)) wr b s d k i nb (notK k z2) l2)) (fun v _ => k - (intOf v).toNat)
            case atStart => exact ⟨0, Nat.zero_le _, rfl, HW⟩
            case round =>
              clear HW
              obtain ⟨i, hi, rfl, HW⟩ := hrel
              obtain ⟨z, hzk, HBX, HS⟩ := unhide HW
              obtain ⟨n2, hz0, hz61, hnb, hat2, hok2⟩ := HBX
              have hsz : n2.sz = z.2 := hok2.1
              have HAT2 := hide hat2
              rw [← hsz] at hz0 hz61
              obtain ⟨c0, c1, c2, c3, c4, c5, c6⟩ := NdAt.cells hat2
              have cf := NdAt.fz hat2
              have hq3 := NdAt.lt hat2
              have hne3 : nb ≠ b := by omega
              by_cases hik : i < k
              · have hikI : (i : Int) < (k : Int) := by omega
                have hwr : IntKind.i64.wrap (n2.sz + 1) = n2.sz + 1 := by simp [IntKind.wrap, IntKind.bits, IntKind.signed]; omega
                have hs3' : w.heap.size < (w.alloc (obNd nd0)).heap.size := by omega
                have HBX := hide (wrap_box (w := w) (z' := notN z) (n' := ⟨4, some ⟨wr.heap.size, 0, none⟩, 1, 1, ⟨#[]⟩, 0, 0, 0, cap61 (n2.sz + 1)⟩) hnb hs3' HAT2 hok2.2 rfl (by show _ = cap61 (z.2 + 1); rw [← hsz]) (by show 0 ≤ cap61 (z.2 + 1); rw [← hsz]; exact cap_ge (by omega)) (cap_le _) (fun W h1 h2 => .not rfl h1 h2))
                have HT8 := pl_wrap HS hnb hb3 ⟨4, some ⟨wr.heap.size, 0, none⟩, 1, 1, ⟨#[]⟩, 0, 0, 0, cap61 (n2.sz + 1)⟩ n2
                have HZK : Hid (notK (k - (i + 1)) (notN z) = notK k z2) := by show _ = _; rw [show k - i = (k - (i + 1)) + 1 from by omega] at hzk; exact hzk
                clear hzk hok2 hat2 hsz HW HS HAT2
                go_wp2_with fail
                go_region_with
                  ((go_at_call 231; refine (pCapped _ _).mono ?_; rintro x w6 ⟨rfl, rfl⟩))
                all_goals (go_wp2_with fail; go_roundw)
                all_goals first | exact ⟨i + 1, by omega, by go_num, notN z, unhide HZK, unhide HBX, HT8⟩ | (simp [intOf]; omega)
              · have hki : i = k := by omega
                subst hki
                rw [Nat.sub_self] at hzk
                have hze : z = notK i z2 := hzk
                have HR := NdAt.up HAT (PL.up HS) (by omega)
                obtain ⟨d0, d1, d2, d3, d4, d5, d6⟩ := NdAt.cells (unhide HR)
                have df := NdAt.fz (unhide HR)
                have HOK2 := hide hok2
                rw [hze] at HOK2
                clear hzk hze hok2 hat2 hsz HW hz0 hz61
                go_wp2_with fail
                change bodyPost _ _ _ _ _ (setNd wr w.heap.size n2)
                refine node_ret (rb := w.heap.size) (n := n2) 2 rfl rfl rfl (hide (NdAt.set (unhide HR))) ?_
                rw [unhide HX]
                exact ⟨n2, rfl, NodeOK.move HOK2 fun j hj hl => ⟨setNd_other (by omega), by omega⟩, unhide HPE _ _ _ HS⟩
          · rw [if_pos hr] at hf2
            have HR := hide hr
            cases hm : repeatP s.size l2 with
            | error y =>
              rw [hm] at hf2
              have HX : Hid (R = .error y) := hf2.symm
              have HM := hide hm
              have hrp : Hid (isRep (hd l2) = true) := by show _ = _; rw [hcc]; exact hr
              clear hr hf2 HL hm hcc hrel
              go_wp2_with (first
                | (go_at_call 233; refine (qLook HS HCC).mono ?_; clear HS; rintro x w2 ⟨rfl, HS⟩)
                | (go_at_call 290; refine (qCon_rep HS HCC HR).mono ?_; clear HS; rintro x w4 ⟨rfl, HS⟩)
                | (go_at_call 291; refine (outV_err (qRepeat HS (unhide hrp)) HM).mono ?_; rintro x w5 ⟨rfl, HU⟩))
              rw [unhide HX]
              exact ⟨rfl, rfl, unhide HUE _ HU⟩
            | ok u =>
              obtain ⟨o, l3⟩ := u
              rw [hm] at hf2
              dsimp only at hf2
              have HX := hide hf2
              have hlen := repeatP_len (by rw [hcc]; exact hr) hm
              obtain ⟨hm0, hm13⟩ := repeatP_b hm
              have HM := hide hm
              have hrp : Hid (isRep (hd l2) = true) := by show _ = _; rw [hcc]; exact hr
              obtain ⟨n2, hz0, hz61, hnb, hat2, hok2⟩ := HBX
              have hsz : n2.sz = z2.2 := hok2.1
              have HAT2 := hide hat2
              have HOK2 := hide hok2
              rw [← hsz] at hz0 hz61
              have HSZ := hide hsz
              clear hsz
              have hmul0 : 0 ≤ n2.sz * o.2.2 := Int.mul_nonneg hz0 hm0
              have hmul1 : n2.sz * o.2.2 ≤ 61 * 13 := Int.mul_le_mul hz61 hm13 hm0 (by decide)
              have hwr : IntKind.i64.wrap (n2.sz * o.2.2) = n2.sz * o.2.2 := by simp [IntKind.wrap, IntKind.bits, IntKind.signed]; omega
              clear hr hf2 hm hcc hrel hat2 hok2
              go_wp2_with (first
                | (go_at_call 233; refine (qLook (PL.base HS) HCC).mono ?_; rintro x w2 ⟨rfl, HS2⟩)
                | (go_at_call 290; refine (qCon_rep HS2 HCC HR).mono ?_; clear HS2; rintro x w4 ⟨rfl, HS2⟩)
                | (go_at_call 291; refine (outV_ok (qRepeat HS2 (unhide hrp)) HM).mono ?_; clear HS2; simp only [vOften]; rintro x w5 ⟨rfl, HS2⟩))
              have HT5 := PL.join (PL.up HS) HS2
              have hne3 : nb ≠ b := by omega
              have HA5 := NdAt.up HAT2 (PL.up HS2) hne3
              have HO5 := NodeOK.move (G := fun j => w.heap.size < j ∧ j ≠ nb) HOK2 fun j hj hl => ⟨(PL.up HS2).block j hl (by omega), hj⟩
              have hn5 := NdAt.lt (unhide HA5)
              have HA6 := NdAt.alloc HA5 (.cells #[.int .i64 o.1, .int .i64 (mostV o.2.1), .int .i64 o.2.2] 51)
              obtain ⟨c0, c1, c2, c3, c4, c5, c6⟩ := NdAt.cells (unhide HA6)
              have cf := NdAt.fz (unhide HA6)
              have t0 : (w5.alloc (.cells #[.int .i64 o.1, .int .i64 (mostV o.2.1), .int .i64 o.2.2] 51)).cell? ⟨w5.heap.size, 0, none⟩ = some (.int .i64 o.1) := cells_new w5 [.int .i64 o.1, .int .i64 (mostV o.2.1), .int .i64 o.2.2] _ 0 _ rfl
              have t1 : (w5.alloc (.cells #[.int .i64 o.1, .int .i64 (mostV o.2.1), .int .i64 o.2.2] 51)).cell? ⟨w5.heap.size, 1, none⟩ = some (.int .i64 (mostV o.2.1)) := cells_new w5 [.int .i64 o.1, .int .i64 (mostV o.2.1), .int .i64 o.2.2] _ 1 _ rfl
              have t2 : (w5.alloc (.cells #[.int .i64 o.1, .int .i64 (mostV o.2.1), .int .i64 o.2.2] 51)).cell? ⟨w5.heap.size, 2, none⟩ = some (.int .i64 o.2.2) := cells_new w5 [.int .i64 o.1, .int .i64 (mostV o.2.1), .int .i64 o.2.2] _ 2 _ rfl
              have hq5 : w5.heap.size < (w5.alloc (.cells #[.int .i64 o.1, .int .i64 (mostV o.2.1), .int .i64 o.2.2] 51)).heap.size := by simp
              have hq3 : nb < (w5.alloc (.cells #[.int .i64 o.1, .int .i64 (mostV o.2.1), .int .i64 o.2.2] 51)).heap.size := by simp; omega
              have HO6 := NodeOK.move (w' := w5.alloc (.cells #[.int .i64 o.1, .int .i64 (mostV o.2.1), .int .i64 o.2.2] 51)) (G := fun j => w.heap.size < j ∧ j ≠ nb) HO5 fun j hj hl => ⟨Below.heap_alloc w5 _ j hl, hj⟩
              have HT6 := PL.alloc HT5 (.cells #[.int .i64 o.1, .int .i64 (mostV o.2.1), .int .i64 o.2.2] 51)
              have hnt : nb ≠ w5.heap.size := by omega
              have htn : w5.heap.size ≠ nb := by omega
              have hs3' : w.heap.size < (w.alloc (obNd nd0)).heap.size := by omega
              have hb3' : b < nb := hb3
              have HBX := hide (wrap_box (w := w) (z' := repN z2 o) (n' := ⟨5, some ⟨(w5.alloc (.cells #[.int .i64 o.1, .int .i64 (mostV o.2.1), .int .i64 o.2.2] 51)).heap.size, 0, none⟩, 1, 1, ⟨#[]⟩, o.1, mostV o.2.1, o.2.2, cap61 (n2.sz * o.2.2)⟩) hnb hs3' HA6 (unhide HO6).2 rfl (by show _ = cap61 (z2.2 * o.2.2); rw [← unhide HSZ]) (by show 0 ≤ cap61 (z2.2 * o.2.2); rw [← unhide HSZ]; exact cap_ge hmul0) (cap_le _) (fun W h1 h2 => .rep rfl h1 h2 rfl rfl))
              have HT8 := pl_wrap HT6 hnb hb3' ⟨5, some ⟨(w5.alloc (.cells #[.int .i64 o.1, .int .i64 (mostV o.2.1), .int .i64 o.2.2] 51)).heap.size, 0, none⟩, 1, 1, ⟨#[]⟩, o.1, mostV o.2.1, o.2.2, cap61 (n2.sz * o.2.2)⟩ n2
              clear HS HS2 HAT2 HOK2 HA5 HO5 HT5 hn5 HM HR HCC hrp HO6 HT6 HA6
              generalize w5.alloc (.cells #[.int .i64 o.1, .int .i64 (mostV o.2.1), .int .i64 o.2.2] 51) = wq at *
              generalize w5.heap.size = tb at *
              refine region_end (S := fun w' => w'.cell? ⟨nb, 0, none⟩ = some (.int .i64 n2.sh) ∧ w'.cell? ⟨nb, 1, none⟩ = some (.slice n2.pa n2.pn n2.pc) ∧ w'.cell? ⟨nb, 2, none⟩ = some (.string n2.ss) ∧ w'.cell? ⟨nb, 3, none⟩ = some (.int .i64 n2.le) ∧ w'.cell? ⟨nb, 4, none⟩ = some (.int .i64 n2.mo) ∧ w'.cell? ⟨nb, 5, none⟩ = some (.int .i64 n2.fa) ∧ w'.cell? ⟨nb, 6, none⟩ = some (.int .i64 n2.sz) ∧ w'.cell? ⟨tb, 0, none⟩ = some (.int .i64 o.1) ∧ w'.cell? ⟨tb, 1, none⟩ = some (.int .i64 (mostV o.2.1)) ∧ w'.cell? ⟨tb, 2, none⟩ = some (.int .i64 o.2.2)) rfl (by kernel_rfl) (by kernel_rfl) ⟨c0, c1, c2, c3, c4, c5, c6, t0, t1, t2⟩ (fun hHeld => ?_)
              simp only [List.pop_toArray, List.dropLast, List.size_toArray, List.length_cons, List.length_nil, Nat.reduceAdd]
              refine wpAnyH_take (i := 0) (v := ?_) rfl (by kernel_rfl) (by kernel_rfl) (by kernel_rfl) (fun _ _ _ h => h) (Or.inl ⟨by rfl, ?_⟩) (by assumption) ?_
              rotate_left
              · intro W hW; (try dsimp only at hW); go_simp; (try with_reducible rfl)
              refine wpAnyH_take (i := 2) (v := ?_) rfl (by kernel_rfl) (by kernel_rfl) (by kernel_rfl) (fun _ _ _ h => h) (Or.inl ⟨by rfl, ?_⟩) (by assumption) ?_
              rotate_left
              · intro W hW; (try dsimp only at hW); go_simp; (try with_reducible rfl)
              refine wpAnyH_take (i := 3) (v := ?_) rfl (by kernel_rfl) (by kernel_rfl) (by kernel_rfl) (fun _ _ _ h => h) (Or.inl ⟨by rfl, ?_⟩) (by assumption) ?_
              rotate_left
              · intro W hW; (try dsimp only at hW); go_simp; (try with_reducible rfl)
              refine wpAnyH_take (i := 4) (v := ?_) rfl (by kernel_rfl) (by kernel_rfl) (by kernel_rfl) (fun _ _ _ h => h) (Or.inl ⟨by rfl, ?_⟩) (by assumption) ?_
              rotate_left
              · intro W hW; (try dsimp only at hW); go_simp; (try with_reducible rfl)
              refine wpAnyH_take (i := 5) (v := ?_) rfl (by kernel_rfl) (by kernel_rfl) (by kernel_rfl) (fun _ _ _ h => h) (Or.inl ⟨by rfl, ?_⟩) (by assumption) ?_
              rotate_left
              · intro W hW; (try dsimp only at hW); go_simp; (try with_reducible rfl)
              refine wpAnyH_take (i := 6) (v := ?_) rfl (by kernel_rfl) (by kernel_rfl) (by kernel_rfl) (fun _ _ _ h => h) (Or.inl ⟨by rfl, ?_⟩) (by assumption) ?_
              rotate_left
              · intro W hW; (try dsimp only at hW); go_simp; (try with_reducible rfl)
              refine wpAnyH_take (i := 7) (v := ?_) rfl (by kernel_rfl) (by kernel_rfl) (by kernel_rfl) (fun _ _ _ h => h) (Or.inl ⟨by rfl, ?_⟩) (by assumption) ?_
              rotate_left
              · intro W hW; (try dsimp only at hW); go_simp; (try with_reducible rfl)
              refine wpAnyH_ready (rs := [1, 8]) (by kernel_rfl) (by simp) ?_
              refine AllReadyH.cons rfl (fun K hK => ?_) (AllReadyH.cons rfl (fun K hK => ?_) AllReadyH.nil)
              · go_simp
                refine hK.out _ _ ?_ (fun hHeld => ?_)
                · go_keep
                clear hK K
                refine wpAnyH_ready (rs := [8]) (by kernel_rfl) (by simp) ?_
                refine AllReadyH.cons rfl (fun K hK => ?_) AllReadyH.nil
                go_simp
                refine (pCapped _ _).mono ?_
                rintro x w6 ⟨rfl, rfl⟩
                dsimp only
                refine hK.out _ _ ?_ (fun hHeld => ?_)
                · go_keep
                clear hK K
                refine wpAnyH_take (i := 9) (v := ?_) rfl (by kernel_rfl) (by kernel_rfl) (by kernel_rfl) (fun _ _ _ h => h) (Or.inl ⟨by rfl, ?_⟩) (by assumption) ?_
                rotate_left
                · intro W hW; (try dsimp only at hW); go_simp; (try with_reducible rfl)
                refine wpAnyH_done (by kernel_rfl) ?_ _
                show Oper.wp _ _ _ _ _ _
                go_simp
                go_wp2_with fail
                go_roundw
                all_goals first | exact ⟨f2, l3, _, unhide HX, by omega, unhide HBX, HT8⟩ | (have e1 := PL.left HT8; have e2 := unhide HL; show left s b _ < left s b _; refine Nat.lt_of_le_of_lt (Nat.le_of_eq e1) ?_; omega)
              · go_simp
                refine (pCapped _ _).mono ?_
                rintro x w6 ⟨rfl, rfl⟩
                dsimp only
                refine hK.out _ _ ?_ (fun hHeld => ?_)
                · go_keep
                clear hK K
                refine wpAnyH_ready (rs := [1]) (by kernel_rfl) (by simp) ?_
                refine AllReadyH.cons rfl (fun K hK => ?_) AllReadyH.nil
                go_simp
                refine hK.out _ _ ?_ (fun hHeld => ?_)
                · go_keep
                clear hK K
                refine wpAnyH_take (i := 9) (v := ?_) rfl (by kernel_rfl) (by kernel_rfl) (by kernel_rfl) (fun _ _ _ h => h) (Or.inl ⟨by rfl, ?_⟩) (by assumption) ?_
                rotate_left
                · intro W hW; (try dsimp only at hW); go_simp; (try with_reducible rfl)
                refine wpAnyH_done (by kernel_rfl) ?_ _
                show Oper.wp _ _ _ _ _ _
                go_simp
                go_wp2_with fail
                go_roundw
                all_goals first | exact ⟨f2, l3, _, unhide HX, by omega, unhide HBX, HT8⟩ | (have e1 := PL.left HT8; have e2 := unhide HL; show left s b _ < left s b _; refine Nat.lt_of_le_of_lt (Nat.le_of_eq e1) ?_; omega)
end
end Go.Proofs.YtfolanohokflkabGreatDoor
