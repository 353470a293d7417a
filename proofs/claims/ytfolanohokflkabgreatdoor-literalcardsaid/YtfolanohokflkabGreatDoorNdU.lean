import Derived.Test.YtfolanohokflkabGreatDoorNdT
import Derived.WalkKit
import Derived.WalkSpells
import Derived.WalkLawsBesides
import Derived.WalkMore
namespace Go.Proofs.YtfolanohokflkabGreatDoor
open Go.RowKit
section
variable {w0 w : World} {b : Nat} {s : ByteArray} {d : Int} {l : List Sy}
def sepLP (n : Nat) (sub : List Sy → Res Pn) (sign : Int) (l : List Sy) : Res (List Pn) :=
  match sub l with
  | .error x => .error x
  | .ok (y, l1) => sepLoopP n sub sign (l1.length + 1) [y] l1
theorem sepP_map (n : Nat) (sub : List Sy → Res Pn) (sign : Int) (g : List Pn → Pn) (l : List Sy) : sepP n sub sign g l = mapR g (sepLP n sub sign l) := by
  unfold sepP sepLP
  cases sub l with
  | error x => rfl
  | ok y => obtain ⟨y, l1⟩ := y; rfl
/-- .. a slice of nodes, or the panic. -/
def OutS (R : Res (List Pn)) (w0 : World) (b : Nat) (s : ByteArray) (d : Int) (x : Ending) (w' : World) : Prop :=
  match R with
  | .ok y => ∃ ao cap nds, x = .returned (.slice ao nds.length cap) ∧ Hid (PtsP w0 w' (.slice ao nds.length cap) nds y.1) ∧ 0 < nds.length ∧ nds.length ≤ 61 ∧ Hid (PL w0 w' b s d y.2)
  | .error y => x = Pan y.1 y.2 ∧ Hid (Up b w0 w')
theorem outS_err {R : Res (List Pn)} {f : Nat} {args : Array Value} (H : Calls Tryz.prog f args w (OutS R w0 b s d)) {y : Int × Int} (hR : Hid (R = .error y)) :
    Calls Tryz.prog f args w fun x w' => x = Pan y.1 y.2 ∧ Hid (Up b w0 w') := by
  rw [unhide hR] at H; exact H
theorem outS_ok {R : Res (List Pn)} {f : Nat} {args : Array Value} (H : Calls Tryz.prog f args w (OutS R w0 b s d)) {z : List Pn} {l1 : List Sy} (hR : Hid (R = .ok (z, l1))) :
    Calls Tryz.prog f args w fun x w' => ∃ ao cap nds, x = .returned (.slice ao nds.length cap) ∧ Hid (PtsP w0 w' (.slice ao nds.length cap) nds z) ∧ 0 < nds.length ∧ nds.length ≤ 61 ∧ Hid (PL w0 w' b s d l1) := by
  rw [unhide hR] at H; exact H
/-- of a part: its size is small. -/
abbrev SubB (sub : List Sy → Res Pn) : Prop := ∀ l v l', sub l = .ok (v, l') → l'.length ≤ l.length ∧ 0 ≤ v.2 ∧ v.2 ≤ 61
theorem pts_one {w2 : World} {n : Nd} {y : Pn} (hn : Hid (NodeOK w2 (fun j => w.heap.size ≤ j) n y)) (hs : w.heap.size ≤ w2.heap.size) (h0 : 0 ≤ y.2) (h61 : y.2 ≤ 61) : Hid (PtsP w (w2.alloc (obNd n)) (.slice (some ⟨w2.heap.size, 0, none⟩) 1 1) [n] [y]) := by
  refine ⟨?_, ⟨rfl, fun i h h' => ?_⟩, fun p hp => by simp at hp; subst hp; exact ⟨h0, h61⟩⟩
  · have h := World.ownsRow_lit (base := w.heap.size) (e := 53) (size := 7) w2 #[.int .i64 n.sh, .slice n.pa n.pn n.pc, .string n.ss, .int .i64 n.le, .int .i64 n.mo, .int .i64 n.fa, .int .i64 n.sz] 1 hs (by decide) rfl
    have e : ndCells [n] = cNd n := by simp [ndCells]
    rw [e]
    exact h
  · have hi : i = 0 := by simpa using h
    subst hi
    exact unhide (NodeOK.move hn fun j hj hl => ⟨Below.heap_alloc w2 _ j hl, hj, fun e => by have : w2.heap.size = j := by simpa [Value.ownBlock] using e
                                                                                             omega⟩)
def SepP (R : Res (List Pn)) (sub : List Sy → Res Pn) (mark : Int) (w1 wr : World) (b : Nat) (s : ByteArray) (d : Int) (v : Value) (n : Nat) : Prop :=
  ∃ f l nds ps, sepLoopP s.size sub mark f ps l = R ∧ l.length < f ∧ n = nds.length ∧ 0 < ps.length ∧ ps.length + l.length ≤ 61 ∧ Hid (PtsP w1 wr v nds ps) ∧ Hid (PL w1 wr b s d l)

set_option maxRecDepth 100000 in
set_option maxHeartbeats 8000000 in
theorem qParted_row {sub : List Sy → Res Pn} {mark : Int} (hmk : 0 ≤ mark) (HA : Hid (PartC 232 sub b s d)) (HLn : Hid (SubB sub)) (h : Hid (PL w w b s d l)) :
    Calls Tryz.prog 181 #[.pointer (some ⟨b, 0, none⟩), .int .i32 mark, .func (.func 232) #[.pointer (some ⟨b, 0, none⟩)] #[]] w (OutS (sepLP s.size sub mark l) w b s d) := by
  obtain ⟨R, hR⟩ : ∃ R, sepLP s.size sub mark l = R := ⟨_, rfl⟩
  rw [hR]
  have hbw := PL.lt h
  have hl60 := PL.len h
  unfold sepLP at hR
  cases hi : sub l with
  | error y =>
    rw [hi] at hR
    have HX : Hid (R = .error y) := hR.symm
    have HI := hide hi
    clear hi hR
    go_enter Tryz.func181, Tryz.ntmps181
    go_wp2_with (go_at_call 232; refine (outN_err (unhide HA _ _ h) HI).mono ?_; rintro x w3 ⟨rfl, HU⟩)
    rw [unhide HX]
    exact ⟨rfl, rfl, HU⟩
  | ok y =>
    obtain ⟨y, l1⟩ := y
    rw [hi] at hR
    dsimp only at hR
    obtain ⟨hll, hy0, hy61⟩ := unhide HLn _ _ _ hi
    have HX := hide hR
    have HI := hide hi
    clear hi hR
    go_enter Tryz.func181, Tryz.ntmps181
    go_wp2_with (go_at_call 232; refine (outN_ok (unhide HA _ _ h) HI).mono ?_; simp only [vNd]; rintro x w2 ⟨n, rfl, HN, HS⟩; have hs2 := (PL.up HS).size)
    have HP : Hid (SepP R sub mark w (w2.alloc (obNd n)) b s d (.slice (some ⟨w2.heap.size, 0, none⟩) 1 1) 1) := ⟨_, l1, [n], [y], unhide HX, Nat.lt_succ_self _, rfl, by simp, by simp; omega, pts_one HN hs2 hy0 hy61, PL.alloc HS _⟩
    clear HX HI HN HS h hy0 hy61
    go_loopw [7] (fun v wr => ∃ ao n cap, v = .slice ao n cap ∧ Hid (SepP R sub mark w wr b s d (.slice ao n cap) n)) (fun _ wr => left s b wr)
    case atStart => exact ⟨_, _, _, rfl, HP⟩
    case round =>
      clear HP
      obtain ⟨ao, n, cap, rfl, HP⟩ := hrel
      obtain ⟨f, l', nds, ps, hf, hlt, hn, hps, hlen, HPT, HS⟩ := unhide HP
      obtain ⟨f, rfl⟩ : ∃ f', f = f' + 1 := ⟨f - 1, by omega⟩
      have HL := hide (PL.left HS)
      have hnl : nds.length = ps.length := (unhide HPT).2.1.1
      subst hn
      clear HP
      rw [sepLoopP] at hf
      by_cases hm : hd l' = mark
      · rw [if_pos hm] at hf
        have hp := hd_pos (l := l') (by omega)
        have HM := hide hm
        clear hm
        cases hi : sub l'.tail with
        | error y =>
          rw [hi] at hf
          have HX : Hid (R = .error y) := hf.symm
          have HI := hide hi
          clear hi hf HL hnl hlen hps
          go_wp2_with (first
            | (go_at_call 183; refine (qMet_yes HS mark HM).mono ?_; rintro x w3 ⟨rfl, HS2⟩)
            | (go_at_call 232; refine (outN_err (unhide HA _ _ (PL.base HS2)) HI).mono ?_; rintro x w4 ⟨rfl, HU⟩; have HU2 := hide ((PL.up HS2).trans (unhide HU))))
          rw [unhide HX]
          exact ⟨rfl, rfl, HU2⟩
        | ok y =>
          obtain ⟨y, l2⟩ := y
          rw [hi] at hf
          dsimp only at hf
          obtain ⟨hll2, hy0, hy61⟩ := unhide HLn _ _ _ hi
          have HX := hide hf
          have HI := hide hi
          have hnd : nds.length ≤ 2000 := by omega
          have HNL := hide hnl
          clear hi hf hnl
          go_wp2_with (first
            | (go_at_call 183; refine (qMet_yes (PL.base HS) mark HM).mono ?_; rintro x w3 ⟨rfl, HS2⟩; have HT2 := PL.join (PL.up HS) HS2; have HPT2 := PtsP.up HPT hbw (PL.up HS2); have hs3 := (PL.up HT2).size; clear HPT HS2 HS)
            | (go_at_call 232; refine (outN_ok (unhide HA _ _ (PL.base HT2)) HI).mono ?_; simp only [vNd]; rintro x w4 ⟨n4, rfl, HN4, HS3⟩; have HT3 := PL.join (PL.up HT2) HS3; have HPT3 := PtsP.up HPT2 hbw (PL.up HS3); have hs4 := (PL.up HT3).size; clear HS3)
            | (at_builtin; refine app_nd w.heap.size w4 nds n4 _ (.tmp 14) (.tmp 17) rfl rfl rfl rfl (unhide HPT3).1 hs4 hnd ?_; intro g5 cap5 w5 HO5 HG5 HA5; have HPT5 := PtsP.next HPT2 HPT3 HN4 hs3 hy0 hy61 HO5 HG5 HA5; have HT5 := PL.grown (PL.alloc HT3 (obNd n4)) (unhide HG5) (fun k hk => by have := ((unhide HPT3).1.lt k hk).1; omega); clear HO5 HG5 HA5 HPT2 HPT3 HN4 HT2 HT3))
          go_roundw
          case rel => exact ⟨_, _, _, rfl, f, l2, nds ++ [n4], ps ++ [y], unhide HX, by omega, by simp, by simp, by simp; omega, HPT5, HT5⟩
          case measure =>
            have e1 := PL.left HT5
            have e2 := unhide HL
            show left s b _ < left s b _
            omega
      · rw [if_neg hm] at hf
        have HX : Hid (R = .ok (ps, l')) := hf.symm
        have HM := hide hm
        have h1 : 0 < nds.length := by omega
        have h2 : nds.length ≤ 61 := by omega
        clear hm hf HL hnl
        go_wp2_with (go_at_call 183; refine (qMet_no (PL.base HS) mark HM).mono ?_; rintro x w3 ⟨rfl, HS2⟩; have HT2 := PL.join (PL.up HS) HS2; have HPT2 := PtsP.up HPT hbw (PL.up HS2); clear HPT HS2 HS)
        go_ret
        rw [unhide HX]
        exact ⟨ao, cap, nds, rfl, HPT2, h1, h2, HT2⟩

set_option maxRecDepth 100000 in
set_option maxHeartbeats 8000000 in
theorem qParted_both {sub : List Sy → Res Pn} {mark : Int} (hmk : 0 ≤ mark) (HA : Hid (PartC 182 sub b s d)) (HLn : Hid (SubB sub)) (h : Hid (PL w w b s d l)) :
    Calls Tryz.prog 181 #[.pointer (some ⟨b, 0, none⟩), .int .i32 mark, .func (.func 182) #[.pointer (some ⟨b, 0, none⟩)] #[]] w (OutS (sepLP s.size sub mark l) w b s d) := by
  obtain ⟨R, hR⟩ : ∃ R, sepLP s.size sub mark l = R := ⟨_, rfl⟩
  rw [hR]
  have hbw := PL.lt h
  have hl60 := PL.len h
  unfold sepLP at hR
  cases hi : sub l with
  | error y =>
    rw [hi] at hR
    have HX : Hid (R = .error y) := hR.symm
    have HI := hide hi
    clear hi hR
    go_enter Tryz.func181, Tryz.ntmps181
    go_wp2_with (go_at_call 182; refine (outN_err (unhide HA _ _ h) HI).mono ?_; rintro x w3 ⟨rfl, HU⟩)
    rw [unhide HX]
    exact ⟨rfl, rfl, HU⟩
  | ok y =>
    obtain ⟨y, l1⟩ := y
    rw [hi] at hR
    dsimp only at hR
    obtain ⟨hll, hy0, hy61⟩ := unhide HLn _ _ _ hi
    have HX := hide hR
    have HI := hide hi
    clear hi hR
    go_enter Tryz.func181, Tryz.ntmps181
    go_wp2_with (go_at_call 182; refine (outN_ok (unhide HA _ _ h) HI).mono ?_; simp only [vNd]; rintro x w2 ⟨n, rfl, HN, HS⟩; have hs2 := (PL.up HS).size)
    have HP : Hid (SepP R sub mark w (w2.alloc (obNd n)) b s d (.slice (some ⟨w2.heap.size, 0, none⟩) 1 1) 1) := ⟨_, l1, [n], [y], unhide HX, Nat.lt_succ_self _, rfl, by simp, by simp; omega, pts_one HN hs2 hy0 hy61, PL.alloc HS _⟩
    clear HX HI HN HS h hy0 hy61
    go_loopw [7] (fun v wr => ∃ ao n cap, v = .slice ao n cap ∧ Hid (SepP R sub mark w wr b s d (.slice ao n cap) n)) (fun _ wr => left s b wr)
    case atStart => exact ⟨_, _, _, rfl, HP⟩
    case round =>
      clear HP
      obtain ⟨ao, n, cap, rfl, HP⟩ := hrel
      obtain ⟨f, l', nds, ps, hf, hlt, hn, hps, hlen, HPT, HS⟩ := unhide HP
      obtain ⟨f, rfl⟩ : ∃ f', f = f' + 1 := ⟨f - 1, by omega⟩
      have HL := hide (PL.left HS)
      have hnl : nds.length = ps.length := (unhide HPT).2.1.1
      subst hn
      clear HP
      rw [sepLoopP] at hf
      by_cases hm : hd l' = mark
      · rw [if_pos hm] at hf
        have hp := hd_pos (l := l') (by omega)
        have HM := hide hm
        clear hm
        cases hi : sub l'.tail with
        | error y =>
          rw [hi] at hf
          have HX : Hid (R = .error y) := hf.symm
          have HI := hide hi
          clear hi hf HL hnl hlen hps
          go_wp2_with (first
            | (go_at_call 183; refine (qMet_yes HS mark HM).mono ?_; rintro x w3 ⟨rfl, HS2⟩)
            | (go_at_call 182; refine (outN_err (unhide HA _ _ (PL.base HS2)) HI).mono ?_; rintro x w4 ⟨rfl, HU⟩; have HU2 := hide ((PL.up HS2).trans (unhide HU))))
          rw [unhide HX]
          exact ⟨rfl, rfl, HU2⟩
        | ok y =>
          obtain ⟨y, l2⟩ := y
          rw [hi] at hf
          dsimp only at hf
          obtain ⟨hll2, hy0, hy61⟩ := unhide HLn _ _ _ hi
          have HX := hide hf
          have HI := hide hi
          have hnd : nds.length ≤ 2000 := by omega
          have HNL := hide hnl
          clear hi hf hnl
          go_wp2_with (first
            | (go_at_call 183; refine (qMet_yes (PL.base HS) mark HM).mono ?_; rintro x w3 ⟨rfl, HS2⟩; have HT2 := PL.join (PL.up HS) HS2; have HPT2 := PtsP.up HPT hbw (PL.up HS2); have hs3 := (PL.up HT2).size; clear HPT HS2 HS)
            | (go_at_call 182; refine (outN_ok (unhide HA _ _ (PL.base HT2)) HI).mono ?_; simp only [vNd]; rintro x w4 ⟨n4, rfl, HN4, HS3⟩; have HT3 := PL.join (PL.up HT2) HS3; have HPT3 := PtsP.up HPT2 hbw (PL.up HS3); have hs4 := (PL.up HT3).size; clear HS3)
            | (at_builtin; refine app_nd w.heap.size w4 nds n4 _ (.tmp 14) (.tmp 17) rfl rfl rfl rfl (unhide HPT3).1 hs4 hnd ?_; intro g5 cap5 w5 HO5 HG5 HA5; have HPT5 := PtsP.next HPT2 HPT3 HN4 hs3 hy0 hy61 HO5 HG5 HA5; have HT5 := PL.grown (PL.alloc HT3 (obNd n4)) (unhide HG5) (fun k hk => by have := ((unhide HPT3).1.lt k hk).1; omega); clear HO5 HG5 HA5 HPT2 HPT3 HN4 HT2 HT3))
          go_roundw
          case rel => exact ⟨_, _, _, rfl, f, l2, nds ++ [n4], ps ++ [y], unhide HX, by omega, by simp, by simp, by simp; omega, HPT5, HT5⟩
          case measure =>
            have e1 := PL.left HT5
            have e2 := unhide HL
            show left s b _ < left s b _
            omega
      · rw [if_neg hm] at hf
        have HX : Hid (R = .ok (ps, l')) := hf.symm
        have HM := hide hm
        have h1 : 0 < nds.length := by omega
        have h2 : nds.length ≤ 61 := by omega
        clear hm hf HL hnl
        go_wp2_with (go_at_call 183; refine (qMet_no (PL.base HS) mark HM).mono ?_; rintro x w3 ⟨rfl, HS2⟩; have HT2 := PL.join (PL.up HS) HS2; have HPT2 := PtsP.up HPT hbw (PL.up HS2); clear HPT HS2 HS)
        go_ret
        rw [unhide HX]
        exact ⟨ao, cap, nds, rfl, HPT2, h1, h2, HT2⟩
end
end Go.Proofs.YtfolanohokflkabGreatDoor
