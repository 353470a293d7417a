import Derived.Test.YtfolanohokflkaaGreatDoorRefQ
import Derived.WalkKit
import Derived.WalkSpells
import Derived.WalkLawsBesides
namespace Go.Proofs.YtfolanohokflkaaGreatDoor
open Go.RowKit

theorem numV_ge (l : List Sy) (h : isDig (hd l) = true) : 0 ≤ (numV l).1 := by
  simp only [isDig, decide_eq_true_eq] at h
  unfold numV
  split
  · rename_i h2
    simp only [isDig, decide_eq_true_eq] at h2
    dsimp only; omega
  · dsimp only; omega
theorem numberS_ok {n : Nat} {least a : Int} {l l1 : List Sy} (h : numberS n least l = .ok (a, l1)) : isDig (hd l) = true ∧ numV l = (a, l1) ∧ least ≤ a ∧ a ≤ 12 ∧ 0 ≤ a := by
  unfold numberS at h
  split at h
  · rename_i hd
    split at h
    · cases h
    · rename_i h2
      have e : numV l = (a, l1) := by injection h
      have := numV_ge l hd
      rw [e] at h2 this
      exact ⟨hd, e, by dsimp only at h2; omega, by dsimp only at h2; omega, this⟩
  · cases h

section
variable {w0 w : World} {v0 : Value} {b : Nat} {s : ByteArray} {L : List Sy} {vs vn : Value} {i : Nat} {d : Int} {szs : List Int} {e p : Int}

theorem number_ok (h : Hid (St w0 v0 w b s L vs vn i d szs 0 0)) {a : Int} {l1 : List Sy} (hr : Hid (numberS s.size 0 (L.drop i) = .ok (a, l1))) :
    Calls Tryz.prog 278 #[.pointer (some ⟨b, 0, none⟩)] w fun x w' => ∃ i', x = .returned (.int .i64 a) ∧ Hid (St w0 v0 w' b s L vs vn i' d szs 0 0) ∧ i ≤ i' ∧ Hid (L.drop i' = l1) := by
  refine (number_st h).mono ?_
  rintro x w' ⟨rfl, i', e', p', HS, hi, hen⟩
  obtain ⟨h1, h2, -⟩ := numberS_ok (unhide hr)
  rw [unhide hr] at hen
  obtain ⟨rfl, rfl, h3⟩ := hen
  exact ⟨i', by rw [h1, if_pos rfl, h2], HS, hi, h3⟩
theorem number_err (h : Hid (St w0 v0 w b s L vs vn i d szs 0 0)) {y : Int × Int} (hr : Hid (numberS s.size 0 (L.drop i) = .error y)) :
    Calls Tryz.prog 278 #[.pointer (some ⟨b, 0, none⟩)] w fun x w' => ∃ i' v, x = .returned (.int .i64 v) ∧ Hid (St w0 v0 w' b s L vs vn i' d szs y.1 y.2) ∧ i ≤ i' ∧ Hid (¬ y.1 = 0) ∧ Hid (isDig (hd (L.drop i)) = true → v = (numV (L.drop i)).1) := by
  refine (number_st h).mono ?_
  rintro x w' ⟨rfl, i', e', p', HS, hi, hen⟩
  rw [unhide hr] at hen
  obtain ⟨rfl, rfl, h3⟩ := hen
  exact ⟨i', _, rfl, HS, hi, h3, fun hx => by rw [if_pos hx]⟩

theorem look2 {i1 : Nat} {l1 : List Sy} {c2 : Int} (h : Hid (St w0 v0 w b s L vs vn (i1 + 1) d szs 0 0)) (hd1 : Hid (L.drop i1 = l1)) (hc : Hid (hd l1.tail = c2)) :
    Calls Tryz.prog 205 #[.pointer (some ⟨b, 0, none⟩)] w fun x w' => x = .returned (.int .i64 c2) ∧ Hid (St w0 v0 w' b s L vs vn (i1 + 1) d szs 0 0) :=
  unhide (look_at (by rw [← drop_tail, unhide hd1]; exact unhide hc)) w h
def RepPost (w0 : World) (v0 : Value) (b : Nat) (s : ByteArray) (L : List Sy) (vs vn : Value) (i : Nat) (d : Int) (szs : List Int) (R : Res Int) (x : Ending) (w' : World) : Prop :=
  ∃ a c t i' e' p', x = .returned (.tuple #[.int .i64 a, .int .i64 c, .int .i64 t]) ∧ Hid (St w0 v0 w' b s L vs vn i' d szs e' p') ∧ i + 1 ≤ i' ∧ Ends R L i' e' p' ∧ ∀ y, R = .ok y → t = y.1

theorem rep_err {w' : World} {R : Res Int} {y : Int × Int} {a c t : Int} {i' : Nat} (hR : R = .error y) (hy : ¬ y.1 = 0) (hi : i + 1 ≤ i') (HS : Hid (St w0 v0 w' b s L vs vn i' d szs y.1 y.2)) : RepPost w0 v0 b s L vs vn i d szs R (.returned (.tuple #[.int .i64 a, .int .i64 c, .int .i64 t])) w' :=
  ⟨a, c, t, i', _, _, rfl, HS, hi, by rw [hR]; exact ⟨rfl, rfl, hy⟩, fun y' h => by rw [hR] at h; cases h⟩
theorem rep_ok {w' : World} {R : Res Int} {a c t : Int} {i' : Nat} (hR : R = .ok (t, L.drop i')) (hi : i + 1 ≤ i') (HS : Hid (St w0 v0 w' b s L vs vn i' d szs 0 0)) : RepPost w0 v0 b s L vs vn i d szs R (.returned (.tuple #[.int .i64 a, .int .i64 c, .int .i64 t])) w' :=
  ⟨a, c, t, i', _, _, rfl, HS, hi, by rw [hR]; exact ⟨rfl, rfl, rfl⟩, fun y' h => by rw [hR] at h; cases h; rfl⟩

set_option maxRecDepth 100000 in
set_option maxHeartbeats 4000000 in
theorem repeat_sign (h : Hid (St w0 v0 w b s L vs vn i d szs 0 0)) (hc : hd (L.drop i) = 42 ∨ hd (L.drop i) = 43 ∨ hd (L.drop i) = 63) :
    Calls Tryz.prog 246 #[.pointer (some ⟨b, 0, none⟩)] w (RepPost w0 v0 b s L vs vn i d szs (repeatS s.size (L.drop i))) := by
  have hlen := (unhide h).rs.len
  have hj := drop_lt (L := L) (i := i) (by omega)
  have HR : Hid (repeatS s.size (L.drop i) = .ok (2, L.drop (i + 1))) := by show _ = _; rw [repeatS, if_neg (by omega), drop_tail]
  have HS := h
  clear h
  rcases hc with hc | hc | hc
  all_goals
    have HL := look_at (w0 := w0) (v0 := v0) (b := b) (s := s) (L := L) (vs := vs) (vn := vn) (d := d) (szs := szs) hc
    clear hc
    go_enter Tryz.func246, Tryz.ntmps246
    go_wp2_with (go_at_call 205; refine (unhide HL _ HS).mono ?_; clear HS; rintro x w2 ⟨rfl, HS⟩; have q2 := (unhide HS).rs.c2; have f2 := (unhide HS).rs.fz 2)
    go_ret3
    exact rep_ok (unhide HR) (Nat.le_refl _) (St.up HS hj)

set_option maxRecDepth 100000 in
set_option maxHeartbeats 8000000 in
theorem repeat_brace (h : Hid (St w0 v0 w b s L vs vn i d szs 0 0)) (hc : hd (L.drop i) = 123) :
    Calls Tryz.prog 246 #[.pointer (some ⟨b, 0, none⟩)] w (RepPost w0 v0 b s L vs vn i d szs (repeatS s.size (L.drop i))) := by
  have hlen := (unhide h).rs.len
  have hj := drop_lt (L := L) (i := i) (by omega)
  have HRE : Hid (repeatS s.size (L.drop i) = boundsS s.size (L.drop (i + 1))) := by show _ = _; rw [repeatS, if_pos hc, drop_tail]
  have HL := look_at (w0 := w0) (v0 := v0) (b := b) (s := s) (L := L) (vs := vs) (vn := vn) (d := d) (szs := szs) hc
  have HS := h
  clear h hc
  cases hn : numberS s.size 0 (L.drop (i + 1)) with
  | error y =>
    have HR : Hid (repeatS s.size (L.drop i) = .error y) := by show _ = _; rw [unhide HRE, boundsS, hn]
    have HN := hide hn
    clear hn HRE
    go_enter Tryz.func246, Tryz.ntmps246
    go_wp2_with (first
      | (go_at_call 205; refine (unhide HL _ HS).mono ?_; clear HS HL; rintro x w2 ⟨rfl, HS⟩; have q2 := (unhide HS).rs.c2; have f2 := (unhide HS).rs.fz 2)
      | (go_at_call 278; refine (number_err (St.up HS hj) HN).mono ?_; clear HS HN q2 f2; rintro x w3 ⟨i1, v1, rfl, HS, hi1, hy0, -⟩)
      | (go_at_call 209; refine (is_no HS 44 (by decide) (by decide) (by show ¬ _; rw [lookV, if_neg (unhide hy0)]; decide)).mono ?_; clear HS; rintro x w4 ⟨rfl, HS⟩)
      | (go_at_call 272; refine (want_old HS 125 (by decide) (by decide) hy0).mono ?_; clear HS; rintro x w5 ⟨rfl, HS⟩))
    all_goals go_ret3
    all_goals exact rep_err (unhide HR) (unhide hy0) (by omega) HS
  | ok y =>
    obtain ⟨a, l1⟩ := y
    obtain ⟨-, -, -, ha12, ha0⟩ := numberS_ok hn
    have HN := hide hn
    have HB : Hid (repeatS s.size (L.drop i) = if hd l1 = 44 then (if hd l1.tail = 125 then .ok (a + 1, l1.tail.tail) else match numberS s.size a l1.tail with | .error x => .error x | .ok (m, l2) => closeS s.size (pos1 m) l2) else closeS s.size (pos1 a) l1) := by
      show _ = _
      rw [unhide HRE, boundsS, hn]; rfl
    clear hn HRE
    by_cases hcomma : hd l1 = 44
    · have HCM := hide hcomma
      have hge := hd_ge l1.tail
      obtain ⟨c2, hcc2⟩ : ∃ c2, hd l1.tail = c2 := ⟨_, rfl⟩
      have HC2 := hide hcc2
      rw [if_pos hcomma, hcc2] at HB
      rw [hcc2] at hge
      rcases num_hyps c2 hge with ⟨g1, g2⟩ | ⟨g1, g2⟩ | ⟨g1, g2, g3⟩
      · have t1 : decide ((48 : Int) ≤ c2) = false := by simp; omega
        by_cases hcl : c2 = 125
        · have HR2 : Hid (repeatS s.size (L.drop i) = .ok (a + 1, l1.tail.tail)) := by show _ = _; rw [unhide HB, if_pos hcl]
          have HCL : Hid (hd l1.tail = 125) := by show _ = _; rw [hcc2]; exact hcl
          clear HB hcomma hcc2 hcl g2
          go_enter Tryz.func246, Tryz.ntmps246
          go_wp2_with (first
            | (go_at_call 205; refine (unhide HL _ HS).mono ?_; clear HS HL; rintro x w2 ⟨rfl, HS⟩; have q2 := (unhide HS).rs.c2; have f2 := (unhide HS).rs.fz 2)
            | (go_at_call 278; refine (number_ok (St.up HS hj) HN).mono ?_; clear HS HN q2 f2; rintro x w3 ⟨i1, rfl, HS, hi1, HD1⟩)
            | (go_at_call 209; refine (is_yes HS 44 (by decide) (by decide) (by show hd (L.drop i1) = 44; rw [unhide HD1]; exact unhide HCM)).mono ?_; clear HS; rintro x w4 ⟨rfl, HS⟩)
            | (go_at_call 205; refine (look2 HS HD1 HC2).mono ?_; clear HS; rintro x w2 ⟨rfl, HS⟩)
            | (go_at_call 272; refine (want_yes HS 125 (by decide) (by decide) (by show hd (L.drop (i1 + 1)) = 125; rw [← drop_tail, unhide HD1]; exact unhide HCL)).mono ?_; clear HS; rintro x w5 ⟨rfl, HS⟩))
          go_ret3
          exact rep_ok (by rw [unhide HR2, ← unhide HD1, drop_tail, drop_tail]) (by omega) HS
        · have HR2 : Hid (repeatS s.size (L.drop i) = .error (2, plc s.size l1.tail)) := by
            show _ = _
            rw [unhide HB, if_neg hcl, numberS, hcc2, if_neg (by rw [g2]; decide)]; rfl
          have HCL : Hid (¬ hd l1.tail = 125) := by show ¬ _; rw [hcc2]; exact hcl
          clear HB hcomma hcc2 hcl g2
          go_enter Tryz.func246, Tryz.ntmps246
          go_wp2_with (first
            | (go_at_call 205; refine (unhide HL _ HS).mono ?_; clear HS HL; rintro x w2 ⟨rfl, HS⟩; have q2 := (unhide HS).rs.c2; have f2 := (unhide HS).rs.fz 2)
            | (go_at_call 278; refine (number_ok (St.up HS hj) HN).mono ?_; clear HS HN q2 f2; rintro x w3 ⟨i1, rfl, HS, hi1, HD1⟩)
            | (go_at_call 209; refine (is_yes HS 44 (by decide) (by decide) (by show hd (L.drop i1) = 44; rw [unhide HD1]; exact unhide HCM)).mono ?_; clear HS; rintro x w4 ⟨rfl, HS⟩)
            | (go_at_call 205; refine (look2 HS HD1 HC2).mono ?_; clear HS; rintro x w2 ⟨rfl, HS⟩)
            | (go_at_call 272; refine (want_no HS 125 (by decide) (by decide) (by show ¬ hd (L.drop (i1 + 1)) = 125; rw [← drop_tail, unhide HD1]; exact unhide HCL)).mono ?_; clear HS; rintro x w5 ⟨rfl, HS⟩))
          all_goals go_ret3
          all_goals exact rep_err (i' := i1 + 1) (y := (2, plc s.size l1.tail)) (unhide HR2) (by simp) (by omega) (by rw [← unhide HD1, drop_tail]; exact HS)
      · have t1 : (48 : Int) ≤ c2 := by omega
        have t2 : decide (c2 ≤ 57) = false := by simp; omega
        by_cases hcl : c2 = 125
        · have HR2 : Hid (repeatS s.size (L.drop i) = .ok (a + 1, l1.tail.tail)) := by show _ = _; rw [unhide HB, if_pos hcl]
          have HCL : Hid (hd l1.tail = 125) := by show _ = _; rw [hcc2]; exact hcl
          clear HB hcomma hcc2 hcl g2
          go_enter Tryz.func246, Tryz.ntmps246
          go_wp2_with (first
            | (go_at_call 205; refine (unhide HL _ HS).mono ?_; clear HS HL; rintro x w2 ⟨rfl, HS⟩; have q2 := (unhide HS).rs.c2; have f2 := (unhide HS).rs.fz 2)
            | (go_at_call 278; refine (number_ok (St.up HS hj) HN).mono ?_; clear HS HN q2 f2; rintro x w3 ⟨i1, rfl, HS, hi1, HD1⟩)
            | (go_at_call 209; refine (is_yes HS 44 (by decide) (by decide) (by show hd (L.drop i1) = 44; rw [unhide HD1]; exact unhide HCM)).mono ?_; clear HS; rintro x w4 ⟨rfl, HS⟩)
            | (go_at_call 205; refine (look2 HS HD1 HC2).mono ?_; clear HS; rintro x w2 ⟨rfl, HS⟩)
            | (go_at_call 272; refine (want_yes HS 125 (by decide) (by decide) (by show hd (L.drop (i1 + 1)) = 125; rw [← drop_tail, unhide HD1]; exact unhide HCL)).mono ?_; clear HS; rintro x w5 ⟨rfl, HS⟩))
          go_ret3
          exact rep_ok (by rw [unhide HR2, ← unhide HD1, drop_tail, drop_tail]) (by omega) HS
        · have HR2 : Hid (repeatS s.size (L.drop i) = .error (2, plc s.size l1.tail)) := by
            show _ = _
            rw [unhide HB, if_neg hcl, numberS, hcc2, if_neg (by rw [g2]; decide)]; rfl
          have HCL : Hid (¬ hd l1.tail = 125) := by show ¬ _; rw [hcc2]; exact hcl
          clear HB hcomma hcc2 hcl g2
          go_enter Tryz.func246, Tryz.ntmps246
          go_wp2_with (first
            | (go_at_call 205; refine (unhide HL _ HS).mono ?_; clear HS HL; rintro x w2 ⟨rfl, HS⟩; have q2 := (unhide HS).rs.c2; have f2 := (unhide HS).rs.fz 2)
            | (go_at_call 278; refine (number_ok (St.up HS hj) HN).mono ?_; clear HS HN q2 f2; rintro x w3 ⟨i1, rfl, HS, hi1, HD1⟩)
            | (go_at_call 209; refine (is_yes HS 44 (by decide) (by decide) (by show hd (L.drop i1) = 44; rw [unhide HD1]; exact unhide HCM)).mono ?_; clear HS; rintro x w4 ⟨rfl, HS⟩)
            | (go_at_call 205; refine (look2 HS HD1 HC2).mono ?_; clear HS; rintro x w2 ⟨rfl, HS⟩)
            | (go_at_call 272; refine (want_no HS 125 (by decide) (by decide) (by show ¬ hd (L.drop (i1 + 1)) = 125; rw [← drop_tail, unhide HD1]; exact unhide HCL)).mono ?_; clear HS; rintro x w5 ⟨rfl, HS⟩))
          all_goals go_ret3
          all_goals exact rep_err (i' := i1 + 1) (y := (2, plc s.size l1.tail)) (unhide HR2) (by simp) (by omega) (by rw [← unhide HD1, drop_tail]; exact HS)
      · have hcl : ¬ c2 = 125 := by omega
        rw [if_neg hcl] at HB
        have HDG : Hid (isDig (hd l1.tail) = true) := by show _ = _; rw [hcc2]; exact g3
        cases hn2 : numberS s.size 0 l1.tail with
        | error y =>
          have hv : 12 < (numV l1.tail).1 ∧ y = (3, plc s.size (numV l1.tail).2) := by
            rw [numberS, if_pos (unhide HDG)] at hn2
            have h0 := numV_ge l1.tail (unhide HDG)
            split at hn2
            · rename_i hx
              exact ⟨by omega, by cases hn2; rfl⟩
            · cases hn2
          have HV2 := hide hv.1
          have HR2 : Hid (repeatS s.size (L.drop i) = .error y) := by
            show _ = _
            rw [unhide HB, numberS, if_pos (unhide HDG), if_pos (.inr hv.1), hv.2]; rfl
          have HN2 := hide hn2
          clear HB hcomma hcc2 hcl g3 hn2 hv
          go_enter Tryz.func246, Tryz.ntmps246
          go_wp2_with (first
            | (go_at_call 205; refine (unhide HL _ HS).mono ?_; clear HS HL; rintro x w2 ⟨rfl, HS⟩; have q2 := (unhide HS).rs.c2; have f2 := (unhide HS).rs.fz 2)
            | (go_at_call 278; refine (number_ok (St.up HS hj) HN).mono ?_; clear HS HN q2 f2; rintro x w3 ⟨i1, rfl, HS, hi1, HD1⟩)
            | (go_at_call 209; refine (is_yes HS 44 (by decide) (by decide) (by show hd (L.drop i1) = 44; rw [unhide HD1]; exact unhide HCM)).mono ?_; clear HS; rintro x w4 ⟨rfl, HS⟩)
            | (go_at_call 205; refine (look2 HS HD1 HC2).mono ?_; clear HS; rintro x w2 ⟨rfl, HS⟩)
            | (go_at_call 278; refine (number_err HS (by show numberS s.size 0 (L.drop (i1 + 1)) = _; rw [← drop_tail, unhide HD1]; exact unhide HN2)).mono ?_; clear HS; rintro x w6 ⟨i2, v2, rfl, HS, hi2, hy0, hvv⟩; have hbig : 12 < v2 := (by rw [unhide hvv (by rw [← drop_tail, unhide HD1]; exact unhide HDG), ← drop_tail, unhide HD1]; exact unhide HV2); clear hvv)
            | (go_at_call 272; refine (want_old HS 125 (by decide) (by decide) hy0).mono ?_; clear HS; rintro x w5 ⟨rfl, HS⟩))
          all_goals go_ret3
          all_goals exact rep_err (i' := i2) (unhide HR2) (unhide hy0) (by omega) HS
        | ok y =>
          obtain ⟨m, l2⟩ := y
          obtain ⟨k1, k2, -, hm12, hm0⟩ := numberS_ok hn2
          have HN2 := hide hn2
          by_cases hma : m < a
          · have HR2 : Hid (repeatS s.size (L.drop i) = .error (3, plc s.size l2)) := by
              show _ = _
              rw [unhide HB, numberS, if_pos k1, k2, if_pos (.inl hma)]; rfl
            have hy0 : Hid (¬ (3 : Int) = 0) := by show ¬ _; decide
            clear HB hcomma hcc2 hcl g3 hn2 k1 k2
            go_enter Tryz.func246, Tryz.ntmps246
            go_wp2_with (first
              | (go_at_call 205; refine (unhide HL _ HS).mono ?_; clear HS HL; rintro x w2 ⟨rfl, HS⟩; have q2 := (unhide HS).rs.c2; have f2 := (unhide HS).rs.fz 2)
              | (go_at_call 278; refine (number_ok (St.up HS hj) HN).mono ?_; clear HS HN q2 f2; rintro x w3 ⟨i1, rfl, HS, hi1, HD1⟩)
              | (go_at_call 209; refine (is_yes HS 44 (by decide) (by decide) (by show hd (L.drop i1) = 44; rw [unhide HD1]; exact unhide HCM)).mono ?_; clear HS; rintro x w4 ⟨rfl, HS⟩)
              | (go_at_call 205; refine (look2 HS HD1 HC2).mono ?_; clear HS; rintro x w2 ⟨rfl, HS⟩)
              | (go_at_call 278; refine (number_ok HS (by show numberS s.size 0 (L.drop (i1 + 1)) = _; rw [← drop_tail, unhide HD1]; exact unhide HN2)).mono ?_; clear HS; rintro x w6 ⟨i2, rfl, HS, hi2, HD2⟩)
              | (go_at_call 140; refine (wrong_new HS 3).mono ?_; clear HS; rintro x w7 ⟨rfl, HS⟩)
              | (go_at_call 272; refine (want_old HS 125 (by decide) (by decide) hy0).mono ?_; clear HS; rintro x w5 ⟨rfl, HS⟩))
            all_goals go_ret3
            all_goals exact rep_err (i' := i2) (y := (3, plc s.size l2)) (unhide HR2) (by simp) (by omega) (by rw [← unhide HD2]; exact HS)
          · have HR : Hid (repeatS s.size (L.drop i) = closeS s.size (pos1 m) l2) := by
              show _ = _
              rw [unhide HB, numberS, if_pos k1, k2, if_neg (by dsimp only; omega)]
            clear HB hcomma hcc2 hcl g3 hn2 k1 k2
            by_cases hcl : hd l2 = 125
            · have HCL := hide hcl
              by_cases hmz : m = 0
              · subst hmz
                have HR2 : Hid (repeatS s.size (L.drop i) = .ok (1, l2.tail)) := by show _ = _; rw [unhide HR, closeS, if_pos hcl]; rfl
                clear hcl HR hm12 hm0
                go_enter Tryz.func246, Tryz.ntmps246
                go_wp2_with (first
                  | (go_at_call 205; refine (unhide HL _ HS).mono ?_; clear HS HL; rintro x w2 ⟨rfl, HS⟩; have q2 := (unhide HS).rs.c2; have f2 := (unhide HS).rs.fz 2)
                  | (go_at_call 278; refine (number_ok (St.up HS hj) HN).mono ?_; clear HS HN q2 f2; rintro x w3 ⟨i1, rfl, HS, hi1, HD1⟩)
                  | (go_at_call 209; refine (is_yes HS 44 (by decide) (by decide) (by show hd (L.drop i1) = 44; rw [unhide HD1]; exact unhide HCM)).mono ?_; clear HS; rintro x w4 ⟨rfl, HS⟩)
                  | (go_at_call 205; refine (look2 HS HD1 HC2).mono ?_; clear HS; rintro x w2 ⟨rfl, HS⟩)
                  | (go_at_call 278; refine (number_ok HS (by show numberS s.size 0 (L.drop (i1 + 1)) = _; rw [← drop_tail, unhide HD1]; exact unhide HN2)).mono ?_; clear HS; rintro x w6 ⟨i2, rfl, HS, hi2, HD2⟩)
                  | (go_at_call 272; refine (want_yes HS 125 (by decide) (by decide) (by show hd (L.drop i2) = 125; rw [unhide HD2]; exact unhide HCL)).mono ?_; clear HS; rintro x w5 ⟨rfl, HS⟩))
                go_ret3
                exact rep_ok (by rw [unhide HR2, ← unhide HD2, drop_tail]) (by omega) HS
              · have hmz' : (m == 0) = false := by simpa using hmz
                have HR2 : Hid (repeatS s.size (L.drop i) = .ok (m, l2.tail)) := by show _ = _; rw [unhide HR, closeS, if_pos hcl, pos1, if_neg hmz]
                clear hcl HR hmz
                go_enter Tryz.func246, Tryz.ntmps246
                go_wp2_with (first
                  | (go_at_call 205; refine (unhide HL _ HS).mono ?_; clear HS HL; rintro x w2 ⟨rfl, HS⟩; have q2 := (unhide HS).rs.c2; have f2 := (unhide HS).rs.fz 2)
                  | (go_at_call 278; refine (number_ok (St.up HS hj) HN).mono ?_; clear HS HN q2 f2; rintro x w3 ⟨i1, rfl, HS, hi1, HD1⟩)
                  | (go_at_call 209; refine (is_yes HS 44 (by decide) (by decide) (by show hd (L.drop i1) = 44; rw [unhide HD1]; exact unhide HCM)).mono ?_; clear HS; rintro x w4 ⟨rfl, HS⟩)
                  | (go_at_call 205; refine (look2 HS HD1 HC2).mono ?_; clear HS; rintro x w2 ⟨rfl, HS⟩)
                  | (go_at_call 278; refine (number_ok HS (by show numberS s.size 0 (L.drop (i1 + 1)) = _; rw [← drop_tail, unhide HD1]; exact unhide HN2)).mono ?_; clear HS; rintro x w6 ⟨i2, rfl, HS, hi2, HD2⟩)
                  | (go_at_call 272; refine (want_yes HS 125 (by decide) (by decide) (by show hd (L.drop i2) = 125; rw [unhide HD2]; exact unhide HCL)).mono ?_; clear HS; rintro x w5 ⟨rfl, HS⟩))
                go_ret3
                exact rep_ok (by rw [unhide HR2, ← unhide HD2, drop_tail]) (by omega) HS
            · have HCL := hide hcl
              have HR2 : Hid (repeatS s.size (L.drop i) = .error (2, plc s.size l2)) := by show _ = _; rw [unhide HR, closeS, if_neg hcl]; rfl
              clear hcl HR
              go_enter Tryz.func246, Tryz.ntmps246
              go_wp2_with (first
                | (go_at_call 205; refine (unhide HL _ HS).mono ?_; clear HS HL; rintro x w2 ⟨rfl, HS⟩; have q2 := (unhide HS).rs.c2; have f2 := (unhide HS).rs.fz 2)
                | (go_at_call 278; refine (number_ok (St.up HS hj) HN).mono ?_; clear HS HN q2 f2; rintro x w3 ⟨i1, rfl, HS, hi1, HD1⟩)
                | (go_at_call 209; refine (is_yes HS 44 (by decide) (by decide) (by show hd (L.drop i1) = 44; rw [unhide HD1]; exact unhide HCM)).mono ?_; clear HS; rintro x w4 ⟨rfl, HS⟩)
                | (go_at_call 205; refine (look2 HS HD1 HC2).mono ?_; clear HS; rintro x w2 ⟨rfl, HS⟩)
                | (go_at_call 278; refine (number_ok HS (by show numberS s.size 0 (L.drop (i1 + 1)) = _; rw [← drop_tail, unhide HD1]; exact unhide HN2)).mono ?_; clear HS; rintro x w6 ⟨i2, rfl, HS, hi2, HD2⟩)
                | (go_at_call 272; refine (want_no HS 125 (by decide) (by decide) (by show ¬ hd (L.drop i2) = 125; rw [unhide HD2]; exact unhide HCL)).mono ?_; clear HS; rintro x w5 ⟨rfl, HS⟩))
              all_goals go_ret3
              all_goals exact rep_err (i' := i2) (y := (2, plc s.size l2)) (unhide HR2) (by simp) (by omega) (by rw [← unhide HD2]; exact HS)
    · have HR : Hid (repeatS s.size (L.drop i) = closeS s.size (pos1 a) l1) := by show _ = _; rw [unhide HB, if_neg hcomma]
      have HCM := hide hcomma
      clear HB hcomma
      by_cases hcl : hd l1 = 125
      · have HCL := hide hcl
        by_cases haz : a = 0
        · subst haz
          have HR2 : Hid (repeatS s.size (L.drop i) = .ok (1, l1.tail)) := by show _ = _; rw [unhide HR, closeS, if_pos hcl]; rfl
          clear hcl HR ha12 ha0
          go_enter Tryz.func246, Tryz.ntmps246
          go_wp2_with (first
            | (go_at_call 205; refine (unhide HL _ HS).mono ?_; clear HS HL; rintro x w2 ⟨rfl, HS⟩; have q2 := (unhide HS).rs.c2; have f2 := (unhide HS).rs.fz 2)
            | (go_at_call 278; refine (number_ok (St.up HS hj) HN).mono ?_; clear HS HN q2 f2; rintro x w3 ⟨i1, rfl, HS, hi1, HD1⟩)
            | (go_at_call 209; refine (is_no HS 44 (by decide) (by decide) (by show ¬ hd (L.drop i1) = 44; rw [unhide HD1]; exact unhide HCM)).mono ?_; clear HS; rintro x w4 ⟨rfl, HS⟩)
            | (go_at_call 272; refine (want_yes HS 125 (by decide) (by decide) (by show hd (L.drop i1) = 125; rw [unhide HD1]; exact unhide HCL)).mono ?_; clear HS; rintro x w5 ⟨rfl, HS⟩))
          go_ret3
          exact rep_ok (by rw [unhide HR2, ← unhide HD1, drop_tail]) (by omega) HS
        · have haz' : (a == 0) = false := by simpa using haz
          have HR2 : Hid (repeatS s.size (L.drop i) = .ok (a, l1.tail)) := by show _ = _; rw [unhide HR, closeS, if_pos hcl, pos1, if_neg haz]
          clear hcl HR haz
          go_enter Tryz.func246, Tryz.ntmps246
          go_wp2_with (first
            | (go_at_call 205; refine (unhide HL _ HS).mono ?_; clear HS HL; rintro x w2 ⟨rfl, HS⟩; have q2 := (unhide HS).rs.c2; have f2 := (unhide HS).rs.fz 2)
            | (go_at_call 278; refine (number_ok (St.up HS hj) HN).mono ?_; clear HS HN q2 f2; rintro x w3 ⟨i1, rfl, HS, hi1, HD1⟩)
            | (go_at_call 209; refine (is_no HS 44 (by decide) (by decide) (by show ¬ hd (L.drop i1) = 44; rw [unhide HD1]; exact unhide HCM)).mono ?_; clear HS; rintro x w4 ⟨rfl, HS⟩)
            | (go_at_call 272; refine (want_yes HS 125 (by decide) (by decide) (by show hd (L.drop i1) = 125; rw [unhide HD1]; exact unhide HCL)).mono ?_; clear HS; rintro x w5 ⟨rfl, HS⟩))
          go_ret3
          exact rep_ok (by rw [unhide HR2, ← unhide HD1, drop_tail]) (by omega) HS
      · have HCL := hide hcl
        have HR2 : Hid (repeatS s.size (L.drop i) = .error (2, plc s.size l1)) := by show _ = _; rw [unhide HR, closeS, if_neg hcl]; rfl
        clear hcl HR
        go_enter Tryz.func246, Tryz.ntmps246
        go_wp2_with (first
          | (go_at_call 205; refine (unhide HL _ HS).mono ?_; clear HS HL; rintro x w2 ⟨rfl, HS⟩; have q2 := (unhide HS).rs.c2; have f2 := (unhide HS).rs.fz 2)
          | (go_at_call 278; refine (number_ok (St.up HS hj) HN).mono ?_; clear HS HN q2 f2; rintro x w3 ⟨i1, rfl, HS, hi1, HD1⟩)
          | (go_at_call 209; refine (is_no HS 44 (by decide) (by decide) (by show ¬ hd (L.drop i1) = 44; rw [unhide HD1]; exact unhide HCM)).mono ?_; clear HS; rintro x w4 ⟨rfl, HS⟩)
          | (go_at_call 272; refine (want_no HS 125 (by decide) (by decide) (by show ¬ hd (L.drop i1) = 125; rw [unhide HD1]; exact unhide HCL)).mono ?_; clear HS; rintro x w5 ⟨rfl, HS⟩))
        all_goals go_ret3
        all_goals exact rep_err (i' := i1) (y := (2, plc s.size l1)) (unhide HR2) (by simp) (by omega) (by rw [← unhide HD1]; exact HS)
end
end Go.Proofs.YtfolanohokflkaaGreatDoor
