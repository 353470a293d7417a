import Derived.Test.YtfolanohokflkaaGreatDoorRefP
import Derived.WalkKit
import Derived.WalkSpells
import Derived.WalkLawsBesides
import Derived.Deep.QuietTactic
import Derived.BigQuiet
import Derived.Deep.RegionHeld3
namespace Go.Proofs.YtfolanohokflkaaGreatDoor
open Go.RowKit

section
variable {w0 w : World} {v0 : Value} {b : Nat} {s : ByteArray} {L : List Sy} {vs vn : Value} {i : Nat} {d : Int} {szs : List Int} {e p : Int}

theorem St.here (h : Hid (St w0 v0 w b s L vs vn i d szs e p)) : Hid (St w vn w b s L vs vn i d szs e p) := ⟨(unhide h).rs, Fr.refl _ _ _, (unhide h).le⟩
theorem St.comp {w' : World} {vn' : Value} {i' : Nat} {d' : Int} {szs' : List Int} {e' p' : Int} (h : Hid (St w0 v0 w b s L vs vn i d szs e p)) (k : Hid (St w vn w' b s L vs vn' i' d' szs' e' p')) : Hid (St w0 v0 w' b s L vs vn' i' d' szs' e' p') :=
  ⟨(unhide k).rs, (unhide h).fr.trans (unhide k).fr, (unhide k).le⟩

theorem limit_set (h : Hid (St w0 v0 w b s L vs vn i d szs 0 0)) (hs : Hid (isSet (L.drop i) = true)) :
    Calls Tryz.prog 299 #[.pointer (some ⟨b, 0, none⟩), .bool false] w fun x w' => ∃ ao n cp l, x = .returned (.tuple #[.slice ao n cp, .bool false]) ∧ Hid (Free w' b vn (.slice ao n cp) l) ∧ l.length ≤ 4 ∧ Hid (St w0 v0 w' b s L vs vn (i + 2) d szs 0 0) := by
  refine (limit_st false h).mono ?_
  rw [unhide hs]
  rintro x w' ⟨ao, n, cp, l, HF, hl, ⟨_, rfl, HS⟩ | ⟨h, _⟩⟩
  · exact ⟨ao, n, cp, l, rfl, HF, hl, HS⟩
  · cases h
theorem limit_err (sec : Bool) (h : Hid (St w0 v0 w b s L vs vn i d szs 0 0)) (hs : Hid (sec = true ∨ isSet (L.drop i) = false)) {y : Int × Int} (hr : Hid (limitS s.size (L.drop i) = .error y)) :
    Calls Tryz.prog 299 #[.pointer (some ⟨b, 0, none⟩), .bool sec] w fun x w' => ∃ ao n cp i', x = .returned (.tuple #[.slice ao n cp, .bool true]) ∧ Hid (St w0 v0 w' b s L vs vn i' d szs y.1 y.2) ∧ i ≤ i' ∧ Hid (¬ y.1 = 0) := by
  refine (limit_st sec h).mono ?_
  have hf : (!sec && isSet (L.drop i)) = false := by rcases unhide hs with h | h <;> simp [h]
  rw [hf, unhide hr]
  rintro x w' ⟨ao, n, cp, l, HF, hl, ⟨h, _⟩ | ⟨_, rfl, i', e', p', HS, hi, ⟨rfl, rfl, hne⟩, _⟩⟩
  · cases h
  · exact ⟨ao, n, cp, i', rfl, HS, hi, hne⟩
theorem limit_ok (sec : Bool) (h : Hid (St w0 v0 w b s L vs vn i d szs 0 0)) (hs : Hid (sec = true ∨ isSet (L.drop i) = false)) {a : Int} {l1 : List Sy} (hr : Hid (limitS s.size (L.drop i) = .ok (a, l1))) :
    Calls Tryz.prog 299 #[.pointer (some ⟨b, 0, none⟩), .bool sec] w fun x w' => ∃ g cp i', x = .returned (.tuple #[.slice (some ⟨g, 0, none⟩) 1 cp, .bool true]) ∧ Hid (Free w' b vn (.slice (some ⟨g, 0, none⟩) 1 cp) [(a, a)]) ∧ w'.cell? ⟨g, 0, none⟩ = some (.int .i64 a) ∧ Hid (St w0 v0 w' b s L vs vn i' d szs 0 0) ∧ i + 1 ≤ i' ∧ Hid (L.drop i' = l1) := by
  refine (limit_st sec h).mono ?_
  have hf : (!sec && isSet (L.drop i)) = false := by rcases unhide hs with h | h <;> simp [h]
  rw [hf, unhide hr]
  rintro x w' ⟨ao, n, cp, l, HF, hl, ⟨h, _⟩ | ⟨_, rfl, i', e', p', HS, hi, ⟨rfl, rfl, hd⟩, hy⟩⟩
  · cases h
  · obtain ⟨rfl, hi1⟩ := hy _ rfl
    obtain ⟨ao', cp', hv, hx⟩ := own_view (unhide HF).at_
    cases hv
    obtain ⟨g, rfl, -, hg, hc, -⟩ := hx (by simp)
    have hc0 := hc 0 (by simp)
    exact ⟨g, cp, i', rfl, HF, hc0, HS, hi1, hd⟩

theorem union_st (h : Hid (St w0 v0 w b s L vs vn i d szs e p)) {va vb : Value} {la lb : List (Int × Int)} (ha : Hid (Free w b vn va la)) (hb : Hid (Free w b vn vb lb)) (na : la.length ≤ 1000) (nb : lb.length ≤ 1000) :
    Calls Tryz.prog 215 #[va, vb] w fun x w' => ∃ v l, x = .returned v ∧ Hid (Free w' b vn v l) ∧ l.length ≤ la.length + lb.length + 1 ∧ Hid (St w0 v0 w' b s L vs vn i d szs e p) := by
  refine (refUnion_any la lb va vb w na nb (unhide ha).at_ (unhide hb).at_).mono ?_
  rintro x w' ⟨v, ys, rfl, o, hl, hbel, hf⟩
  exact ⟨v, ys, rfl, Free.fresh h o hf, hl, St.below h hbel⟩
theorem others_st (h : Hid (St w0 v0 w b s L vs vn i d szs e p)) {va : Value} {la : List (Int × Int)} (ha : Hid (Free w b vn va la)) (na : la.length ≤ 1000) :
    Calls Tryz.prog 300 #[va] w fun x w' => ∃ ao n cp, x = .returned (.slice ao n cp) ∧ Hid (St w0 v0 w' b s L vs vn i d szs e p) := by
  refine (refOthers_any la va w na (unhide ha).at_).mono ?_
  rintro x w' ⟨v, ys, rfl, o, hl, hbel, hf⟩
  obtain ⟨ao, cp, rfl, -⟩ := own_view o
  exact ⟨ao, _, cp, rfl, St.below h hbel⟩
theorem every_st (h : Hid (St w0 v0 w b s L vs vn i d szs e p)) :
    Calls Tryz.prog 276 #[] w fun x w' => ∃ ao n cp, x = .returned (.slice ao n cp) ∧ Hid (St w0 v0 w' b s L vs vn i d szs e p) := by
  refine (refEvery_any w).mono ?_
  rintro x w' ⟨v, ys, rfl, o, hl, hbel, hf⟩
  obtain ⟨ao, cp, rfl, -⟩ := own_view o
  exact ⟨ao, _, cp, rfl, St.below h hbel⟩

theorem free_cell {g cp : Nat} {a : Int} (h : Hid (Free w b vn (.slice (some ⟨g, 0, none⟩) 1 cp) [(a, a)])) : w.cell? ⟨g, 0, none⟩ = some (.int .i64 a) := by
  obtain ⟨ao', cp', hv, hx⟩ := own_view (unhide h).at_
  cases hv
  obtain ⟨g', hg', -, hg, hc, -⟩ := hx (by simp)
  cases hg'
  exact hc 0 (by simp)

theorem below_drewN_alloc (w : World) (n : Nat) (o : Obj) : Below w.heap.size w ((w.drewN n).alloc o) := by
  have h : Below w.heap.size w (w.drewN n) := ⟨rfl, rfl, rfl, Nat.le_refl _, fun _ _ => rfl⟩
  exact h.alloc (Nat.le_refl _) o
/-- what class answers. -/
def ClsPost (w0 : World) (v0 : Value) (b : Nat) (s : ByteArray) (L : List Sy) (vs vn : Value) (i : Nat) (d : Int) (szs : List Int) (R : Res Unit) (x : Ending) (w' : World) : Prop :=
  ∃ ao n cp i' e' p', x = .returned (.slice ao n cp) ∧ Hid (St w0 v0 w' b s L vs vn i' d szs e' p') ∧ i ≤ i' ∧ Ends R L i' e' p'
def ClsRel (w0 : World) (v0 : Value) (wr : World) (b : Nat) (s : ByteArray) (L : List Sy) (vs vn : Value) (i : Nat) (d : Int) (szs : List Int) (R : Res Unit) (v : Value) (j : Nat) : Prop :=
  ∃ f l, classLoopS s.size f (L.drop j) = R ∧ (L.drop j).length < f ∧ i ≤ j ∧ Hid (St w0 v0 wr b s L vs vn j d szs 0 0) ∧ Hid (Free wr b vn v l) ∧ l.length ≤ 5 * (j - i)
theorem cls_next {wr w' : World} {R : Res Unit} {f j j' : Nat} {v' : Value} {l l2 l' : List (Int × Int)} (hf : classLoopS s.size (f + 1) (L.drop j) = R) (h93 : ¬ hd (L.drop j) = 93) (hp : partS s.size (L.drop j) = .ok ((), L.drop j'))
    (hlt : (L.drop j).length < f + 1) (hij : i ≤ j) (hjj : j < j') (hj' : j' ≤ L.length) (h0 : Hid (St w0 v0 wr b s L vs vn j d szs 0 0)) (HS : Hid (St wr vn w' b s L vs vn j' d szs 0 0)) (HF : Hid (Free w' b vn v' l')) (hl : l.length ≤ 5 * (j - i)) (h2 : l2.length ≤ 4) (hl' : l'.length ≤ l.length + l2.length + 1) :
    Hid (ClsRel w0 v0 w' b s L vs vn i d szs R v' j') := by
  refine ⟨f, l', ?_, ?_, by omega, St.comp h0 HS, HF, by omega⟩
  · rw [classLoopS, if_neg h93, hp] at hf; exact hf
  · simp only [List.length_drop] at hlt ⊢; omega

theorem part_eq (L : List Sy) (n j : Nat) : partS n (L.drop j) = if isSet (L.drop j) = true then .ok ((), L.drop (j + 2)) else match limitS n (L.drop j) with
    | .error x => .error x
    | .ok (a, l1) => if hd l1 = 45 then (match limitS n l1.tail with
        | .error x => .error x
        | .ok (b, l2) => if b < a then bad 3 n l2 else .ok ((), l2)) else .ok ((), l1) := by
  rw [partS, drop_tail, drop_tail]; rfl

def cellN (w : World) (b : Nat) : Nat := match w.cell? ⟨b, 2, none⟩ with
  | some (.int _ n) => n.toNat
  | _ => 0
theorem cellN_eq {w : World} {b j : Nat} (h : w.cell? ⟨b, 2, none⟩ = some (.int .i64 j)) : cellN w b = j := by rw [cellN, h]; rfl
theorem cls_less {wr w' : World} {j j' : Nat} (h0 : Hid (St w0 v0 wr b s L vs vn j d szs 0 0)) (h1 : Hid (St wr vn w' b s L vs vn j' d szs 0 0)) (hjj : j < j') : L.length - cellN w' b < L.length - cellN wr b := by
  rw [cellN_eq (unhide h0).rs.c2, cellN_eq (unhide h1).rs.c2]
  have := (unhide h1).le
  omega

set_option maxRecDepth 100000 in
set_option maxHeartbeats 8000000 in
theorem class_st (h : Hid (St w0 v0 w b s L vs vn i d szs 0 0)) :
    Calls Tryz.prog 273 #[.pointer (some ⟨b, 0, none⟩)] w (ClsPost w0 v0 b s L vs vn i d szs (classS s.size (L.drop i))) := by
  have hlen := (unhide h).rs.len
  obtain ⟨R, hR⟩ : ∃ R, classS s.size (L.drop i) = R := ⟨_, rfl⟩
  have HI : ∃ (tb : Bool) (j0 : Nat), i ≤ j0 ∧ Hid (classLoopS s.size ((L.drop i).length + 1) (L.drop j0) = R) ∧ Hid (Calls Tryz.prog 209 #[.pointer (some ⟨b, 0, none⟩), .int .u8 94] w fun x w' => x = .returned (.bool tb) ∧ Hid (St w0 v0 w' b s L vs vn j0 d szs 0 0)) := by
    by_cases h94 : hd (L.drop i) = 94
    · exact ⟨true, i + 1, by omega, by show _ = _; rw [← hR, classS, if_pos h94, drop_tail], is_yes h 94 (by decide) (by decide) h94⟩
    · exact ⟨false, i, by omega, by show _ = _; rw [← hR, classS, if_neg h94], is_no h 94 (by decide) (by decide) h94⟩
  obtain ⟨tb, j0, hij0, HR0, HIs⟩ := HI
  rw [hR]
  clear hR h
  go_enter Tryz.func273, Tryz.ntmps273
  go_wp2_with (go_at_call 209; refine (unhide HIs).mono ?_; clear HIs; rintro x w1 ⟨rfl, HS⟩)
  have HC : Hid (ClsRel w0 v0 w1 b s L vs vn i d szs R (.slice none 0 0) j0) := ⟨_, [], unhide HR0, by simp only [List.length_drop]; omega, hij0, HS, Free.nil _ _ _, by simp⟩
  clear HR0 HS
  go_loopw [4] (fun v wr => ∃ j : Nat, j ≤ L.length ∧ Hid (ClsRel w0 v0 wr b s L vs vn i d szs R v j)) (fun _ wr => L.length - cellN wr b)
  case atStart => exact ⟨j0, (unhide (unhide HC).choose_spec.choose_spec.2.2.2.1).le, HC⟩
  case round =>
    clear HC
    obtain ⟨j, hj, HC⟩ := hrel
    obtain ⟨f, l, hf, hfl, hij, HS0, HFA, hll⟩ := unhide HC
    have qA := (unhide HS0).rs.c2
    obtain ⟨f, rfl⟩ : ∃ f', f = f' + 1 := ⟨f - 1, by omega⟩
    have q5 := (unhide HS0).rs.c5
    have HS := St.here HS0
    by_cases h93 : hd (L.drop j) = 93
    · have HX : Hid (R = .ok ((), L.drop (j + 1))) := by show _ = _; rw [← hf, classLoopS, if_pos h93, drop_tail]
      have HL := look_at (w0 := wr) (v0 := vn) (b := b) (s := s) (L := L) (vs := vs) (vn := vn) (d := d) (szs := szs) h93
      have HW : Hid (∀ w1, Hid (St wr vn w1 b s L vs vn j d szs 0 0) → Calls Tryz.prog 272 #[.pointer (some ⟨b, 0, none⟩), .int .u8 93] w1 fun x w' => x = .returned (.tuple #[]) ∧ Hid (St wr vn w' b s L vs vn (j + 1) d szs 0 0)) := fun w1 hs => want_yes hs 93 (by decide) (by decide) h93
      clear hf h93 HC
      cases tb
      · obtain ⟨ao, cp, rfl, -⟩ := own_view (unhide HFA).at_
        go_wp2_with (first
          | (go_at_call 205; refine (unhide HL _ HS).mono ?_; clear HS; rintro x w2 ⟨rfl, HS⟩)
          | (go_at_call 272; refine (unhide HW _ HS).mono ?_; clear HS; rintro x w3 ⟨rfl, HS⟩))
        go_ret
        exact ⟨_, _, _, j + 1, 0, 0, rfl, St.comp HS0 HS, by omega, by rw [unhide HX]; exact ends_ok _ _ _⟩
      · go_wp2_with (first
          | (go_at_call 205; refine (unhide HL _ HS).mono ?_; clear HS; rintro x w2 ⟨rfl, HS⟩)
          | (go_at_call 272; refine (unhide HW _ HS).mono ?_; clear HS; rintro x w3 ⟨rfl, HS⟩)
          | (go_at_call 300; refine (others_st HS (Free.fr HFA (unhide HS).fr) (by omega)).mono ?_; clear HS; rintro x w4 ⟨ao, n, cp, rfl, HS⟩))
        go_ret
        exact ⟨_, _, _, j + 1, 0, 0, rfl, St.comp HS0 HS, by omega, by rw [unhide HX]; exact ends_ok _ _ _⟩
    · have H93 := hide h93
      have hne : ((hd (L.drop j)) != 93) = true := by simpa using h93
      obtain ⟨c, hcc⟩ : ∃ c, hd (L.drop j) = c := ⟨_, rfl⟩
      have HL := look_at (w0 := wr) (v0 := vn) (b := b) (s := s) (L := L) (vs := vs) (vn := vn) (d := d) (szs := szs) hcc
      rw [hcc] at hne
      have HFE := hide hf
      have HPE := hide (part_eq L s.size j)
      have HRE : Hid (∀ y, partS s.size (L.drop j) = .error y → R = .error y) := by
        intro y hy
        rw [← hf, classLoopS, if_neg h93, hy]
      clear hf h93 hcc HC
      cases hst : isSet (L.drop j)
      · have HNS : Hid (false = true ∨ isSet (L.drop j) = false) := .inr hst
        cases hlr : limitS s.size (L.drop j) with
        | error y =>
          have HP := unhide HRE y (by rw [unhide HPE, hst, hlr]; rfl)
          have HPP := hide HP
          have HLR := hide hlr
          clear HP hst hlr HRE HPE HFE H93
          go_wp2_with (first
            | (go_at_call 205; refine (unhide HL _ HS).mono ?_; clear HS; rintro x w2 ⟨rfl, HS⟩)
            | (go_at_call 299; refine (limit_err false HS HNS HLR).mono ?_; clear HS q5; rintro x w3 ⟨ao, n, cp, i', rfl, HS, hi', hy0⟩; have q5 := (unhide HS).rs.c5; have hy1 : (y.1 != 0) = true := (by simpa using unhide hy0)))
          go_ret
          exact ⟨none, 0, 0, i', _, _, rfl, St.comp HS0 HS, by omega, by rw [unhide HPP]; exact ⟨rfl, rfl, unhide hy0⟩⟩
        | ok y =>
          obtain ⟨a, l1⟩ := y
          have HLR := hide hlr
          by_cases hdash : hd l1 = 45
          · have HDA := hide hdash
            cases hlr2 : limitS s.size l1.tail with
            | error y2 =>
              have HP := unhide HRE y2 (by rw [unhide HPE, hst, hlr]; dsimp only; rw [if_neg (by decide), if_pos hdash, hlr2])
              have HPP := hide HP
              have HL2 := hide hlr2
              clear HP hst hlr HRE HPE HFE H93 hdash hlr2
              go_wp2_with (first
                | (go_at_call 205; refine (unhide HL _ HS).mono ?_; clear HS; rintro x w2 ⟨rfl, HS⟩)
                | (go_at_call 299; refine (limit_ok false HS HNS HLR).mono ?_; clear HS q5 HNS HLR; rintro x w3 ⟨g, cp, i1, rfl, HFL, hcl, HSa, hi1, HD1⟩; have q5 := (unhide HSa).rs.c5; have HFA3 := Free.fr HFA (unhide HSa).fr; have HS := St.here HSa)
                | (go_at_call 209; refine (is_yes HS 45 (by decide) (by decide) (by show lookV 0 (L.drop i1) = 45; rw [unhide HD1]; exact unhide HDA)).mono ?_; clear HS q5; rintro x w4 ⟨rfl, HS⟩)
                | (go_at_call 299; refine (limit_err true HS (.inl rfl) (by show limitS s.size (L.drop (i1 + 1)) = _; rw [← drop_tail, unhide HD1]; exact unhide HL2)).mono ?_; clear HS; rintro x w5 ⟨ao2, n2, cp2, i2, rfl, HS, hi2, hy0⟩; have q5 := (unhide HS).rs.c5; have hy1 : (y2.1 != 0) = true := (by simpa using unhide hy0)))
              go_ret
              exact ⟨none, 0, 0, i2, _, _, rfl, St.comp HS0 (St.comp HSa HS), by omega, by rw [unhide HPP]; exact ⟨rfl, rfl, unhide hy0⟩⟩
            | ok y2 =>
              obtain ⟨a2, l2⟩ := y2
              have HL2 := hide hlr2
              by_cases hrng : a2 < a
              · have HP := unhide HRE (3, plc s.size l2) (by rw [unhide HPE, hst, hlr]; dsimp only; rw [if_neg (by decide), if_pos hdash, hlr2]; dsimp only; rw [if_pos hrng]; rfl)
                have HPP := hide HP
                clear HP hst hlr HRE HPE HFE H93 hdash hlr2
                go_wp2_with (first
                  | (go_at_call 205; refine (unhide HL _ HS).mono ?_; clear HS; rintro x w2 ⟨rfl, HS⟩)
                  | (go_at_call 299; refine (limit_ok false HS HNS HLR).mono ?_; clear HS q5 HNS HLR; rintro x w3 ⟨g, cp, i1, rfl, HFL, hcl, HSa, hi1, HD1⟩; have q5 := (unhide HSa).rs.c5; have HFA3 := Free.fr HFA (unhide HSa).fr; have HS := St.here HSa)
                  | (go_at_call 209; refine (is_yes HS 45 (by decide) (by decide) (by show lookV 0 (L.drop i1) = 45; rw [unhide HD1]; exact unhide HDA)).mono ?_; clear HS q5; rintro x w4 ⟨rfl, HS⟩)
                  | (go_at_call 299; refine (limit_ok true HS (.inl rfl) (by show limitS s.size (L.drop (i1 + 1)) = _; rw [← drop_tail, unhide HD1]; exact unhide HL2)).mono ?_; clear HS; rintro x w5 ⟨g2, cp2, i2, rfl, HFH, hch, HS, hi2, HD2⟩; have q5 := (unhide HS).rs.c5; have HFL5 := Free.fr HFL (unhide HS).fr; have HFA5 := Free.fr HFA3 (unhide HS).fr; have hcl5 := free_cell HFL5; clear hcl))
                go_quiet (fail)
                have HS6 : Hid (St w3 vn (w5.drewN nq) b s L vs vn i2 d szs 0 0) := St.below HS ⟨rfl, rfl, rfl, Nat.le_refl _, fun _ _ => rfl⟩
                go_wp2_with (go_at_call 140; refine (wrong_new HS6 3).mono ?_; rintro x w6 ⟨rfl, HS7⟩)
                go_ret
                exact ⟨none, 0, 0, i2, _, _, rfl, St.comp HS0 (St.comp HSa HS7), by omega, by rw [unhide HPP, unhide HD2]; exact ⟨rfl, rfl, by simp⟩⟩
              · have HPL : Hid (partS s.size (L.drop j) = .ok ((), l2)) := by show _ = _; rw [unhide HPE, hst, hlr]; dsimp only; rw [if_neg (by decide), if_pos hdash, hlr2]; dsimp only; rw [if_neg hrng]
                clear hst hlr HRE HPE hdash hlr2
                go_wp2_with (first
                  | (go_at_call 205; refine (unhide HL _ HS).mono ?_; clear HS; rintro x w2 ⟨rfl, HS⟩)
                  | (go_at_call 299; refine (limit_ok false HS HNS HLR).mono ?_; clear HS q5 HNS HLR; rintro x w3 ⟨g, cp, i1, rfl, HFL, hcl, HSa, hi1, HD1⟩; have q5 := (unhide HSa).rs.c5; have HFA3 := Free.fr HFA (unhide HSa).fr; have HS := St.here HSa)
                  | (go_at_call 209; refine (is_yes HS 45 (by decide) (by decide) (by show lookV 0 (L.drop i1) = 45; rw [unhide HD1]; exact unhide HDA)).mono ?_; clear HS q5; rintro x w4 ⟨rfl, HS⟩)
                  | (go_at_call 299; refine (limit_ok true HS (.inl rfl) (by show limitS s.size (L.drop (i1 + 1)) = _; rw [← drop_tail, unhide HD1]; exact unhide HL2)).mono ?_; clear HS; rintro x w5 ⟨g2, cp2, i2, rfl, HFH, hch, HS, hi2, HD2⟩; have q5 := (unhide HS).rs.c5; have HFL5 := Free.fr HFL (unhide HS).fr; have HFA5 := Free.fr HFA3 (unhide HS).fr; have hcl5 := free_cell HFL5; clear hcl))
                go_quiet (fail)
                have HS6 : Hid (St w3 vn (w5.drewN nq) b s L vs vn i2 d szs 0 0) := St.below HS ⟨rfl, rfl, rfl, Nat.le_refl _, fun _ _ => rfl⟩
                go_wp2_with fail
                go_region_held3 (fun w' => w'.cell? ⟨g, 0, none⟩ = some (.int .i64 a) ∧ w'.cell? ⟨g2, 0, none⟩ = some (.int .i64 a2)) (go_keep) (fail)
                go_wp2_with fail
                have hbw : Below w5.heap.size w5 ((w5.drewN (nq + 1)).alloc (.cells #[.int .i64 a, .int .i64 a2] 215)) := below_drewN_alloc _ _ _
                have HS8 := St.below HS hbw
                have HFN : Hid (Free ((w5.drewN (nq + 1)).alloc (.cells #[.int .i64 a, .int .i64 a2] 215)) b vn (.slice (some ⟨w5.heap.size, 0, none⟩) 1 1) [(a, a2)]) :=
                  Free.fresh HS (spans_lit (w5.drewN (nq + 1)) [(a, a2)] _ rfl (by simp)) (fun k hk => by simp [Value.ownBlock] at hk; omega)
                have HFB := Free.fr HFA5 (Fr.of_below (b := b) (vn := vn) hbw)
                have hl4 : [(a, a2)].length ≤ 4 := by simp
                refine (union_st HS8 HFB HFN (by omega) (by simp)).mono ?_
                rintro x w9 ⟨v5, l5, rfl, HF5, hl5, HS5'⟩
                have HS5 := St.comp HSa HS5'
                go_wp2_with fail
                go_roundw
                case rel => exact ⟨_, (unhide HS5).le, cls_next (unhide HFE) (unhide H93) (by rw [unhide HPL, unhide HD2]) (by omega) hij (by omega) (unhide HS5).le HS0 HS5 HF5 hll hl4 hl5⟩
                case measure => exact cls_less HS0 HS5 (by omega)
          · have HDA := hide hdash
            have HPL : Hid (partS s.size (L.drop j) = .ok ((), l1)) := by show _ = _; rw [unhide HPE, hst, hlr]; dsimp only; rw [if_neg (by decide), if_neg hdash]
            have hl4 : [(a, a)].length ≤ 4 := by simp
            clear hst hlr HRE HPE hdash
            go_wp2_with (first
              | (go_at_call 205; refine (unhide HL _ HS).mono ?_; clear HS; rintro x w2 ⟨rfl, HS⟩)
              | (go_at_call 299; refine (limit_ok false HS HNS HLR).mono ?_; clear HS q5 HNS HLR; rintro x w3 ⟨g, cp, i1, rfl, HFL, hcl, HSa, hi1, HD1⟩; have q5 := (unhide HSa).rs.c5; have HFA3 := Free.fr HFA (unhide HSa).fr; have HS := St.here HSa)
              | (go_at_call 209; refine (is_no HS 45 (by decide) (by decide) (by show ¬ lookV 0 (L.drop i1) = 45; rw [unhide HD1]; exact unhide HDA)).mono ?_; clear HS q5; rintro x w4 ⟨rfl, HS⟩)
              | (go_at_call 215; refine (union_st HS (Free.fr HFA3 (unhide HS).fr) (Free.fr HFL (unhide HS).fr) (by omega) (by simp)).mono ?_; rintro x w5 ⟨v5, l5, rfl, HF5, hl5, HS5'⟩; have HS5 := St.comp HSa HS5'))
            go_roundw
            case rel => exact ⟨_, (unhide HS5).le, cls_next (unhide HFE) (unhide H93) (by rw [unhide HPL, unhide HD1]) (by omega) hij (by omega) (unhide HS5).le HS0 HS5 HF5 hll hl4 hl5⟩
            case measure => exact cls_less HS0 HS5 (by omega)
      · have HP : Hid (partS s.size (L.drop j) = .ok ((), L.drop (j + 2))) := by show _ = _; rw [unhide HPE, hst]; rfl
        have HST := hide hst
        clear hst HPE HRE
        go_wp2_with (first
          | (go_at_call 205; refine (unhide HL _ HS).mono ?_; clear HS; rintro x w2 ⟨rfl, HS⟩)
          | (go_at_call 299; refine (limit_set HS HST).mono ?_; clear HS q5; rintro x w3 ⟨ao, n, cp, l2, rfl, HFL, hl4, HS⟩; have q5 := (unhide HS).rs.c5)
          | (go_at_call 215; refine (union_st HS (Free.fr HFA (unhide HS).fr) HFL (by omega) (by omega)).mono ?_; rintro x w5 ⟨v5, l5, rfl, HF5, hl5, HS5⟩))
        go_roundw
        case rel => exact ⟨_, (unhide HS5).le, cls_next (unhide HFE) (unhide H93) (unhide HP) (by omega) hij (by omega) (unhide HS5).le HS0 HS5 HF5 hll hl4 hl5⟩
        case measure => exact cls_less HS0 HS5 (by omega)
end
end Go.Proofs.YtfolanohokflkaaGreatDoor
