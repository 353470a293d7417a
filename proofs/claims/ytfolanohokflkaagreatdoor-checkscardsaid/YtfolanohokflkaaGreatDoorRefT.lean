import Derived.Test.YtfolanohokflkaaGreatDoorRefR
import Derived.WalkKit
import Derived.WalkSpells
import Derived.WalkLawsBesides
import Derived.Deep.QuietTactic
import Derived.BigQuiet
namespace Go.Proofs.YtfolanohokflkaaGreatDoor
open Go.RowKit

def SzOk (szs : List Int) : Prop := ∀ z ∈ szs, 0 ≤ z ∧ z ≤ 61
theorem SzOk.at {szs : List Int} (h : SzOk szs) (n : Nat) : 0 ≤ szs.getD n 0 ∧ szs.getD n 0 ≤ 61 := by
  by_cases hn : n < szs.length
  · have : szs.getD n 0 = szs[n] := by simp [List.getD, hn]
    rw [this]; exact h _ (List.getElem_mem hn)
  · have : szs.getD n 0 = 0 := by simp [List.getD, List.getElem?_eq_none (Nat.le_of_not_lt hn)]
    rw [this]; omega
theorem SzOk.snoc {szs : List Int} (h : SzOk szs) {z : Int} (h0 : 0 ≤ z) (h1 : z ≤ 61) : SzOk (szs ++ [z]) := by
  intro y hy
  rcases List.mem_append.1 hy with h' | h'
  · exact h y h'
  · simp at h'; subst h'; exact ⟨h0, h1⟩
theorem cap61_le (n : Int) : cap61 n ≤ 61 := by unfold cap61; split <;> omega
theorem cap61_ge {n : Int} (h : 0 ≤ n) : 0 ≤ cap61 n := by unfold cap61; split <;> omega
def gfold (szs : List Int) : Int → List Nat → Int
  | z, [] => z
  | z, n :: r => gfold szs (cap61 (z + szs.getD n 0)) r
def gsize (szs : List Int) (ns : List Nat) : Int := gfold szs (if ns = [] then 1 else (ns.length : Int) - 1) ns
def nats (ns : List Nat) : List Int := ns.map (fun n : Nat => (n : Int))
theorem nats_getD (ns : List Nat) (k : Nat) : (nats ns).getD k 0 = ((ns.getD k 0 : Nat) : Int) := by
  simp only [nats, List.getD, List.getElem?_map]
  cases ns[k]? <;> rfl
theorem gfold_bounds (szs : List Int) (hs : SzOk szs) : ∀ (ns : List Nat) (z : Int), 0 ≤ z → z ≤ 1000 → ns ≠ [] ∨ z ≤ 61 → 0 ≤ gfold szs z ns ∧ gfold szs z ns ≤ 61
  | [], z, h0, _, h => by
    have : z ≤ 61 := by rcases h with h | h; exact absurd rfl h; exact h
    exact ⟨h0, this⟩
  | n :: r, z, h0, h1, _ => by
    have := hs.at n
    exact gfold_bounds szs hs r _ (cap61_ge (by omega)) (by have := cap61_le (z + szs.getD n 0); omega) (.inr (cap61_le _))

section
variable {w0 w : World} {v0 : Value} {b : Nat} {s : ByteArray} {L : List Sy} {vs vn : Value} {i : Nat} {d : Int} {szs : List Int} {e p : Int}

set_option maxRecDepth 100000 in
set_option maxHeartbeats 2000000 in
theorem group_one (h : Hid (St w0 v0 w b s L vs vn i d szs e p)) (kd : Int) (vo : Value) (m : Nat) (ho : w.ownsRow 0 3 1 vo 1 (ints (nats [m]))) :
    Calls Tryz.prog 208 #[.pointer (some ⟨b, 0, none⟩), .int .i64 kd, vo] w fun x w' => x = .returned (.int .i64 m) ∧ Hid (St w0 v0 w' b s L vs vn i d szs e p) := by
  obtain ⟨ao, cp, rfl, hv⟩ := own_view ho
  obtain ⟨g, rfl, -, hg, hc, -⟩ := hv (by decide)
  have hc0 := hc 0 (by decide)
  have hc1 : w.cell? ⟨g, 0, none⟩ = some (.int .i64 m) := hc0
  clear hv hc hc0 ho
  go_enter Tryz.func208, Tryz.ntmps208
  go_wp2_with fail
  go_ret
  exact ⟨rfl, h⟩

set_option maxRecDepth 100000 in
set_option maxHeartbeats 4000000 in
theorem group_many (h : Hid (St w0 v0 w b s L vs vn i d szs e p)) (kd : Int) (vo : Value) (ns : List Nat) (ho : w.ownsRow 0 3 1 vo ns.length (ints (nats ns))) (h1 : ¬ ns.length = 1) (hall : ∀ n ∈ ns, n < szs.length) (hok : SzOk szs) (hsz : szs.length ≤ 10000) (hnl : ns.length ≤ 1000) :
    Calls Tryz.prog 208 #[.pointer (some ⟨b, 0, none⟩), .int .i64 kd, vo] w fun x w' => x = .returned (.int .i64 szs.length) ∧ ∃ vn', Hid (St w0 v0 w' b s L vs vn' i d (szs ++ [gsize szs ns]) e p) := by
  obtain ⟨ao, cp, rfl, hv⟩ := own_view ho
  have HV := hide hv
  have HALL := hide hall
  have HOK := hide hok
  have HO := hide ho
  have h1' : ((ns.length : Int) == 1) = false := by simp; omega
  clear hv hall hok h1 ho
  have HG : ∀ (w1 : World) (z : Int), Hid (St w0 v0 w1 b s L vs vn i d szs e p) → Calls Tryz.prog 243 #[.pointer (some ⟨b, 0, none⟩), .agg #[.int .i64 kd, .slice none 0 0, .slice ao ns.length cp, .int .i64 0, .int .i64 0, .int .i64 z]] w1 fun x w' => x = .returned (.int .i64 szs.length) ∧ ∃ vn', Hid (St w0 v0 w' b s L vs vn' i d (szs ++ [z]) e p) :=
    fun w1 z hs => add_st hs hsz kd 0 0 z (.slice none 0 0) (.slice ao ns.length cp) rfl rfl
  have HGH := hide HG
  clear HG
  by_cases h0 : ns = []
  · subst h0
    go_enter Tryz.func208, Tryz.ntmps208
    go_wp2_with fail
    refine wp_loop_rounds 1 ?_
    rw [rounds_succ]
    go_wp2_with (go_at_call 243; refine (unhide HGH _ _ h).mono ?_; rintro x w2 ⟨rfl, vn', HS⟩)
    go_ret
    exact ⟨rfl, vn', HS⟩
  · have hpos : 0 < ns.length := List.length_pos_iff.2 h0
    have HF : Hid (gfold szs ((ns.length : Int) - 1) ns = gsize szs ns) := by show _ = _; rw [gsize, if_neg h0]
    obtain ⟨R, hR⟩ : ∃ R, gsize szs ns = R := ⟨_, rfl⟩
    rw [hR] at HF ⊢
    clear hR h0
    go_enter Tryz.func208, Tryz.ntmps208
    go_wp2_with fail
    go_loopw [7, 8] (fun z k wr => ∃ (y : Int) (j : Nat), j ≤ ns.length ∧ z = .int .i64 y ∧ k = .int .i64 j ∧ 0 ≤ y ∧ y ≤ 1000 ∧ Hid (gfold szs y (ns.drop j) = R) ∧ Hid (Same w wr)) (fun _ k _ => ns.length - (intOf k).toNat)
    case atStart => exact ⟨_, 0, Nat.zero_le _, rfl, rfl, by omega, by omega, HF, Same.refl _⟩
    case round =>
      obtain ⟨y, j, hj, rfl, rfl, hy0, hy1, HR, HSM⟩ := hrel
      by_cases hlt : j < ns.length
      · obtain ⟨g, rfl, -, hg, hc, -⟩ := unhide HV (by omega)
        have hcj := hc j (by omega)
        rw [ints_at _ j (by simpa [nats] using hlt), nats_getD] at hcj
        have hm : ns.getD j 0 < szs.length := unhide HALL _ (by simp only [List.getD, List.getElem?_eq_getElem hlt, Option.getD_some]; exact List.getElem_mem hlt)
        have hgd : gfold szs y (ns.drop j) = gfold szs (cap61 (y + szs.getD (ns.getD j 0) 0)) (ns.drop (j + 1)) := by
          rw [List.drop_eq_getElem_cons hlt, gfold]
          simp only [List.getD, List.getElem?_eq_getElem hlt, Option.getD_some]
        rw [unhide HR] at hgd
        have HGD := hide hgd.symm
        clear hgd HR
        obtain ⟨xs, hx1, hx2⟩ := (unhide h).rs.nodes
        obtain ⟨an, cn, rfl, hvn⟩ := own_view hx1
        obtain ⟨gn, rfl, -, hgn, hcn, -⟩ := hvn (by omega)
        have hcm := hcn (ns.getD j 0 * 6 + 5) (by omega)
        rw [hx2 _ hm] at hcm
        have q4 := (unhide h).rs.c4
        have hzb := (unhide HOK).at (ns.getD j 0)
        have hsm := (unhide HSM).heap
        rw [← cell_heap hsm] at hcj hcm q4
        clear hsm hx1 hx2 hvn hcn hc HALL HV HGH HO
        generalize ns.getD j 0 = m at *
        generalize szs.getD m 0 = z at *
        go_wp2_with fail
        go_quiet ((go_at_call 244; exact Calls.quiet_of_same ((refCapped_any _ _).mono (fun e w' hh => ⟨hh.1, hh.2.symm⟩))))
        go_wp2_with fail
        go_roundw
        case rel => exact ⟨_, j + 1, by omega, rfl, by go_num, cap61_ge (by omega), by have := cap61_le (y + z); omega, HGD, (unhide HSM).trans (Same.drewN _ _)⟩
        case measure => simp [intOf]; omega
      · have hfin : y = R := by rw [← unhide HR, List.drop_eq_nil_of_le (by omega)]; rfl
        subst hfin
        have HS2 : Hid (St w0 v0 wr b s L vs vn i d szs e p) := ⟨(unhide h).rs.same (unhide HSM), (unhide h).fr.trans (Fr.same (unhide HSM)), (unhide h).le⟩
        go_wp2_with (go_at_call 243; refine (unhide HGH _ _ HS2).mono ?_; rintro x w2 ⟨rfl, vn', HS⟩)
        go_ret
        exact ⟨rfl, vn', HS⟩
end
end Go.Proofs.YtfolanohokflkaaGreatDoor

namespace Go.Proofs.YtfolanohokflkaaGreatDoor
open Go.RowKit

def toOne {a : Type} : Res a → Res Int
  | .error x => .error x
  | .ok x => .ok (1, x.2)
theorem toOne_match {a : Type} (r : Res a) : (match r with | .error x => (.error x : Res Int) | .ok (_, l1) => .ok (1, l1)) = toOne r := by
  cases r <;> rfl
/-- what a method answers that makes a part: its number; of a right reading its size. -/
def NodePost (kk pr : Nat) (R : Res Int) (w0 : World) (v0 : Value) (b : Nat) (s : ByteArray) (L : List Sy) (vs : Value) (i : Nat) (d : Int) (szs : List Int) (x : Ending) (w' : World) : Prop :=
  ∃ (n : Nat) (vn' : Value) (i' : Nat) (e' p' : Int) (more : List Int), x = .returned (.int .i64 n) ∧ Hid (St w0 v0 w' b s L vs vn' i' d (szs ++ more) e' p') ∧ i ≤ i' ∧ more.length ≤ 4 * (i' - i) + kk ∧ SzOk (szs ++ more) ∧ (n < (szs ++ more).length ∨ n = 0) ∧ Ends R L i' e' p' ∧ ∀ y, R = .ok y → n < (szs ++ more).length ∧ (szs ++ more).getD n 0 = y.1 ∧ i + pr ≤ i'

def markList : ByteArray := ⟨#[124, 38, 126, 42, 43, 63, 123, 125, 91, 93, 41]⟩
theorem mark_among (c : Int) (h1 : ¬ c = 40) (h2 : ¬ c = 46) (h3 : ¬ c = 92) : amongL c markList.data.toList = isMark c := by
  rw [Bool.eq_iff_iff]; simp [amongL, markList, isMark]; omega

section
variable {w0 w : World} {v0 : Value} {b : Nat} {s : ByteArray} {L : List Sy} {vs vn : Value} {i : Nat} {d : Int} {szs : List Int} {e p : Int}

theorem node_leaf {w' : World} {vn' : Value} {i' : Nat} {e' p' : Int} {R : Res Int} {a : Type} {R2 : Res a} (hR : R = toOne R2) (HS : Hid (St w0 v0 w' b s L vs vn' i' d (szs ++ [1]) e' p')) (hi : i + 1 ≤ i') (hok : SzOk szs) (hen : Ends R2 L i' e' p') :
    NodePost 0 1 R w0 v0 b s L vs i d szs (.returned (.int .i64 szs.length)) w' := by
  refine ⟨szs.length, vn', i', e', p', [1], rfl, HS, by omega, by simp; omega, hok.snoc (by decide) (by decide), .inl (by simp), ?_, ?_⟩
  · rw [hR]
    cases R2 with
    | error x => exact hen
    | ok x => exact hen
  · intro y hy
    refine ⟨by simp, ?_, hi⟩
    rw [hR] at hy
    cases R2 with
    | error x => cases hy
    | ok x => cases hy; simp
theorem node_bad {w' : World} {i' : Nat} {R : Res Int} {er : Int} (hR : R = bad er s.size (L.drop i')) (he : ¬ er = 0) (HS : Hid (St w0 v0 w' b s L vs vn i' d szs er (plc s.size (L.drop i')))) (hi : i ≤ i') (hok : SzOk szs) (kk pr : Nat) :
    NodePost kk pr R w0 v0 b s L vs i d szs (.returned (.int .i64 0)) w' := by
  refine ⟨0, vn, i', er, _, [], rfl, by rw [List.append_nil]; exact HS, hi, by simp, by rw [List.append_nil]; exact hok, .inr rfl, by rw [hR]; exact ends_bad er he _ _ _, ?_⟩
  intro y hy; rw [hR] at hy; cases hy

set_option maxRecDepth 100000 in
set_option maxHeartbeats 8000000 in
theorem atom_leaf (h : Hid (St w0 v0 w b s L vs vn i d szs 0 0)) (hc : ¬ hd (L.drop i) = 40) (hok : SzOk szs) (hsz : szs.length ≤ 10000) :
    Calls Tryz.prog 245 #[.pointer (some ⟨b, 0, none⟩)] w (NodePost 0 1 (leafS s.size (L.drop i)) w0 v0 b s L vs i d szs) := by
  have hlen := (unhide h).rs.len
  have HS := h
  have HOK := hide hok
  have hge := hd_ge (L.drop i)
  clear h hok
  obtain ⟨c, hcc⟩ : ∃ c, hd (L.drop i) = c := ⟨_, rfl⟩
  have HL := look_at (w0 := w0) (v0 := v0) (b := b) (s := s) (L := L) (vs := vs) (vn := vn) (d := d) (szs := szs) hcc
  have HJ : Hid (0 ≤ c → i < L.length) := fun hx => drop_lt (by rw [hcc]; exact hx)
  have HE : Hid (leafS s.size (L.drop i) = ((if c = 91 then toOne (classS s.size (L.drop (i + 1))) else if c = 92 then (if isSet (L.drop i) = true then .ok (1, L.drop (i + 2)) else toOne (escapeS s.size (L.drop (i + 1)))) else if c = 46 then .ok (1, L.drop (i + 1)) else if c < 0 ∨ isMark c = true then bad 2 s.size (L.drop i) else .ok (1, L.drop (i + 1))) : Res Int)) := by
    show _ = _
    rw [leafS, hcc, drop_tail, drop_tail]
    cases classS s.size (L.drop (i + 1)) <;> cases escapeS s.size (L.drop (i + 1)) <;> rfl
  have HT : Hid (isSet (L.drop i) = decide (c = 92 ∧ (hd (L.drop (i + 1)) = 100 ∨ hd (L.drop (i + 1)) = 119))) := by show _ = _; rw [isSet_drop, hcc]
  rw [hcc] at hge hc
  clear hcc
  have k40 : (c == 40) = false := by simpa using hc
  by_cases h91 : c = 91
  · subst h91
    have hj := unhide HJ (by decide)
    have HX := hide ((unhide HE).trans (if_pos rfl))
    clear HE HJ HT k40 hc hge
    go_enter Tryz.func245, Tryz.ntmps245
    go_wp2_with (first
      | (go_at_call 205; refine (unhide HL _ HS).mono ?_; clear HS; rintro x w2 ⟨rfl, HS⟩; have q2 := (unhide HS).rs.c2; have f2 := (unhide HS).rs.fz 2)
      | (go_at_call 273; refine (class_st (St.up HS hj)).mono ?_; clear HS q2 f2; rintro x w3 ⟨ao, n, cp, i', e', p', rfl, HS, hi', hen⟩; have HEN := hide hen; clear hen)
      | (go_at_call 274; refine (leaf_st HS hsz ao n cp).mono ?_; clear HS; rintro x w4 ⟨rfl, vn', HS⟩))
    go_ret
    exact node_leaf (unhide HX) HS (by omega) (unhide HOK) (unhide HEN)
  · have k91 : (c == 91) = false := by simpa using h91
    by_cases h92 : c = 92
    · subst h92
      have hj := unhide HJ (by decide)
      have HX := hide (((unhide HE).trans (if_neg h91)).trans (if_pos rfl))
      clear HE HJ k40 hc hge h91 k91
      by_cases hset : hd (L.drop (i + 1)) = 100 ∨ hd (L.drop (i + 1)) = 119
      · have HY := hide ((unhide HX).trans (if_pos (by rw [unhide HT]; simp; exact hset)))
        have HSET := hide hset
        clear HX HT hset
        go_enter Tryz.func245, Tryz.ntmps245
        go_wp2_with (first
          | (go_at_call 205; refine (unhide HL _ HS).mono ?_; clear HS; rintro x w2 ⟨rfl, HS⟩; have q2 := (unhide HS).rs.c2; have f2 := (unhide HS).rs.fz 2)
          | (go_at_call 275; refine (escape_set HS hj (unhide HSET) (.error (0, 0))).mono ?_; clear HS q2 f2; rintro x w3 ⟨ao, n, cp, l, HF, hl, ⟨-, rfl, HS⟩ | ⟨hx, -⟩⟩ <;> (try cases hx))
          | (go_at_call 274; refine (leaf_st HS hsz ao n cp).mono ?_; clear HS; rintro x w4 ⟨rfl, vn', HS⟩))
        go_ret
        exact node_leaf (R2 := (.ok ((), L.drop (i + 2)) : Res Unit)) (unhide HY) HS (by omega) (unhide HOK) (ends_ok _ _ _)
      · have HY := hide ((unhide HX).trans (if_neg (by rw [unhide HT]; simp; omega)))
        have HSET := hide hset
        clear HX HT hset
        go_enter Tryz.func245, Tryz.ntmps245
        go_wp2_with (first
          | (go_at_call 205; refine (unhide HL _ HS).mono ?_; clear HS; rintro x w2 ⟨rfl, HS⟩; have q2 := (unhide HS).rs.c2; have f2 := (unhide HS).rs.fz 2)
          | (go_at_call 275; refine (escape_one false HS hj (.inr (unhide HSET))).mono ?_; clear HS q2 f2; rintro x w3 ⟨ao, n, cp, l, HF, hl, ⟨hx, -⟩ | ⟨-, rfl, i', e', p', HS, hi', hen, -⟩⟩ <;> (first | cases hx | (have HEN := hide hen; clear hen)))
          | (go_at_call 274; refine (leaf_st HS hsz ao n cp).mono ?_; clear HS; rintro x w4 ⟨rfl, vn', HS⟩))
        go_ret
        exact node_leaf (unhide HY) HS (by omega) (unhide HOK) (unhide HEN)
    · have k92 : (c == 92) = false := by simpa using h92
      have HX := hide (((unhide HE).trans (if_neg h91)).trans (if_neg h92))
      clear HE HT
      by_cases h46 : c = 46
      · subst h46
        have hj := unhide HJ (by decide)
        have HY := hide ((unhide HX).trans (if_pos rfl))
        have HA := hide (fun w1 => refAmong_any 46 markList w1 (by unfold maxLen; decide))
        rw [show amongL 46 markList.data.toList = false from by decide] at HA
        clear HX HJ hc h91 h92 k40 k91 k92 hge
        go_enter Tryz.func245, Tryz.ntmps245
        go_wp2_with (first
          | (go_at_call 205; refine (unhide HL _ HS).mono ?_; clear HS; rintro x w2 ⟨rfl, HS⟩; have q2 := (unhide HS).rs.c2; have f2 := (unhide HS).rs.fz 2)
          | (go_at_call 206; refine (unhide HA _).mono ?_; rintro x w2 ⟨rfl, rfl⟩)
          | (go_at_call 276; refine (every_st (St.up HS hj)).mono ?_; clear HS q2 f2; rintro x w3 ⟨ao, n, cp, rfl, HS⟩)
          | (go_at_call 274; refine (leaf_st HS hsz ao n cp).mono ?_; clear HS; rintro x w4 ⟨rfl, vn', HS⟩))
        go_ret
        exact node_leaf (R2 := (.ok ((), L.drop (i + 1)) : Res Unit)) (unhide HY) HS (by omega) (unhide HOK) (ends_ok _ _ _)
      · have HY := hide ((unhide HX).trans (if_neg h46))
        have k46 : (c == 46) = false := by simpa using h46
        have HA := hide (fun w1 => refAmong_any c markList w1 (by unfold maxLen; decide))
        rw [mark_among c hc h46 h92] at HA
        by_cases hneg : c < 0
        · have HZ := hide ((unhide HY).trans (if_pos (.inl hneg)))
          clear HX HY HJ hc h91 h92 h46
          go_enter Tryz.func245, Tryz.ntmps245
          go_wp2_with (first
            | (go_at_call 205; refine (unhide HL _ HS).mono ?_; clear HS; rintro x w2 ⟨rfl, HS⟩; have q2 := (unhide HS).rs.c2; have f2 := (unhide HS).rs.fz 2)
            | (go_at_call 140; refine (wrong_new HS 2).mono ?_; clear HS; rintro x w3 ⟨rfl, HS⟩))
          go_ret
          exact node_bad (unhide HZ) (by decide) HS (Nat.le_refl _) (unhide HOK) 0 1
        · have hj := unhide HJ (by omega)
          have kn : decide (c < 0) = false := by simp; omega
          cases hm : isMark c
          · have HZ := hide ((unhide HY).trans (if_neg (by rw [hm]; simp; omega)))
            rw [hm] at HA
            clear HX HY HJ hc h91 h92 h46 hm hneg
            go_enter Tryz.func245, Tryz.ntmps245
            go_wp2_with (first
              | (go_at_call 205; refine (unhide HL _ HS).mono ?_; clear HS; rintro x w2 ⟨rfl, HS⟩; have q2 := (unhide HS).rs.c2; have f2 := (unhide HS).rs.fz 2)
              | (go_at_call 206; refine (unhide HA _).mono ?_; rintro x w2 ⟨rfl, rfl⟩)
              | (go_at_call 277; refine (single_st (St.up HS hj) c).mono ?_; clear HS q2 f2; rintro x w3 ⟨ao, n, cp, rfl, HS, -⟩)
              | (go_at_call 274; refine (leaf_st HS hsz ao n cp).mono ?_; clear HS; rintro x w4 ⟨rfl, vn', HS⟩))
            go_ret
            exact node_leaf (R2 := (.ok ((), L.drop (i + 1)) : Res Unit)) (unhide HZ) HS (by omega) (unhide HOK) (ends_ok _ _ _)
          · have HZ := hide ((unhide HY).trans (if_pos (.inr hm)))
            rw [hm] at HA
            clear HX HY HJ hc h91 h92 h46 hm hneg
            go_enter Tryz.func245, Tryz.ntmps245
            go_wp2_with (first
              | (go_at_call 205; refine (unhide HL _ HS).mono ?_; clear HS; rintro x w2 ⟨rfl, HS⟩; have q2 := (unhide HS).rs.c2; have f2 := (unhide HS).rs.fz 2)
              | (go_at_call 206; refine (unhide HA _).mono ?_; rintro x w2 ⟨rfl, rfl⟩)
              | (go_at_call 140; refine (wrong_new HS 2).mono ?_; clear HS; rintro x w3 ⟨rfl, HS⟩))
            go_ret
            exact node_bad (unhide HZ) (by decide) HS (Nat.le_refl _) (unhide HOK) 0 1
end
end Go.Proofs.YtfolanohokflkaaGreatDoor
