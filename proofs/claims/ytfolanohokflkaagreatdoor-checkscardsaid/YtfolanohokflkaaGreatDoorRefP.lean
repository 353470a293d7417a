import Derived.Test.YtfolanohokflkaaGreatDoorRefO
import Derived.WalkKit
import Derived.WalkSpells
import Derived.WalkLawsBesides
namespace Go.Proofs.YtfolanohokflkaaGreatDoor
open Go.RowKit

/-- spans that lie apart from the reader and its parts. -/
structure Free (w : World) (b : Nat) (vn : Value) (v : Value) (l : List (Int × Int)) : Prop where
  at_ : SpansAt w v l
  nb : v.ownBlock ≠ some b
  nn : ∀ k, v.ownBlock = some k → vn.ownBlock ≠ some k

section
variable {w0 w : World} {v0 : Value} {b : Nat} {s : ByteArray} {L : List Sy} {vs vn : Value} {i : Nat} {d : Int} {szs : List Int} {e p : Int}

theorem Free.fresh {w w' : World} {v : Value} {l : List (Int × Int)} (h : Hid (St w0 v0 w b s L vs vn i d szs e p)) (hs : SpansAt w' v l) (hf : ∀ k, v.ownBlock = some k → w.heap.size ≤ k) : Hid (Free w' b vn v l) := by
  have hb := (unhide h).rs.lt
  obtain ⟨xs, hn, _⟩ := (unhide h).rs.nodes
  refine ⟨hs, fun e => ?_, fun k hk e => ?_⟩
  · have := hf b e; omega
  · have := hf k hk
    have := (hn.lt k e).2
    omega
theorem Free.nil (w : World) (b : Nat) (vn : Value) : Hid (Free w b vn (.slice none 0 0) []) := ⟨SpansAt.nil w, by simp [Value.ownBlock], fun k hk => by simp [Value.ownBlock] at hk⟩
theorem Free.fr {w w' : World} {vn' v : Value} {l : List (Int × Int)} (h : Hid (Free w b vn v l)) (hf : Fr b vn w w' vn') : Hid (Free w' b vn' v l) := by
  obtain ⟨h1, h2⟩ := hf.own (unhide h).at_ (unhide h).nb (unhide h).nn
  exact ⟨h1, (unhide h).nb, h2⟩

theorem single_st (h : Hid (St w0 v0 w b s L vs vn i d szs e p)) (c : Int) :
    Calls Tryz.prog 277 #[.int .i64 c] w fun x w' => ∃ ao n cp, x = .returned (.slice ao n cp) ∧ Hid (St w0 v0 w' b s L vs vn i d szs e p) ∧ Hid (Free w' b vn (.slice ao n cp) [(c, c)]) := by
  refine (refSingle_any c w).mono ?_
  rintro x w' ⟨n, cp, rfl, hs, hb⟩
  exact ⟨_, n, cp, rfl, St.below h hb, Free.fresh h hs (fun k hk => by simp [Value.ownBlock] at hk; omega)⟩
theorem digits_st (h : Hid (St w0 v0 w b s L vs vn i d szs e p)) :
    Calls Tryz.prog 301 #[] w fun x w' => ∃ ao n cp l, x = .returned (.slice ao n cp) ∧ Hid (St w0 v0 w' b s L vs vn i d szs e p) ∧ Hid (Free w' b vn (.slice ao n cp) l) ∧ l.length ≤ 4 := by
  refine (refDigits_any w).mono ?_
  rintro x w' ⟨n, cp, rfl, hs, hb⟩
  exact ⟨_, n, cp, _, rfl, St.below h hb, Free.fresh h hs (fun k hk => by simp [Value.ownBlock] at hk; omega), by decide⟩
theorem letters_st (h : Hid (St w0 v0 w b s L vs vn i d szs e p)) :
    Calls Tryz.prog 302 #[] w fun x w' => ∃ ao n cp l, x = .returned (.slice ao n cp) ∧ Hid (St w0 v0 w' b s L vs vn i d szs e p) ∧ Hid (Free w' b vn (.slice ao n cp) l) ∧ l.length ≤ 4 := by
  refine (refLetters_any w).mono ?_
  rintro x w' ⟨n, cp, rfl, hs, hb⟩
  exact ⟨_, n, cp, _, rfl, St.below h hb, Free.fresh h hs (fun k hk => by simp [Value.ownBlock] at hk; omega), by decide⟩

/-- what an escape or a limit answers: of a set; of one symbol; of an error. -/
def SymPost (set : Bool) (r : Res Int) (w0 : World) (v0 : Value) (b : Nat) (s : ByteArray) (L : List Sy) (vs vn : Value) (i j : Nat) (d : Int) (szs : List Int) (x : Ending) (w' : World) : Prop :=
  ∃ ao n cp l, Hid (Free w' b vn (.slice ao n cp) l) ∧ l.length ≤ 4 ∧
    ((set = true ∧ x = .returned (.tuple #[.slice ao n cp, .bool false]) ∧ Hid (St w0 v0 w' b s L vs vn j d szs 0 0)) ∨
     (set = false ∧ x = .returned (.tuple #[.slice ao n cp, .bool true]) ∧ ∃ i' e' p', Hid (St w0 v0 w' b s L vs vn i' d szs e' p') ∧ i ≤ i' ∧ Ends r L i' e' p' ∧ ∀ y, r = .ok y → l = [(y.1, y.1)] ∧ i + 1 ≤ i'))

theorem sym_weak {set : Bool} {r : Res Int} {w0 : World} {v0 : Value} {b : Nat} {s : ByteArray} {L : List Sy} {vs vn : Value} {i j : Nat} {d : Int} {szs : List Int} {x : Ending} {w' : World} (h : SymPost set r w0 v0 b s L vs vn (i + 1) j d szs x w') : SymPost set r w0 v0 b s L vs vn i j d szs x w' := by
  obtain ⟨ao, n, cp, l, HF, hl, h1 | ⟨h1, h2, i', e', p', HS, hi, hen, hy⟩⟩ := h
  · exact ⟨ao, n, cp, l, HF, hl, .inl h1⟩
  · exact ⟨ao, n, cp, l, HF, hl, .inr ⟨h1, h2, i', e', p', HS, by omega, hen, fun y h => ⟨(hy y h).1, by have := (hy y h).2; omega⟩⟩⟩
def escList : ByteArray := ⟨#[124, 38, 126, 42, 43, 63, 123, 125, 91, 93, 40, 41, 46, 92, 94, 45]⟩
theorem esc_among (c : Int) : amongL c escList.data.toList = isEsc c := by
  rw [Bool.eq_iff_iff]; simp [amongL, escList, isEsc, isMark]; omega

set_option maxRecDepth 100000 in
set_option maxHeartbeats 2000000 in
/-- escape, where d or w stands and a set may stand. -/
theorem escape_set (h : Hid (St w0 v0 w b s L vs vn i d szs 0 0)) (hi : i < L.length) (hc : hd (L.drop (i + 1)) = 100 ∨ hd (L.drop (i + 1)) = 119) (r : Res Int) :
    Calls Tryz.prog 275 #[.pointer (some ⟨b, 0, none⟩), .bool false] w (SymPost true r w0 v0 b s L vs vn (i + 1) (i + 2) d szs) := by
  have hlen := (unhide h).rs.len
  have q2 := (unhide h).rs.c2
  have f2 := (unhide h).rs.fz 2
  have hj : i + 1 < L.length := drop_lt (by omega)
  have HS := St.up h hi
  clear h
  rcases hc with hc | hc
  · have HL := look_at (w0 := w0) (v0 := v0) (b := b) (s := s) (L := L) (vs := vs) (vn := vn) (d := d) (szs := szs) hc
    clear hc
    go_enter Tryz.func275, Tryz.ntmps275
    go_wp2_with (first
      | (go_at_call 205; refine (unhide HL _ HS).mono ?_; clear HS q2 f2; rintro x w2 ⟨rfl, HS⟩; have q2 := (unhide HS).rs.c2; have f2 := (unhide HS).rs.fz 2)
      | (go_at_call 301; refine (digits_st (St.up HS hj)).mono ?_; clear HS; rintro x w2 ⟨ao, n, cp, l, rfl, HS, HF, hl⟩))
    go_ret2
    exact ⟨ao, n, cp, l, HF, hl, .inl ⟨rfl, rfl, HS⟩⟩
  · have HL := look_at (w0 := w0) (v0 := v0) (b := b) (s := s) (L := L) (vs := vs) (vn := vn) (d := d) (szs := szs) hc
    clear hc
    go_enter Tryz.func275, Tryz.ntmps275
    go_wp2_with (first
      | (go_at_call 205; refine (unhide HL _ HS).mono ?_; clear HS q2 f2; rintro x w2 ⟨rfl, HS⟩; have q2 := (unhide HS).rs.c2; have f2 := (unhide HS).rs.fz 2)
      | (go_at_call 302; refine (letters_st (St.up HS hj)).mono ?_; clear HS; rintro x w2 ⟨ao, n, cp, l, rfl, HS, HF, hl⟩))
    go_ret2
    exact ⟨ao, n, cp, l, HF, hl, .inl ⟨rfl, rfl, HS⟩⟩

set_option maxRecDepth 100000 in
set_option maxHeartbeats 4000000 in
/-- escape, of one symbol. -/
theorem escape_one (al : Bool) (h : Hid (St w0 v0 w b s L vs vn i d szs 0 0)) (hi : i < L.length) (hc : al = true ∨ ¬ (hd (L.drop (i + 1)) = 100 ∨ hd (L.drop (i + 1)) = 119)) :
    Calls Tryz.prog 275 #[.pointer (some ⟨b, 0, none⟩), .bool al] w (SymPost false (escapeS s.size (L.drop (i + 1))) w0 v0 b s L vs vn (i + 1) (i + 2) d szs) := by
  have hlen := (unhide h).rs.len
  have q2 := (unhide h).rs.c2
  have f2 := (unhide h).rs.fz 2
  have HS := St.up h hi
  have hge := hd_ge (L.drop (i + 1))
  clear h
  obtain ⟨c, hcc⟩ : ∃ c, hd (L.drop (i + 1)) = c := ⟨_, rfl⟩
  have HL := look_at (w0 := w0) (v0 := v0) (b := b) (s := s) (L := L) (vs := vs) (vn := vn) (d := d) (szs := szs) hcc
  have HCC := hide hcc
  rw [hcc] at hc hge
  have HJ : Hid (0 ≤ c → i + 1 < L.length) := fun hx => drop_lt (by rw [hcc]; exact hx)
  have HE : Hid (escapeS s.size (L.drop (i + 1)) = if c = 117 then codeS s.size (L.drop (i + 2)) else if c = 110 then .ok (10, L.drop (i + 2)) else if isEsc c = true then .ok (c, L.drop (i + 2)) else bad 2 s.size (L.drop (i + 1))) := by
    show _ = _
    rw [escapeS, hcc, drop_tail]
  clear hcc
  by_cases h110 : c = 110
  · subst h110
    have hj := unhide HJ (by decide)
    have HX : Hid (escapeS s.size (L.drop (i + 1)) = .ok (10, L.drop (i + 2))) := by show _ = _; rw [unhide HE]; rfl
    clear hc HE HJ
    go_enter Tryz.func275, Tryz.ntmps275
    go_wp2_with (first
      | (go_at_call 205; refine (unhide HL _ HS).mono ?_; clear HS q2 f2; rintro x w2 ⟨rfl, HS⟩; have q2 := (unhide HS).rs.c2; have f2 := (unhide HS).rs.fz 2)
      | (go_at_call 277; refine (single_st (St.up HS hj) 10).mono ?_; clear HS; rintro x w2 ⟨ao, n, cp, rfl, HS, HF⟩))
    go_ret2
    refine ⟨ao, n, cp, _, HF, by simp, .inr ⟨rfl, rfl, i + 2, 0, 0, HS, by omega, ?_, ?_⟩⟩
    · rw [unhide HX]; exact ends_ok _ _ _
    · intro y hy; rw [unhide HX] at hy; cases hy; exact ⟨rfl, by omega⟩
  · have h110' : (c == 110) = false := by simpa using h110
    have hd' : al = true ∨ (c == 100) = false := by rcases hc with h | h; exact .inl h; exact .inr (by simp; omega)
    have hw' : al = true ∨ (c == 119) = false := by rcases hc with h | h; exact .inl h; exact .inr (by simp; omega)
    clear hc
    by_cases h117 : c = 117
    · subst h117
      have hj := unhide HJ (by decide)
      have HX : Hid (escapeS s.size (L.drop (i + 1)) = codeS s.size (L.drop (i + 2))) := by show _ = _; rw [unhide HE]; rfl
      clear HE HJ h110 h110' hd' hw'
      go_enter Tryz.func275, Tryz.ntmps275
      go_wp2_with (first
        | (go_at_call 205; refine (unhide HL _ HS).mono ?_; clear HS q2 f2; rintro x w2 ⟨rfl, HS⟩)
        | (go_at_call 303; refine (code_st HS hj).mono ?_; clear HS; rintro x w2 ⟨z, i', e', p', rfl, HS, hi', hen, hzv⟩; have HEN := hide hen; have HZV := hide hzv; clear hen hzv)
        | (go_at_call 277; refine (single_st HS z).mono ?_; clear HS; rintro x w2 ⟨ao, n, cp, rfl, HS, HF⟩))
      go_ret2
      refine ⟨ao, n, cp, _, HF, by simp, .inr ⟨rfl, rfl, i', e', p', HS, by omega, by rw [unhide HX]; exact unhide HEN, fun y hy => ?_⟩⟩
      rw [unhide HX] at hy
      exact ⟨by rw [unhide HZV y hy], by omega⟩
    · have h117' : (c == 117) = false := by simpa using h117
      have HA := hide (fun w1 => refAmong_any c escList w1 (by unfold maxLen; decide))
      rw [esc_among] at HA
      have hcase : (al = true ∧ c = 100) ∨ (al = true ∧ c = 119) ∨ ((c == 100) = false ∧ (c == 119) = false) := by
        by_cases k1 : c = 100
        · rcases hd' with h | h
          · exact .inl ⟨h, k1⟩
          · simp [k1] at h
        · by_cases k2 : c = 119
          · rcases hw' with h | h
            · exact .inr (.inl ⟨h, k2⟩)
            · simp [k2] at h
          · exact .inr (.inr ⟨by simpa using k1, by simpa using k2⟩)
      clear hd' hw'
      rcases hcase with ⟨rfl, rfl⟩ | ⟨rfl, rfl⟩ | ⟨k1, k2⟩
      · have HX : Hid (escapeS s.size (L.drop (i + 1)) = bad 2 s.size (L.drop (i + 1))) := by show _ = _; rw [unhide HE]; rfl
        rw [show isEsc 100 = false from by decide] at HA
        clear HE HJ h110 h117 h110' h117'
        go_enter Tryz.func275, Tryz.ntmps275
        go_wp2_with (first
          | (go_at_call 205; refine (unhide HL _ HS).mono ?_; clear HS q2 f2; rintro x w2 ⟨rfl, HS⟩; have q2 := (unhide HS).rs.c2; have f2 := (unhide HS).rs.fz 2)
          | (go_at_call 206; refine (unhide HA _).mono ?_; rintro x w2 ⟨rfl, rfl⟩)
          | (go_at_call 140; refine (wrong_new HS 2).mono ?_; clear HS; rintro x w2 ⟨rfl, HS⟩))
        go_ret2
        refine ⟨none, 0, 0, [], Free.nil _ _ _, by simp, .inr ⟨rfl, rfl, i + 1, 2, _, HS, by omega, ?_, ?_⟩⟩
        · rw [unhide HX]; exact ends_bad 2 (by decide) _ _ _
        · intro y hy; rw [unhide HX] at hy; cases hy
      · have HX : Hid (escapeS s.size (L.drop (i + 1)) = bad 2 s.size (L.drop (i + 1))) := by show _ = _; rw [unhide HE]; rfl
        rw [show isEsc 119 = false from by decide] at HA
        clear HE HJ h110 h117 h110' h117'
        go_enter Tryz.func275, Tryz.ntmps275
        go_wp2_with (first
          | (go_at_call 205; refine (unhide HL _ HS).mono ?_; clear HS q2 f2; rintro x w2 ⟨rfl, HS⟩; have q2 := (unhide HS).rs.c2; have f2 := (unhide HS).rs.fz 2)
          | (go_at_call 206; refine (unhide HA _).mono ?_; rintro x w2 ⟨rfl, rfl⟩)
          | (go_at_call 140; refine (wrong_new HS 2).mono ?_; clear HS; rintro x w2 ⟨rfl, HS⟩))
        go_ret2
        refine ⟨none, 0, 0, [], Free.nil _ _ _, by simp, .inr ⟨rfl, rfl, i + 1, 2, _, HS, by omega, ?_, ?_⟩⟩
        · rw [unhide HX]; exact ends_bad 2 (by decide) _ _ _
        · intro y hy; rw [unhide HX] at hy; cases hy
      · by_cases hneg : c < 0
        · have hng : decide ((0 : Int) ≤ c) = false := by simp; omega
          have HX : Hid (escapeS s.size (L.drop (i + 1)) = bad 2 s.size (L.drop (i + 1))) := by
            show _ = _
            rw [unhide HE, if_neg h117, if_neg h110, if_neg (by obtain rfl : c = -1 := by omega
                                                                decide)]
          clear HE HJ h110 h117
          go_enter Tryz.func275, Tryz.ntmps275
          go_wp2_with (first
            | (go_at_call 205; refine (unhide HL _ HS).mono ?_; clear HS q2 f2; rintro x w2 ⟨rfl, HS⟩; have q2 := (unhide HS).rs.c2; have f2 := (unhide HS).rs.fz 2)
            | (go_at_call 206; refine (unhide HA _).mono ?_; rintro x w2 ⟨rfl, rfl⟩)
            | (go_at_call 140; refine (wrong_new HS 2).mono ?_; clear HS; rintro x w2 ⟨rfl, HS⟩))
          go_ret2
          refine ⟨none, 0, 0, [], Free.nil _ _ _, by simp, .inr ⟨rfl, rfl, i + 1, 2, _, HS, by omega, ?_, ?_⟩⟩
          · rw [unhide HX]; exact ends_bad 2 (by decide) _ _ _
          · intro y hy; rw [unhide HX] at hy; cases hy
        · have hng : (0 : Int) ≤ c := by omega
          have hj := unhide HJ hng
          cases he : isEsc c
          · have HX : Hid (escapeS s.size (L.drop (i + 1)) = bad 2 s.size (L.drop (i + 1))) := by show _ = _; rw [unhide HE, if_neg h117, if_neg h110, if_neg (by rw [he]; decide)]
            rw [he] at HA
            clear HE HJ h110 h117 hneg he
            go_enter Tryz.func275, Tryz.ntmps275
            go_wp2_with (first
              | (go_at_call 205; refine (unhide HL _ HS).mono ?_; clear HS q2 f2; rintro x w2 ⟨rfl, HS⟩; have q2 := (unhide HS).rs.c2; have f2 := (unhide HS).rs.fz 2)
              | (go_at_call 206; refine (unhide HA _).mono ?_; rintro x w2 ⟨rfl, rfl⟩)
              | (go_at_call 140; refine (wrong_new HS 2).mono ?_; clear HS; rintro x w2 ⟨rfl, HS⟩))
            go_ret2
            refine ⟨none, 0, 0, [], Free.nil _ _ _, by simp, .inr ⟨rfl, rfl, i + 1, 2, _, HS, by omega, ?_, ?_⟩⟩
            · rw [unhide HX]; exact ends_bad 2 (by decide) _ _ _
            · intro y hy; rw [unhide HX] at hy; cases hy
          · have HX : Hid (escapeS s.size (L.drop (i + 1)) = .ok (c, L.drop (i + 2))) := by show _ = _; rw [unhide HE, if_neg h117, if_neg h110, if_pos he]
            rw [he] at HA
            clear HE HJ h110 h117 hneg he
            go_enter Tryz.func275, Tryz.ntmps275
            go_wp2_with (first
              | (go_at_call 205; refine (unhide HL _ HS).mono ?_; clear HS q2 f2; rintro x w2 ⟨rfl, HS⟩; have q2 := (unhide HS).rs.c2; have f2 := (unhide HS).rs.fz 2)
              | (go_at_call 206; refine (unhide HA _).mono ?_; rintro x w2 ⟨rfl, rfl⟩)
              | (go_at_call 277; refine (single_st (St.up HS hj) c).mono ?_; clear HS; rintro x w2 ⟨ao, n, cp, rfl, HS, HF⟩))
            go_ret2
            refine ⟨ao, n, cp, _, HF, by simp, .inr ⟨rfl, rfl, i + 2, 0, 0, HS, by omega, ?_, ?_⟩⟩
            · rw [unhide HX]; exact ends_ok _ _ _
            · intro y hy; rw [unhide HX] at hy; cases hy; exact ⟨rfl, by omega⟩

theorem isSet_drop (L : List Sy) (i : Nat) : isSet (L.drop i) = decide (hd (L.drop i) = 92 ∧ (hd (L.drop (i + 1)) = 100 ∨ hd (L.drop (i + 1)) = 119)) := by
  rw [isSet, drop_tail]

set_option maxRecDepth 100000 in
set_option maxHeartbeats 4000000 in
theorem limit_st (sec : Bool) (h : Hid (St w0 v0 w b s L vs vn i d szs 0 0)) :
    Calls Tryz.prog 299 #[.pointer (some ⟨b, 0, none⟩), .bool sec] w (SymPost (!sec && isSet (L.drop i)) (limitS s.size (L.drop i)) w0 v0 b s L vs vn i (i + 2) d szs) := by
  have hlen := (unhide h).rs.len
  have hge := hd_ge (L.drop i)
  have HS := h
  clear h
  obtain ⟨c, hcc⟩ : ∃ c, hd (L.drop i) = c := ⟨_, rfl⟩
  have HL := look_at (w0 := w0) (v0 := v0) (b := b) (s := s) (L := L) (vs := vs) (vn := vn) (d := d) (szs := szs) hcc
  have HE : Hid (limitS s.size (L.drop i) = if c = 92 then escapeS s.size (L.drop (i + 1)) else if c < 0 ∨ c = 93 ∨ c = 45 then bad 2 s.size (L.drop i) else .ok (c, L.drop (i + 1))) := by
    show _ = _
    rw [limitS, hcc, drop_tail]
  have HJ : Hid (0 ≤ c → i < L.length) := fun hx => drop_lt (by rw [hcc]; exact hx)
  have HT : Hid (isSet (L.drop i) = decide (c = 92 ∧ (hd (L.drop (i + 1)) = 100 ∨ hd (L.drop (i + 1)) = 119))) := by show _ = _; rw [isSet_drop, hcc]
  rw [hcc] at hge
  clear hcc
  by_cases hbad : c < 0 ∨ c = 93 ∨ c = 45
  · have HX : Hid (limitS s.size (L.drop i) = bad 2 s.size (L.drop i)) := by show _ = _; rw [unhide HE, if_neg (by omega), if_pos hbad]
    have HN : Hid ((!sec && isSet (L.drop i)) = false) := by show _ = _; rw [unhide HT]; simp; omega
    rw [unhide HN]
    clear HE HJ HT HN
    have hb3 : c = -1 ∨ c = 93 ∨ c = 45 := by omega
    clear hbad hge
    rcases hb3 with rfl | rfl | rfl
    all_goals
      go_enter Tryz.func299, Tryz.ntmps299
      go_wp2_with (first
        | (go_at_call 205; refine (unhide HL _ HS).mono ?_; clear HS; rintro x w2 ⟨rfl, HS⟩)
        | (go_at_call 140; refine (wrong_new HS 2).mono ?_; clear HS; rintro x w2 ⟨rfl, HS⟩))
      go_ret2
      refine ⟨none, 0, 0, [], Free.nil _ _ _, by simp, .inr ⟨rfl, rfl, i, 2, _, HS, by omega, ?_, ?_⟩⟩
      · rw [unhide HX]; exact ends_bad 2 (by decide) _ _ _
      · intro y hy; rw [unhide HX] at hy; cases hy
  · have hj := unhide HJ (by omega)
    by_cases h92 : c = 92
    · subst h92
      have HX : Hid (limitS s.size (L.drop i) = escapeS s.size (L.drop (i + 1))) := by show _ = _; rw [unhide HE]; rfl
      have HC : Hid (∀ w1, Hid (St w0 v0 w1 b s L vs vn i d szs 0 0) → Calls Tryz.prog 275 #[.pointer (some ⟨b, 0, none⟩), .bool sec] w1 (SymPost (!sec && isSet (L.drop i)) (limitS s.size (L.drop i)) w0 v0 b s L vs vn i (i + 2) d szs)) := by
        intro w1 hs
        rw [unhide HX]
        by_cases hset : hd (L.drop (i + 1)) = 100 ∨ hd (L.drop (i + 1)) = 119
        · cases sec
          · rw [unhide HT, show (!false && decide ((92 : Int) = 92 ∧ (hd (L.drop (i + 1)) = 100 ∨ hd (L.drop (i + 1)) = 119))) = true from by simp; exact hset]
            exact (escape_set hs hj hset _).mono (fun _ _ hh => sym_weak hh)
          · exact (escape_one true hs hj (.inl rfl)).mono (fun _ _ hh => sym_weak hh)
        · rw [unhide HT, show (!sec && decide ((92 : Int) = 92 ∧ (hd (L.drop (i + 1)) = 100 ∨ hd (L.drop (i + 1)) = 119))) = false from by simp; intro _; omega]
          exact (escape_one sec hs hj (.inr hset)).mono (fun _ _ hh => sym_weak hh)
      clear HE HJ HT hbad HX hge
      generalize (!sec && isSet (L.drop i)) = set at HC ⊢
      generalize limitS s.size (L.drop i) = r at HC ⊢
      go_enter Tryz.func299, Tryz.ntmps299
      go_wp2_with (first
        | (go_at_call 205; refine (unhide HL _ HS).mono ?_; clear HS; rintro x w2 ⟨rfl, HS⟩)
        | (go_at_call 275; refine (unhide HC _ HS).mono ?_; clear HS HC; rintro x w2 ⟨ao, n, cp, l, HF, hl, ⟨hs1, rfl, HS⟩ | ⟨hs1, rfl, i', e', p', HS, hi', hen, hy⟩⟩))
      all_goals go_ret2
      · exact ⟨ao, n, cp, l, HF, hl, .inl ⟨hs1, rfl, HS⟩⟩
      · exact ⟨ao, n, cp, l, HF, hl, .inr ⟨hs1, rfl, i', e', p', HS, hi', hen, hy⟩⟩
    · have HX : Hid (limitS s.size (L.drop i) = .ok (c, L.drop (i + 1))) := by show _ = _; rw [unhide HE, if_neg h92, if_neg hbad]
      have HN : Hid ((!sec && isSet (L.drop i)) = false) := by show _ = _; rw [unhide HT]; simp; omega
      rw [unhide HN]
      have k1 : (c == 93) = false := by simp; omega
      have k2 : (c == 45) = false := by simp; omega
      have k3 : (c == 92) = false := by simpa using h92
      have k4 : decide (c < 0) = false := by simp; omega
      clear HE HJ HT HN hbad h92
      go_enter Tryz.func299, Tryz.ntmps299
      go_wp2_with (first
        | (go_at_call 205; refine (unhide HL _ HS).mono ?_; clear HS; rintro x w2 ⟨rfl, HS⟩; have q2 := (unhide HS).rs.c2; have f2 := (unhide HS).rs.fz 2)
        | (go_at_call 277; refine (single_st (St.up HS hj) c).mono ?_; clear HS; rintro x w2 ⟨ao, n, cp, rfl, HS, HF⟩))
      go_ret2
      refine ⟨ao, n, cp, _, HF, by simp, .inr ⟨rfl, rfl, i + 1, 0, 0, HS, by omega, ?_, ?_⟩⟩
      · rw [unhide HX]; exact ends_ok _ _ _
      · intro y hy; rw [unhide HX] at hy; cases hy; exact ⟨rfl, by omega⟩
end
end Go.Proofs.YtfolanohokflkaaGreatDoor
