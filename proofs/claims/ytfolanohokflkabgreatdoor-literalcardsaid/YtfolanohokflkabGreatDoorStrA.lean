import Derived.Test.YtfolanohokflkabGreatDoorHexA
import Derived.Test.YtfolanohokflkabGreatDoorItoA
/-
  The rounds: how many lines each has.
-/
namespace Go.Proofs.YtfolanohokflkabGreatDoor
def addB (M : List (List UInt8)) (x : List UInt8) : List (List UInt8) := if x ∈ M then M else M ++ [x]
theorem addB_mem {M : List (List UInt8)} {x y : List UInt8} : y ∈ addB M x ↔ y ∈ M ∨ y = x := by
  unfold addB
  split
  · constructor
    · exact .inl
    · rintro (h | rfl)
      · exact h
      · assumption
  · simp
theorem addB_nodup {M : List (List UInt8)} {x : List UInt8} (h : M.Nodup) : (addB M x).Nodup := by
  unfold addB
  split
  · exact h
  · rename_i hx
    refine List.nodup_append.2 ⟨h, by simp, fun a ha b hb e => hx ?_⟩
    rw [List.mem_singleton] at hb
    rw [← hb, ← e]; exact ha
theorem ddL_mem : ∀ {l M : List (List UInt8)} {y : List UInt8}, y ∈ l.foldl addB M ↔ y ∈ M ∨ y ∈ l
  | [], M, y => by simp
  | x :: l, M, y => by
    rw [List.foldl_cons, ddL_mem, addB_mem]
    simp [or_assoc]
theorem ddL_nodup : ∀ {l M : List (List UInt8)}, M.Nodup → (l.foldl addB M).Nodup
  | [], _, h => h
  | x :: l, M, h => by rw [List.foldl_cons]; exact ddL_nodup (addB_nodup h)
theorem nodup_le {α : Type} [DecidableEq α] : ∀ {a b : List α}, a.Nodup → (∀ x ∈ a, x ∈ b) → a.length ≤ b.length
  | [], _, _, _ => Nat.zero_le _
  | x :: a, b, h, hs => by
    have hx : x ∈ b := hs x (List.mem_cons_self ..)
    have hn := List.nodup_cons.1 h
    have := nodup_le (a := a) (b := b.erase x) hn.2 (fun y hy => (List.mem_erase_of_ne (show y ≠ x from fun e => hn.1 (by rw [← e]; exact hy))).2 (hs y (List.mem_cons_of_mem _ hy)))
    rw [List.length_erase_of_mem hx] at this
    have hp : 0 < b.length := List.length_pos_of_mem hx
    simp
    omega
theorem idx_inj {l : List (List UInt8)} {a b : List UInt8} (ha : a ∈ l) (e : l.idxOf a = l.idxOf b) : a = b := by
  have h1 := List.idxOf_lt_length_iff.2 ha
  have h2 : l.idxOf b < l.length := e ▸ h1
  have e1 := List.getElem_idxOf h1
  have e2 := List.getElem_idxOf h2
  rw [← e1, ← e2]
  simp only [e]
/-- all states, each once. -/
structure AllE (L : Nat) (E : Nat → Nat) (ns : List Nat) : Prop where
  nd : ns.Nodup
  all : ∀ j, j ≤ L + 1 → E j ∈ ns
  only : ∀ n ∈ ns, ∃ j, j ≤ L + 1 ∧ n = E j
section
variable {L k : Nat} {E v g : Nat → Nat} {stp : Nat → Int → Nat} {cl : Nat → List Int} {em : Nat → Bool} {hx : Int → List UInt8} {dc : Nat → List UInt8} {ns : List Nat}
theorem dd_count (hA : AllE L E ns) {f : Nat → List UInt8} {K : Nat} (hf : ∀ i j, i ≤ L + 1 → j ≤ L + 1 → (f (E i) = f (E j) ↔ min i K = min j K)) : ((ns.map f).foldl addB []).length = min K (L + 1) + 1 := by
  have hn : ((ns.map f).foldl addB []).Nodup := ddL_nodup List.nodup_nil
  have hm : ∀ y, y ∈ (ns.map f).foldl addB [] ↔ ∃ j, j ≤ L + 1 ∧ y = f (E j) := fun y => by
    rw [ddL_mem]
    simp only [List.not_mem_nil, false_or, List.mem_map]
    constructor
    · rintro ⟨n, hn, rfl⟩
      obtain ⟨j, hj, rfl⟩ := hA.only n hn
      exact ⟨j, hj, rfl⟩
    · rintro ⟨j, hj, rfl⟩
      exact ⟨E j, hA.all j hj, rfl⟩
  have hr : ((List.range (min K (L + 1) + 1)).map fun j => f (E j)).Nodup := by
    refine List.Pairwise.map _ (fun a b hab => ?_) (List.Pairwise.and_mem.1 (List.nodup_range (n := min K (L + 1) + 1)))
    obtain ⟨ha, hb, hne⟩ := hab
    rw [List.mem_range] at ha hb
    intro e
    have := (hf a b (by omega) (by omega)).1 e
    exact hne (by omega)
  have h1 := nodup_le hn (b := (List.range (min K (L + 1) + 1)).map fun j => f (E j)) (fun y hy => by
    obtain ⟨j, hj, rfl⟩ := (hm y).1 hy
    refine List.mem_map.2 ⟨min j K, List.mem_range.2 (by omega), (hf _ _ (by omega) hj).2 (by omega)⟩)
  have h2 := nodup_le hr (b := (ns.map f).foldl addB []) (fun y hy => by
    obtain ⟨j, hj, rfl⟩ := List.mem_map.1 hy
    rw [List.mem_range] at hj
    exact (hm _).2 ⟨j, by omega, rfl⟩)
  simp only [List.length_map, List.length_range] at h1 h2
  omega
/-- the lines of a round, and the state of each by them. -/
def tellL (hx : Int → List UInt8) (dc : Nat → List UInt8) (stp : Nat → Int → Nat) (cl : Nat → List Int) (em : Nat → Bool) (ns : List Nat) (g : Nat → Nat) : List (List UInt8) := (ns.map (lnOf hx dc stp cl em g)).foldl addB []
def nxtG (hx : Int → List UInt8) (dc : Nat → List UInt8) (stp : Nat → Int → Nat) (cl : Nat → List Int) (em : Nat → Bool) (ns : List Nat) (g : Nat → Nat) (n : Nat) : Nat := (tellL hx dc stp cl em ns g).idxOf (lnOf hx dc stp cl em g n)
/-- what is known of the states of a round. -/
structure Rnd (L : Nat) (E : Nat → Nat) (k : Nat) (g : Nat → Nat) : Prop where
  le : k ≤ L + 1
  sm : ∀ j, j ≤ L + 1 → g (E j) < 100
  eq : ∀ i j, i ≤ L + 1 → j ≤ L + 1 → (g (E i) = g (E j) ↔ min i k = min j k)
theorem Rnd.zero (L : Nat) (E : Nat → Nat) : Rnd L E 0 (fun _ => 0) := ⟨Nat.zero_le _, fun _ _ => by decide, fun _ _ _ _ => by simp⟩
theorem Rnd.lines (h : Rnd L E k g) (A : LA L E v stp cl em) (K : TxtOK hx dc) (hA : AllE L E ns) : (tellL hx dc stp cl em ns g).length = min (k + 1) (L + 1) + 1 :=
  dd_count hA fun _ _ hi hj => A.round K h.le h.sm h.eq hi hj
theorem Rnd.next (h : Rnd L E k g) (A : LA L E v stp cl em) (K : TxtOK hx dc) (hA : AllE L E ns) (hL : L + 2 ≤ 100) (hk : k ≤ L) : Rnd L E (k + 1) (nxtG hx dc stp cl em ns g) := by
  have hmem : ∀ j, j ≤ L + 1 → lnOf hx dc stp cl em g (E j) ∈ tellL hx dc stp cl em ns g := fun j hj => by
    unfold tellL
    rw [ddL_mem]
    exact .inr (List.mem_map.2 ⟨E j, hA.all j hj, rfl⟩)
  refine ⟨by omega, fun j hj => ?_, fun i j hi hj => ?_⟩
  · have h1 := List.idxOf_lt_length_iff.2 (hmem j hj)
    have h2 := h.lines A K hA
    unfold nxtG
    omega
  · rw [← A.round K h.le h.sm h.eq hi hj]
    unfold nxtG
    constructor
    · exact fun e => idx_inj (hmem i hi) e
    · exact fun e => by rw [e]
/-- so many semicolons as lines. -/
theorem Rnd.count (h : Rnd L E k g) (A : LA L E v stp cl em) (K : TxtOK hx dc) (hA : AllE L E ns) : (tellL hx dc stp cl em ns g).flatten.count 59 = (tellL hx dc stp cl em ns g).length := by
  have : ∀ y ∈ tellL hx dc stp cl em ns g, y.count 59 = 1 := fun y hy => by
    unfold tellL at hy
    rw [ddL_mem] at hy
    simp only [List.not_mem_nil, false_or, List.mem_map] at hy
    obtain ⟨n, hn, rfl⟩ := hy
    obtain ⟨j, hj, rfl⟩ := hA.only n hn
    exact line_count K (A.small h.sm hj)
  generalize tellL hx dc stp cl em ns g = l at this
  induction l with
  | nil => rfl
  | cons a r ih =>
    rw [List.flatten_cons, List.count_append, this a (List.mem_cons_self ..), ih (fun y hy => this y (List.mem_cons_of_mem _ hy)), List.length_cons]
    omega
end
end Go.Proofs.YtfolanohokflkabGreatDoor

/-
  Rows of texts, and strings.Join of them.
-/
namespace Go.Proofs.YtfolanohokflkabGreatDoor
open Go.RowKit
abbrev tx (b : List UInt8) : ByteArray := ⟨b.toArray⟩
def strCells (l : List (List UInt8)) : List Value := l.map fun b => .string (tx b)
theorem strCells_append (a c : List (List UInt8)) : strCells (a ++ c) = strCells a ++ strCells c := by simp [strCells]
theorem strCells_length (a : List (List UInt8)) : (strCells a).length = a.length := by simp [strCells]
theorem infoStr : (Tryz.prog.info? 9).map (fun i => (i.zero, i.size, i.bytes)) = some (some (.string ⟨#[]⟩), 1, 16) := by kernel_rfl
theorem join_more (a b : List UInt8) (r : List (List UInt8)) (sep : List UInt8) : Lib.join (a :: b :: r) sep = a ++ (sep ++ Lib.join (b :: r) sep) := by
  rw [Lib.join_cons, Lib.join_cons]
  simp [Lib.joinTail]
theorem commaL_eq : ∀ l : List (List UInt8), commaL l = Lib.join l [44]
  | [] => rfl
  | [a] => by rw [Lib.join_one]; rfl
  | a :: b :: r => by
    rw [join_more, ← commaL_eq (b :: r)]
    rfl
theorem join_flat : ∀ l : List (List UInt8), Lib.join l [] = l.flatten
  | [] => rfl
  | [a] => by rw [Lib.join_one]; simp
  | a :: b :: r => by
    rw [join_more, join_flat (b :: r)]
    simp
theorem join_len {M : Nat} {sep : List UInt8} : ∀ l : List (List UInt8), (∀ x ∈ l, x.length ≤ M) → (Lib.join l sep).length ≤ l.length * (M + sep.length)
  | [], _ => by simp [Lib.join_nil]
  | [a], h => by
    rw [Lib.join_one]
    have := h a (by simp)
    simp
    omega
  | a :: b :: r, h => by
    rw [join_more]
    have h1 := h a (by simp)
    have h2 := join_len (M := M) (sep := sep) (b :: r) (fun x hx => h x (List.mem_cons_of_mem _ hx))
    simp only [List.length_append, List.length_cons] at h2 ⊢
    rw [Nat.succ_mul]
    omega
theorem join_any {w : World} {B : Nat} {ao : Option Addr} {cap : Nat} {ss : List (List UInt8)} (sep : List UInt8) (h : w.ownsRow B 9 1 (.slice ao ss.length cap) ss.length (strCells ss)) (hN : ss.length ≤ 1000) (hl : (Lib.join ss sep).length ≤ 140737488355328) :
    Calls Tryz.prog 49 #[.slice ao ss.length cap, .string (tx sep)] w fun e w' => e = .returned (.string (tx (Lib.join ss sep))) ∧ Below w.heap.size w w' := by
  obtain ⟨_, ⟨hv, hn⟩ | ⟨g, cap', cur, hv, hb, hg, h1, h2, h3, h4⟩⟩ := id h
  · injection hv with e1 e2 e3
    obtain rfl : ss = [] := List.length_eq_zero_iff.1 hn
    refine (Tryz.strings_Join_none ao cap (tx sep) w).mono ?_
    rintro e w' ⟨rfl, rfl⟩
    exact ⟨rfl, Below.refl _ _⟩
  · injection hv with e1 e2 e3
    subst e1
    subst e3
    have hxl : (ss.map tx).length = ss.length := List.length_map _
    have hj : (ss.map tx).map (·.data.toList) = ss := by
      rw [List.map_map]
      have : ss.map ((fun b : ByteArray => b.data.toList) ∘ tx) = ss.map id := List.map_congr_left (fun x _ => by simp)
      rw [this, List.map_id]
    have hs : (tx sep).data.toList = sep := by simp
    have hc := Tryz.strings_Join g 0 cap (ss.map tx) (tx sep) w (fun j x hx => ?_) (Array.getElem?_eq_some_iff.1 hg).1 (by rw [hxl]; omega) (by rw [hxl]; exact h1) (by rw [hj, hs]; exact hl)
    · rw [hj, hs, hxl] at hc
      exact hc
    · have hj' : j < ss.length := by
        have := (List.getElem?_eq_some_iff.1 hx).1
        simpa using this
      have hcell : (strCells ss)[j]? = some (.string x) := by
        unfold strCells
        rw [List.getElem?_map] at hx ⊢
        obtain ⟨y, hy, rfl⟩ := Option.map_eq_some_iff.1 hx
        rw [hy]
        rfl
      rw [Nat.zero_add]
      rw [h.cellAt j (by omega)]
      exact hcell
theorem hex_len (n : Nat) : (hexL n).length ≤ 9 := hexR_len 9 n
theorem dec_len {n : Nat} (h : n < 100) : (Lib.decDigits n).length ≤ 2 := (dec_ok ⟨n, h⟩).2.2
theorem spText_len {x : Sp} (h : x.2.2 < 100) : (spText hxT dcT x).length ≤ 22 := by
  have h1 : (hxT x.1).length ≤ 9 := hex_len x.1.toNat
  have h2 : (hxT x.2.1).length ≤ 9 := hex_len x.2.1.toNat
  have h3 : (dcT x.2.2).length ≤ 2 := dec_len h
  unfold spText
  simp only [List.length_append, List.length_cons]
  omega
/-- the numbers of spans. -/
theorem spans_rng {cl : List Int} {st : Int → Nat} (h1 : ∀ k, k < cl.length → 0 ≤ cl.getD k 0 ∧ cl.getD k 0 ≤ 1114111) (h2 : ∀ k, 0 < k → k < cl.length → 0 < cl.getD k 0) : ∀ k, k ≤ cl.length → ∀ x ∈ spansP (cl.take k) st, (0 ≤ x.1 ∧ x.1 ≤ 1114111) ∧ (0 ≤ x.2.1 ∧ x.2.1 ≤ 1114111) ∧ ∃ c, x.2.2 = st c := by
  intro k
  induction k with
  | zero => intro _ x hx; simp [spansP] at hx
  | succ k ih =>
    intro hk
    have hlt : k < cl.length := by omega
    have e : spansP (cl.take (k + 1)) st = stepSp (spansP (cl.take k) st) (cl.getD k 0) (st (cl.getD k 0)) := by
      unfold spansP
      rw [List.take_succ_eq_append_getElem hlt, List.foldl_append]
      simp [List.getD, hlt]
    have i2 := ih (by omega)
    have r1 := h1 k hlt
    rw [e]
    generalize hsp : spansP (cl.take k) st = sp at *
    have h2' := h2 k
    clear h1 h2 ih e
    generalize cl.getD k 0 = c at *
    rcases List.eq_nil_or_concat sp with rfl | ⟨a, x, rfl⟩
    · intro y hy
      simp [stepSp] at hy
      subst hy
      exact ⟨r1, ⟨show (0 : Int) ≤ 1114111 by decide, show (1114111 : Int) ≤ 1114111 by decide⟩, c, rfl⟩
    · rw [List.concat_eq_append] at *
      have hk0 : 0 < k := by
        rcases Nat.eq_zero_or_pos k with h0 | h0
        · subst h0
          simp [spansP] at hsp
        · exact h0
      have r2 := h2' hk0 hlt
      intro y hy
      by_cases hst : x.2.2 = st c
      · have : stepSp (a ++ [x]) c (st c) = a ++ [x] := by simp [stepSp, hst]
        rw [this] at hy
        exact i2 y hy
      · have : stepSp (a ++ [x]) c (st c) = a ++ [(x.1, blw c, x.2.2), (c, 1114111, st c)] := by simp [stepSp, hst]
        rw [this] at hy
        have hx := i2 x (by simp)
        rcases List.mem_append.1 hy with hy | hy
        · exact i2 y (List.mem_append.2 (.inl hy))
        · simp at hy
          rcases hy with rfl | rfl
          · refine ⟨hx.1, ?_, hx.2.2⟩
            show 0 ≤ blw c ∧ blw c ≤ 1114111
            unfold blw
            split <;> omega
          · exact ⟨r1, ⟨show (0 : Int) ≤ 1114111 by decide, show (1114111 : Int) ≤ 1114111 by decide⟩, c, rfl⟩
end Go.Proofs.YtfolanohokflkabGreatDoor
