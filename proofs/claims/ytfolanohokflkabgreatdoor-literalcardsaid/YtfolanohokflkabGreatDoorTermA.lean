import Derived.Test.YtfolanohokflkabGreatDoorHexA
/-
  The symbols of a text, as the model's decoder has them: no program, no kit.
-/
namespace Go.Proofs.YtfolanohokflkabGreatDoor

/-- a symbol, the byte at which it begins, the byte at which the next one does. -/
structure Sy where
  c : Nat
  fr : Nat
  to : Nat

def symsGo (s : ByteArray) : Nat → Nat → List Sy
  | 0, _ => []
  | f + 1, p => if p < s.size then ⟨(Utf8.decode s p).1, p, p + (Utf8.decode s p).2⟩ :: symsGo s f (p + (Utf8.decode s p).2) else []
/-- the symbols from a byte on. -/
def symsFrom (s : ByteArray) (p : Nat) : List Sy := symsGo s (s.size - p) p

theorem decode_width (s : ByteArray) (i : Nat) (hi : i < s.size) : 1 ≤ (Utf8.decode s i).2 ∧ i + (Utf8.decode s i).2 ≤ s.size := by
  unfold Utf8.decode
  simp only [Nat.add_zero, Bool.and_eq_true, beq_iff_eq, decide_eq_true_eq, ge_iff_le]
  repeat' split
  all_goals simp only []
  all_goals omega

theorem decode_code (s : ByteArray) (i : Nat) : (Utf8.decode s i).1 ≤ 1114111 := by
  have g0 := (s.get! i).toNat_lt
  have g1 := (s.get! (i + 1)).toNat_lt
  have g2 := (s.get! (i + 2)).toNat_lt
  have g3 := (s.get! (i + 3)).toNat_lt
  unfold Utf8.decode
  simp only [Utf8.valid, Utf8.runeError, Nat.add_zero, Bool.and_eq_true, Bool.or_eq_true, beq_iff_eq, decide_eq_true_eq, ge_iff_le]
  repeat' split
  all_goals simp only []
  all_goals omega

theorem symsGo_more (s : ByteArray) : ∀ (f g p : Nat), s.size - p ≤ f → s.size - p ≤ g → symsGo s f p = symsGo s g p := by
  intro f
  induction f with
  | zero =>
    intro g p h1 h2
    cases g with
    | zero => rfl
    | succ g => rw [symsGo, symsGo, if_neg (by omega)]
  | succ f ih =>
    intro g p h1 h2
    cases g with
    | zero => rw [symsGo, symsGo, if_neg (by omega)]
    | succ g =>
      rw [symsGo, symsGo]
      by_cases h : p < s.size
      · have := decode_width s p h
        rw [if_pos h, if_pos h, ih g _ (by omega) (by omega)]
      · rw [if_neg h, if_neg h]

theorem symsFrom_cons (s : ByteArray) (p : Nat) (h : p < s.size) :
    symsFrom s p = ⟨(Utf8.decode s p).1, p, p + (Utf8.decode s p).2⟩ :: symsFrom s (p + (Utf8.decode s p).2) := by
  have := decode_width s p h
  unfold symsFrom
  rw [show s.size - p = (s.size - p - 1) + 1 from by omega, symsGo, if_pos h]
  rw [symsGo_more s (s.size - p - 1) (s.size - (p + (Utf8.decode s p).2)) _ (by omega) (by omega)]
theorem symsFrom_nil (s : ByteArray) (p : Nat) (h : s.size ≤ p) : symsFrom s p = [] := by
  unfold symsFrom; rw [show s.size - p = 0 from by omega]; rfl

theorem symsGo_len (s : ByteArray) : ∀ (f p : Nat), (symsGo s f p).length ≤ f := by
  intro f
  induction f with
  | zero => intro p; exact Nat.le_refl _
  | succ f ih =>
    intro p
    rw [symsGo]
    split
    · simpa using ih _
    · simp
theorem symsFrom_len (s : ByteArray) (p : Nat) : (symsFrom s p).length ≤ s.size - p := symsGo_len s _ p

end Go.Proofs.YtfolanohokflkabGreatDoor

/-
  What both readers of patterns answer, as plain functions on the symbols that are left: no program, no kit.
  A result: the error and its place, or what was read and what is left.
-/
namespace Go.Proofs.YtfolanohokflkabGreatDoor

abbrev Res (a : Type) := Except (Int × Int) (a × List Sy)

/-- the place of what stands next. -/
def plc (n : Nat) : List Sy → Int
  | [] => n
  | x :: _ => x.fr
def hd : List Sy → Int
  | [] => -1
  | x :: _ => x.c

def bad {a : Type} (e : Int) (n : Nat) (l : List Sy) : Res a := .error (e, plc n l)

def isDig (c : Int) : Bool := decide (48 ≤ c ∧ c ≤ 57)
/-- a number of a repeat: its value and what is left; whether it is in range is asked apart. -/
def numV (l : List Sy) : Int × List Sy :=
  if 0 < hd l - 48 ∧ isDig (hd l.tail) = true then (10 * (hd l - 48) + (hd l.tail - 48), l.tail.tail) else (hd l - 48, l.tail)
def numberS (n : Nat) (least : Int) (l : List Sy) : Res Int :=
  if isDig (hd l) = true then (if (numV l).1 < least ∨ 12 < (numV l).1 then bad 3 n (numV l).2 else .ok (numV l)) else bad 2 n l

def pos1 (m : Int) : Int := if m = 0 then 1 else m
/-- a closing brace. -/
def closeS (n : Nat) (m : Int) (l : List Sy) : Res Int := if hd l = 125 then .ok (m, l.tail) else bad 2 n l
def boundsS (n : Nat) (l : List Sy) : Res Int :=
  match numberS n 0 l with
  | .error x => .error x
  | .ok (a, l1) =>
    if hd l1 = 44 then
      (if hd l1.tail = 125 then .ok (a + 1, l1.tail.tail)
       else match numberS n a l1.tail with
         | .error x => .error x
         | .ok (m, l2) => closeS n (pos1 m) l2)
    else closeS n (pos1 a) l1
def isRep (c : Int) : Bool := decide (c = 42 ∨ c = 43 ∨ c = 63 ∨ c = 123)
def repeatS (n : Nat) (l : List Sy) : Res Int := if hd l = 123 then boundsS n l.tail else .ok (2, l.tail)

def hexv (c : Int) : Int := if 48 ≤ c ∧ c ≤ 57 then c - 48 else if 97 ≤ c ∧ c ≤ 102 then c - 87 else -1
/-- up to so many digits: the number, how many there were, what is left. -/
def hexS : Nat → Int → Nat → List Sy → Int × Nat × List Sy
  | 0, v, k, l => (v, k, l)
  | f + 1, v, k, l => if 0 ≤ hexv (hd l) then hexS f (16 * v + hexv (hd l)) (k + 1) l.tail else (v, k, l)
def codeEnd (n : Nat) (x : Int × Nat × List Sy) : Res Int :=
  if x.2.1 = 0 ∨ ¬ hd x.2.2 = 125 then bad 2 n x.2.2 else if isSym x.1 = true then .ok (x.1, x.2.2.tail) else bad 3 n x.2.2
/-- behind the u. -/
def codeS (n : Nat) (l : List Sy) : Res Int := if hd l = 123 then codeEnd n (hexS 6 0 0 l.tail) else bad 2 n l
def isMark (c : Int) : Bool := [124, 38, 126, 42, 43, 63, 123, 125, 91, 93, 40, 41, 46, 92].contains c
def isEsc (c : Int) : Bool := isMark c || [94, 45].contains c
/-- behind the backslash, one symbol. -/
def escapeS (n : Nat) (l : List Sy) : Res Int :=
  if hd l = 117 then codeS n l.tail else if hd l = 110 then .ok (10, l.tail) else if isEsc (hd l) = true then .ok (hd l, l.tail) else bad 2 n l
/-- a backslash and d or w. -/
def isSet (l : List Sy) : Bool := decide (hd l = 92 ∧ (hd l.tail = 100 ∨ hd l.tail = 119))
def limitS (n : Nat) (l : List Sy) : Res Int :=
  if hd l = 92 then escapeS n l.tail else if hd l < 0 ∨ hd l = 93 ∨ hd l = 45 then bad 2 n l else .ok (hd l, l.tail)
def partS (n : Nat) (l : List Sy) : Res Unit :=
  if isSet l = true then .ok ((), l.tail.tail)
  else match limitS n l with
    | .error x => .error x
    | .ok (a, l1) =>
      if hd l1 = 45 then (match limitS n l1.tail with
        | .error x => .error x
        | .ok (b, l2) => if b < a then bad 3 n l2 else .ok ((), l2))
      else .ok ((), l1)
def classLoopS (n : Nat) : Nat → List Sy → Res Unit
  | 0, l => bad 2 n l
  | f + 1, l => if hd l = 93 then .ok ((), l.tail) else match partS n l with
    | .error x => .error x
    | .ok (_, l1) => classLoopS n f l1
/-- behind the bracket. -/
def classS (n : Nat) (l : List Sy) : Res Unit :=
  if hd l = 94 then classLoopS n (l.length + 1) l.tail else classLoopS n (l.length + 1) l
/-- an atom that is no group. -/
def leafS (n : Nat) (l : List Sy) : Res Int :=
  if hd l = 91 then (match classS n l.tail with
    | .error x => .error x
    | .ok (_, l1) => .ok (1, l1))
  else if hd l = 92 then
    (if isSet l = true then .ok (1, l.tail.tail) else match escapeS n l.tail with
      | .error x => .error x
      | .ok (_, l1) => .ok (1, l1))
  else if hd l = 46 then .ok (1, l.tail)
  else if hd l < 0 ∨ isMark (hd l) = true then bad 2 n l
  else .ok (1, l.tail)

def repsS (n : Nat) : Nat → Int → List Sy → Res Int
  | 0, _, l => bad 2 n l
  | f + 1, z, l => if isRep (hd l) = true then (match repeatS n l with
      | .error x => .error x
      | .ok (m, l1) => repsS n f (cap61 (z * m)) l1)
    else .ok (z, l)
def itemS (n : Nat) (atom : List Sy → Res Int) : Nat → List Sy → Res Int
  | 0, l => bad 2 n l
  | f + 1, l => if hd l = 126 then (match itemS n atom f l.tail with
      | .error x => .error x
      | .ok (z, l1) => .ok (cap61 (z + 1), l1))
    else match atom l with
      | .error x => .error x
      | .ok (z, l1) => repsS n (l1.length + 1) z l1
def rowEnd (c : Int) : Bool := decide (c < 0 ∨ c = 124 ∨ c = 38 ∨ c = 41)
def rowLoopS (n : Nat) (atom : List Sy → Res Int) : Nat → Int → List Sy → Res Int
  | 0, _, l => bad 2 n l
  | f + 1, z, l => if rowEnd (hd l) = true then .ok (z, l) else match itemS n atom (l.length + 1) l with
    | .error x => .error x
    | .ok (y, l1) => rowLoopS n atom f (cap61 (z + 1 + y)) l1
def rowS (n : Nat) (atom : List Sy → Res Int) (l : List Sy) : Res Int :=
  if rowEnd (hd l) = true then .ok (1, l) else match itemS n atom (l.length + 1) l with
    | .error x => .error x
    | .ok (y, l1) => rowLoopS n atom (l1.length + 1) y l1
/-- parts with a sign between them. -/
def sepLoopS (n : Nat) (sub : List Sy → Res Int) (sign : Int) : Nat → Int → List Sy → Res Int
  | 0, _, l => bad 2 n l
  | f + 1, z, l => if hd l = sign then (match sub l.tail with
      | .error x => .error x
      | .ok (y, l1) => sepLoopS n sub sign f (cap61 (z + 1 + y)) l1)
    else .ok (z, l)
def sepS (n : Nat) (sub : List Sy → Res Int) (sign : Int) (l : List Sy) : Res Int :=
  match sub l with
  | .error x => .error x
  | .ok (y, l1) => sepLoopS n sub sign (l1.length + 1) y l1
def bothS (n : Nat) (atom : List Sy → Res Int) : List Sy → Res Int := sepS n (rowS n atom) 38
def choiceS (n : Nat) (atom : List Sy → Res Int) : List Sy → Res Int := sepS n (bothS n atom) 124
/-- an atom, where so many groups more may be opened. -/
def atomS (n : Nat) : Nat → List Sy → Res Int
  | 0, l => if hd l = 40 then bad 4 n l else leafS n l
  | k + 1, l => if hd l = 40 then (match choiceS n (atomS n k) l.tail with
      | .error x => .error x
      | .ok (z, l1) => if hd l1 = 41 then .ok (z, l1.tail) else bad 2 n l1)
    else leafS n l
/-- what Check answers. -/
def checkEnd (n : Nat) : Res Int → Int × Int
  | .error x => x
  | .ok (z, l) => if hd l < 0 then (if 60 < z then (5, 0) else (0, 0)) else (2, plc n l)
def checkS (s : ByteArray) : Int × Int := if 60 < s.size then (1, 0) else checkEnd s.size (choiceS s.size (atomS s.size 8) (symsFrom s 0))
end Go.Proofs.YtfolanohokflkabGreatDoor

/-
  Sets of symbols as lists of spans: no program, no kit.
-/
namespace Go.Proofs.YtfolanohokflkabGreatDoor

abbrev Spans := List (Int × Int)
def inS (l : Spans) (c : Int) : Bool := l.any fun x => decide (x.1 ≤ c) && decide (c ≤ x.2)
theorem inS_nil (c : Int) : inS [] c = false := rfl
theorem inS_cons (x : Int × Int) (l : Spans) (c : Int) : inS (x :: l) c = (decide (x.1 ≤ c ∧ c ≤ x.2) || inS l c) := by
  simp [inS, Bool.decide_and]
theorem inS_cons_iff {x : Int × Int} {l : Spans} {c : Int} : inS (x :: l) c = true ↔ (x.1 ≤ c ∧ c ≤ x.2) ∨ inS l c = true := by
  rw [inS_cons]; simp
theorem isSym_iff {n : Int} : isSym n = true ↔ 0 ≤ n ∧ n ≤ 1114111 ∧ (n < 55296 ∨ 57343 < n) := by simp [isSym]

/-- a list with one more, ahead of the first that is greater. -/
def insB {α : Type} (gt : α → α → Bool) (c : α) : List α → List α
  | [] => [c]
  | x :: r => if gt x c = true then c :: x :: r else x :: insB gt c r
theorem mem_insB {α : Type} {gt : α → α → Bool} {c x : α} : ∀ {l : List α}, x ∈ insB gt c l ↔ x = c ∨ x ∈ l
  | [] => by simp [insB]
  | y :: r => by
    rw [insB]
    split
    · simp
    · simp [mem_insB (l := r)]
      constructor
      · rintro (h | h | h) <;> simp [h]
      · rintro (h | h | h) <;> simp [h]
def withB {α : Type} [BEq α] (gt : α → α → Bool) (c : α) (l : List α) : List α := if l.contains c = true then l else insB gt c l
theorem mem_withB {α : Type} [BEq α] [LawfulBEq α] {gt : α → α → Bool} {c x : α} {l : List α} : x ∈ withB gt c l ↔ x = c ∨ x ∈ l := by
  unfold withB
  split
  · rename_i h
    have h' : c ∈ l := by simpa using h
    constructor
    · exact .inr
    · rintro (rfl | h2)
      · exact h'
      · exact h2
  · exact mem_insB
theorem insB_sorted {α : Type} {gt : α → α → Bool} (htr : ∀ a b c, gt b a = true → gt c b = true → gt c a = true) {c : α} :
    ∀ {l : List α}, (∀ x ∈ l, gt x c = true ∨ gt c x = true) → l.Pairwise (fun a b => gt b a = true) → (insB gt c l).Pairwise (fun a b => gt b a = true)
  | [], _, _ => by simp [insB]
  | y :: r, hc, hp => by
    rw [insB]
    have hp' := List.pairwise_cons.1 hp
    split
    · rename_i h
      refine List.pairwise_cons.2 ⟨fun z hz => ?_, hp⟩
      rcases List.mem_cons.1 hz with rfl | hz
      · exact h
      · exact htr _ _ _ h (hp'.1 z hz)
    · rename_i h
      refine List.pairwise_cons.2 ⟨fun z hz => ?_, insB_sorted htr (fun x hx => hc x (List.mem_cons_of_mem _ hx)) hp'.2⟩
      rcases mem_insB.1 hz with rfl | hz
      · rcases hc y (List.mem_cons_self ..) with h2 | h2
        · exact absurd h2 h
        · exact h2
      · exact hp'.1 z hz
/-- sorted lists with the same members are one. -/
theorem sorted_ext {α : Type} {gt : α → α → Bool} (hirr : ∀ a, gt a a = false) (htr : ∀ a b c, gt b a = true → gt c b = true → gt c a = true) :
    ∀ {l m : List α}, l.Pairwise (fun a b => gt b a = true) → m.Pairwise (fun a b => gt b a = true) → (∀ x, x ∈ l ↔ x ∈ m) → l = m
  | [], [], _, _, _ => rfl
  | [], y :: m, _, _, h => absurd ((h y).2 (List.mem_cons_self ..)) (by simp)
  | x :: l, [], _, _, h => absurd ((h x).1 (List.mem_cons_self ..)) (by simp)
  | x :: l, y :: m, hl, hm, h => by
    have hl' := List.pairwise_cons.1 hl
    have hm' := List.pairwise_cons.1 hm
    have e : x = y := by
      rcases List.mem_cons.1 ((h x).1 (List.mem_cons_self ..)) with e | e
      · exact e
      · rcases List.mem_cons.1 ((h y).2 (List.mem_cons_self ..)) with e2 | e2
        · exact e2.symm
        · have h1 := hm'.1 x e
          have h2 := hl'.1 y e2
          have h3 := htr _ _ _ h1 h2
          rw [hirr] at h3; exact absurd h3 (by simp)
    subst e
    have hx : ∀ z, z ∈ l ↔ z ∈ m := by
      intro z
      constructor
      · intro hz
        rcases List.mem_cons.1 ((h z).1 (List.mem_cons_of_mem _ hz)) with e | e
        · subst e; have h3 := hl'.1 z hz; rw [hirr] at h3; exact absurd h3 (by simp)
        · exact e
      · intro hz
        rcases List.mem_cons.1 ((h z).2 (List.mem_cons_of_mem _ hz)) with e | e
        · subst e; have h3 := hm'.1 z hz; rw [hirr] at h3; exact absurd h3 (by simp)
        · exact e
    rw [sorted_ext hirr htr hl'.2 hm'.2 hx]

def gtI (a b : Int) : Bool := decide (b < a)
theorem gtI_iff {a b : Int} : gtI a b = true ↔ b < a := by simp [gtI]
def gapUp (c : Int) : Int := if 55296 ≤ c ∧ c ≤ 57343 then 57344 else c
def placedS (l : List Int) (c : Int) : List Int := if 1114111 < gapUp c then l else withB gtI (gapUp c) l
def SrtI (l : List Int) : Prop := l.Pairwise (fun a b => gtI b a = true)
theorem withI_sorted {l : List Int} (h : SrtI l) (c : Int) : SrtI (withB gtI c l) := by
  unfold withB
  split
  · exact h
  · rename_i hc
    refine insB_sorted (fun a b c h1 h2 => ?_) (fun x hx => ?_) h
    · rw [gtI_iff] at *; omega
    · rw [gtI_iff, gtI_iff]
      have : ¬ x = c := by rintro rfl; exact hc (by simpa using hx)
      omega
theorem placedS_sorted {l : List Int} (h : SrtI l) (c : Int) : SrtI (placedS l c) := by
  unfold placedS; split
  · exact h
  · exact withI_sorted h _
theorem mem_placedS {l : List Int} {c x : Int} : x ∈ placedS l c ↔ x ∈ l ∨ (x = gapUp c ∧ x ≤ 1114111) := by
  unfold placedS
  split
  · constructor
    · exact .inl
    · rintro (h | ⟨rfl, h⟩)
      · exact h
      · omega
  · rw [mem_withB]
    constructor
    · rintro (rfl | h)
      · exact .inr ⟨rfl, by omega⟩
      · exact .inl h
    · rintro (h | ⟨rfl, h⟩)
      · exact .inr h
      · exact .inl rfl
theorem gapUp_ge (c : Int) : c ≤ gapUp c := by unfold gapUp; split <;> omega
theorem gapUp_le {c x : Int} (hx : isSym x = true) (h : c ≤ x) : gapUp c ≤ x := by
  rw [isSym_iff] at hx; unfold gapUp; split <;> omega
theorem gapUp_sym {c : Int} (h0 : 0 ≤ c) (h : gapUp c ≤ 1114111) : isSym (gapUp c) = true := by
  rw [isSym_iff]; unfold gapUp at *; split at h <;> omega

/-- spans whose limits are numbers of symbols, or may be. -/
def Pos (a : Spans) : Prop := ∀ x ∈ a, 0 ≤ x.1 ∧ 0 ≤ x.2
def cutsOf (l : List Int) (a : Spans) : List Int := a.foldl (fun l x => placedS (placedS l x.1) (x.2 + 1)) l
def cutsS (a b : Spans) : List Int := cutsOf (cutsOf [0] a) b
theorem cutsOf_sorted : ∀ (a : Spans) {l : List Int}, SrtI l → SrtI (cutsOf l a)
  | [], _, h => h
  | x :: a, l, h => cutsOf_sorted a (l := placedS (placedS l x.1) (x.2 + 1)) (placedS_sorted (placedS_sorted h _) _)
theorem mem_cutsOf : ∀ (a : Spans) {l : List Int} {y : Int}, y ∈ cutsOf l a ↔ y ∈ l ∨ ∃ x ∈ a, (y = gapUp x.1 ∨ y = gapUp (x.2 + 1)) ∧ y ≤ 1114111
  | [], l, y => by simp [cutsOf]
  | x :: a, l, y => by
    rw [show cutsOf l (x :: a) = cutsOf (placedS (placedS l x.1) (x.2 + 1)) a from rfl, mem_cutsOf a, mem_placedS, mem_placedS]
    constructor
    · rintro (((h | ⟨h1, h2⟩) | ⟨h1, h2⟩) | ⟨z, hz, h⟩)
      · exact .inl h
      · exact .inr ⟨x, List.mem_cons_self .., .inl h1, h2⟩
      · exact .inr ⟨x, List.mem_cons_self .., .inr h1, h2⟩
      · exact .inr ⟨z, List.mem_cons_of_mem _ hz, h⟩
    · rintro (h | ⟨z, hz, h1, h2⟩)
      · exact .inl (.inl (.inl h))
      · rcases List.mem_cons.1 hz with rfl | hz
        · rcases h1 with h1 | h1
          · exact .inl (.inl (.inr ⟨h1, h2⟩))
          · exact .inl (.inr ⟨h1, h2⟩)
        · exact .inr ⟨z, hz, h1, h2⟩
theorem mem_cutsS {a b : Spans} {y : Int} : y ∈ cutsS a b ↔ y = 0 ∨ (∃ x ∈ a, (y = gapUp x.1 ∨ y = gapUp (x.2 + 1)) ∧ y ≤ 1114111) ∨ ∃ x ∈ b, (y = gapUp x.1 ∨ y = gapUp (x.2 + 1)) ∧ y ≤ 1114111 := by
  rw [cutsS, mem_cutsOf, mem_cutsOf, or_assoc]; simp
theorem cutsS_sorted (a b : Spans) : SrtI (cutsS a b) := cutsOf_sorted _ (cutsOf_sorted _ (by simp [SrtI]))
theorem cutsS_sym {a b : Spans} (ha : Pos a) (hb : Pos b) : ∀ y ∈ cutsS a b, isSym y = true := by
  intro y hy
  have key : ∀ l : Spans, Pos l → (∃ x ∈ l, (y = gapUp x.1 ∨ y = gapUp (x.2 + 1)) ∧ y ≤ 1114111) → isSym y = true := by
    rintro l hl ⟨x, hx, rfl | rfl, h⟩
    · exact gapUp_sym (hl x hx).1 h
    · exact gapUp_sym (by have := (hl x hx).2; omega) h
  rcases mem_cutsS.1 hy with rfl | h | h
  · decide
  · exact key a ha h
  · exact key b hb h
theorem srt_head {x : Int} {r : List Int} (h : SrtI (x :: r)) : ∀ y ∈ r, x < y := fun y hy => gtI_iff.1 ((List.pairwise_cons.1 h).1 y hy)
theorem srt_tail {x : Int} {r : List Int} (h : SrtI (x :: r)) : SrtI r := (List.pairwise_cons.1 h).2
/-- the cut at which a symbol's segment begins. -/
def seg : List Int → Int → Int
  | [], c => c
  | [x], _ => x
  | x :: y :: r, c => if y ≤ c then seg (y :: r) c else x
theorem seg_spec : ∀ (l : List Int) (c : Int), SrtI l → (∃ x r, l = x :: r ∧ x ≤ c) → seg l c ∈ l ∧ seg l c ≤ c ∧ ∀ y ∈ l, y ≤ c → y ≤ seg l c
  | [], _, _, h => by obtain ⟨x, r, h, _⟩ := h; cases h
  | [x], c, _, h => by
    obtain ⟨x', r, e, hx⟩ := h
    cases e
    exact ⟨by simp [seg], hx, fun y hy _ => by simp at hy; simp [seg, hy]⟩
  | x :: y :: r, c, hs, h => by
    obtain ⟨x', r', e, hx⟩ := h
    cases e
    rw [seg]
    have h1 := srt_head hs
    split
    · rename_i hy
      obtain ⟨h2, h3, h4⟩ := seg_spec (y :: r) c (srt_tail hs) ⟨y, r, rfl, hy⟩
      refine ⟨List.mem_cons_of_mem _ h2, h3, fun z hz hzc => ?_⟩
      rcases List.mem_cons.1 hz with rfl | hz
      · have := h4 y (List.mem_cons_self ..) hy
        have := h1 y (List.mem_cons_self ..)
        omega
      · exact h4 z hz hzc
    · rename_i hy
      refine ⟨List.mem_cons_self .., hx, fun z hz hzc => ?_⟩
      rcases List.mem_cons.1 hz with rfl | hz
      · exact Int.le_refl _
      · rcases List.mem_cons.1 hz with rfl | hz
        · exact absurd hzc hy
        · have := srt_head (srt_tail hs) z hz
          omega
theorem head_zero {l : List Int} (hs : SrtI l) (h0 : 0 ∈ l) (hp : ∀ y ∈ l, 0 ≤ y) : ∃ r, l = 0 :: r := by
  cases l with
  | nil => simp at h0
  | cons x r =>
    rcases List.mem_cons.1 h0 with h | h
    · exact ⟨r, by rw [h]⟩
    · have := srt_head hs 0 h
      have := hp x (List.mem_cons_self ..)
      omega
/-- a set does not tell a symbol from the cut of its segment. -/
theorem inS_seg {a : Spans} {l : List Int} (hs : SrtI l) (h0 : ∃ x r, l = x :: r ∧ x ≤ 0) (hl : ∀ y ∈ l, isSym y = true)
    (hc : ∀ x ∈ a, ∀ y, y = gapUp x.1 ∨ y = gapUp (x.2 + 1) → y ≤ 1114111 → y ∈ l) {c : Int} (hy : isSym c = true) : inS a c = inS a (seg l c) := by
  have hc0 := isSym_iff.1 hy
  obtain ⟨h1, h2, h3⟩ := seg_spec l c hs (by obtain ⟨x, r, e, h⟩ := h0; exact ⟨x, r, e, by omega⟩)
  have hsy := hl _ h1
  have key : ∀ x ∈ a, (x.1 ≤ c ∧ c ≤ x.2) ↔ (x.1 ≤ seg l c ∧ seg l c ≤ x.2) := by
    intro x hx
    have up : ∀ z : Int, (∀ y, y = gapUp z → y ≤ 1114111 → y ∈ l) → (z ≤ c ↔ z ≤ seg l c) := by
      intro z hz
      constructor
      · intro hzc
        have h4 := gapUp_le hy hzc
        have h5 := hz _ rfl (by omega)
        have := h3 _ h5 h4
        have := gapUp_ge z
        omega
      · intro h; omega
    have u1 := up x.1 (fun y e => hc x hx y (.inl e))
    have u2 := up (x.2 + 1) (fun y e => hc x hx y (.inr e))
    omega
  unfold inS
  rw [Bool.eq_iff_iff, List.any_eq_true, List.any_eq_true]
  constructor
  · rintro ⟨x, hx, h⟩; exact ⟨x, hx, by have := key x hx; simp at h ⊢; omega⟩
  · rintro ⟨x, hx, h⟩; exact ⟨x, hx, by have := key x hx; simp at h ⊢; omega⟩
theorem inS_cuts {a b : Spans} (ha : Pos a) (hb : Pos b) {c : Int} (hy : isSym c = true) : inS a c = inS a (seg (cutsS a b) c) ∧ inS b c = inS b (seg (cutsS a b) c) := by
  have hs := cutsS_sorted a b
  have hl := cutsS_sym ha hb
  obtain ⟨r, hr⟩ := head_zero hs (mem_cutsS.2 (.inl rfl)) (fun y h => (isSym_iff.1 (hl y h)).1)
  have h0 : ∃ x r, cutsS a b = x :: r ∧ x ≤ 0 := ⟨0, r, hr, Int.le_refl _⟩
  exact ⟨inS_seg hs h0 hl (fun x hx y h1 h2 => mem_cutsS.2 (.inr (.inl ⟨x, hx, h1, h2⟩))) hy, inS_seg hs h0 hl (fun x hx y h1 h2 => mem_cutsS.2 (.inr (.inr ⟨x, hx, h1, h2⟩))) hy⟩

/-- the last symbol ahead of the next cut. -/
def hiOf : List Int → Int
  | [] => 1114111
  | y :: _ => if y - 1 = 57343 then 55295 else y - 1
def headP (p : Int → Bool) : List Int → Bool
  | [] => false
  | y :: _ => p y
def joinHead (x h : Int) (b : Bool) (l : Spans) : Spans := match b, l with
  | true, z :: q => (x, z.2) :: q
  | _, l => (x, h) :: l
def tidyS (p : Int → Bool) : List Int → Spans
  | [] => []
  | x :: r => if p x = true then joinHead x (hiOf r) (headP p r) (tidyS p r) else tidyS p r
def abv (h : Int) : Int := if h = 55295 then 57344 else h + 1
def TidyF (m : Int) : Spans → Prop
  | [] => True
  | x :: r => m < x.1 ∧ isSym x.1 = true ∧ isSym x.2 = true ∧ x.1 ≤ x.2 ∧ TidyF (abv x.2) r
abbrev Tidy (l : Spans) : Prop := TidyF (-1) l
theorem TidyF.mono {m n : Int} : ∀ {l : Spans}, TidyF m l → n ≤ m → TidyF n l
  | [], _, _ => trivial
  | _ :: _, h, hn => ⟨by have := h.1; omega, h.2⟩
theorem TidyF.ge {m c : Int} : ∀ {l : Spans}, TidyF m l → inS l c = true → m < c
  | [], _, h => by simp [inS] at h
  | x :: r, h, hc => by
    rcases inS_cons_iff.1 hc with h1 | h1
    · have := h.1; omega
    · have h2 := h.2.2.2.2.ge h1
      have : x.2 < abv x.2 := by unfold abv; split <;> omega
      have := h.1
      have := h.2.2.2.1
      omega
theorem TidyF.pos {m : Int} : ∀ {l : Spans}, TidyF m l → Pos l
  | [], _ => fun x h => by simp at h
  | y :: r, h => fun x hx => by
    rcases List.mem_cons.1 hx with rfl | hx
    · exact ⟨(isSym_iff.1 h.2.1).1, (isSym_iff.1 h.2.2.1).1⟩
    · exact h.2.2.2.2.pos x hx
theorem abv_sym {h y : Int} (hh : isSym h = true) (hy : isSym y = true) (hlt : h < y) : isSym (abv h) = true ∧ abv h ≤ y ∧ h < abv h := by
  rw [isSym_iff] at *; unfold abv; split <;> omega
/-- tidy sets with the same symbols are one list. -/
theorem tidy_ext : ∀ {m n : Int} {a b : Spans}, TidyF m a → TidyF n b → (∀ c, isSym c = true → inS a c = inS b c) → a = b
  | _, _, [], [], _, _, _ => rfl
  | _, _, [], y :: b, _, hb, h => by
    have := h y.1 hb.2.1
    rw [inS_nil, inS_cons] at this
    simp [hb.2.2.2.1] at this
  | _, _, x :: a, [], ha, _, h => by
    have := h x.1 ha.2.1
    rw [inS_nil, inS_cons] at this
    simp [ha.2.2.2.1] at this
  | _, _, x :: a, y :: b, ha, hb, h => by
    have xin : inS (x :: a) x.1 = true := inS_cons_iff.2 (.inl ⟨Int.le_refl _, ha.2.2.2.1⟩)
    have yin : inS (y :: b) y.1 = true := inS_cons_iff.2 (.inl ⟨Int.le_refl _, hb.2.2.2.1⟩)
    have lo : ∀ {m : Int} {z : Int × Int} {l : Spans} {c : Int}, TidyF m (z :: l) → inS (z :: l) c = true → z.1 ≤ c := by
      intro m z l c hz hc
      rcases inS_cons_iff.1 hc with h1 | h1
      · exact h1.1
      · have := hz.2.2.2.2.ge h1
        have : z.2 < abv z.2 := by unfold abv; split <;> omega
        have := hz.2.2.2.1
        omega
    have e1 : x.1 = y.1 := by
      have h1 := lo hb (by rw [← h x.1 ha.2.1]; exact xin)
      have h2 := lo ha (by rw [h y.1 hb.2.1]; exact yin)
      omega
    have no : ∀ {m : Int} {z : Int × Int} {l : Spans} {c : Int}, TidyF m (z :: l) → z.2 < c → c ≤ abv z.2 → ¬ inS (z :: l) c = true := by
      intro m z l c hz h1 h2 hc
      rcases inS_cons_iff.1 hc with h3 | h3
      · omega
      · have := hz.2.2.2.2.ge h3
        omega
    have e2 : x.2 = y.2 := by
      rcases Int.lt_trichotomy x.2 y.2 with hlt | he | hgt
      · obtain ⟨h1, h2, h3⟩ := abv_sym ha.2.2.1 hb.2.2.1 hlt
        refine absurd ?_ (no ha h3 (Int.le_refl _))
        rw [h _ h1]
        exact inS_cons_iff.2 (.inl ⟨by have := ha.2.2.2.1; omega, h2⟩)
      · exact he
      · obtain ⟨h1, h2, h3⟩ := abv_sym hb.2.2.1 ha.2.2.1 hgt
        refine absurd ?_ (no hb h3 (Int.le_refl _))
        rw [← h _ h1]
        exact inS_cons_iff.2 (.inl ⟨by have := hb.2.2.2.1; omega, h2⟩)
    have e : x = y := Prod.ext e1 e2
    subst e
    have hr : ∀ c, isSym c = true → inS a c = inS b c := by
      intro c hc
      have h1 := h c hc
      rw [inS_cons, inS_cons] at h1
      by_cases hin : x.1 ≤ c ∧ c ≤ x.2
      · have g : ∀ {l : Spans}, TidyF (abv x.2) l → inS l c = false := by
          intro l hl
          cases hb2 : inS l c with
          | false => rfl
          | true =>
            have := hl.ge hb2
            have : x.2 < abv x.2 := by unfold abv; split <;> omega
            omega
        rw [g ha.2.2.2.2, g hb.2.2.2.2]
      · simpa [hin] using h1
    rw [tidy_ext ha.2.2.2.2 hb.2.2.2.2 hr]

theorem tidyS_head {p : Int → Bool} {y : Int} {r : List Int} (h : p y = true) : ∃ z q, tidyS p (y :: r) = (y, z) :: q := by
  rw [tidyS, if_pos h]
  unfold joinHead
  split
  · exact ⟨_, _, rfl⟩
  · exact ⟨_, _, rfl⟩
theorem tidyS_tidy (p : Int → Bool) : ∀ (l : List Int) (m : Int), SrtI l → (∀ y ∈ l, isSym y = true) → (∀ y ∈ l, m < y) → TidyF m (tidyS p l)
  | [], _, _, _, _ => trivial
  | x :: r, m, hs, hy, hm => by
    rw [tidyS]
    have hx := srt_head hs
    have hr : ∀ y ∈ r, isSym y = true := fun y h => hy y (List.mem_cons_of_mem _ h)
    have hmx := hm x (List.mem_cons_self ..)
    have hxs := hy x (List.mem_cons_self ..)
    split
    · cases r with
      | nil => exact ⟨hmx, hxs, by show isSym 1114111 = true; decide, by show x ≤ 1114111; have := isSym_iff.1 hxs; omega, trivial⟩
      | cons y r =>
        have hxy := hx y (List.mem_cons_self ..)
        have hys := isSym_iff.1 (hr y (List.mem_cons_self ..))
        have hxs' := isSym_iff.1 hxs
        cases hp : p y with
        | true =>
          have ih := tidyS_tidy p (y :: r) x (srt_tail hs) hr hx
          obtain ⟨z, q, e⟩ := tidyS_head (r := r) hp
          rw [e] at ih ⊢
          rw [show headP p (y :: r) = true from hp]
          exact ⟨hmx, hxs, ih.2.2.1, by show x ≤ z; have := ih.2.2.2.1; simp at this; omega, ih.2.2.2.2⟩
        | false =>
          have ih := tidyS_tidy p r y (srt_tail (srt_tail hs)) (fun z h => hr z (List.mem_cons_of_mem _ h)) (srt_head (srt_tail hs))
          rw [show headP p (y :: r) = false from hp, tidyS, if_neg (by rw [hp]; decide)]
          have e1 : abv (hiOf (y :: r)) = y := by simp only [hiOf, abv]; split <;> split <;> omega
          refine ⟨hmx, hxs, ?_, ?_, ?_⟩
          · show isSym (hiOf (y :: r)) = true
            rw [isSym_iff]; simp only [hiOf]; split <;> omega
          · show x ≤ hiOf (y :: r)
            simp only [hiOf]; split <;> omega
          · show TidyF (abv (hiOf (y :: r))) _
            rw [e1]; exact ih
    · exact tidyS_tidy p r m (srt_tail hs) hr (fun y h => hm y (List.mem_cons_of_mem _ h))
theorem tidyS_in (p : Int → Bool) : ∀ (l : List Int) (c : Int), SrtI l → (∀ y ∈ l, isSym y = true) → isSym c = true → (∃ x r, l = x :: r ∧ x ≤ c) → inS (tidyS p l) c = p (seg l c)
  | [], _, _, _, _, h => by obtain ⟨x, r, h, _⟩ := h; cases h
  | [x], c, _, _, hc, h => by
    obtain ⟨x', r, e, hx⟩ := h
    cases e
    rw [seg, tidyS]
    have := isSym_iff.1 hc
    split
    · rename_i hp
      rw [hp]
      exact inS_cons_iff.2 (.inl ⟨hx, by show c ≤ 1114111; omega⟩)
    · rename_i hp
      simp [tidyS, inS]
      simpa using hp
  | x :: y :: r, c, hs, hy, hc, h => by
    obtain ⟨x', r', e, hx⟩ := h
    cases e
    have hxy := srt_head hs y (List.mem_cons_self ..)
    have hr : ∀ z ∈ y :: r, isSym z = true := fun z h => hy z (List.mem_cons_of_mem _ h)
    have hcs := isSym_iff.1 hc
    have hys := isSym_iff.1 (hr y (List.mem_cons_self ..))
    rw [seg]
    by_cases hyc : y ≤ c
    · rw [if_pos hyc, ← tidyS_in p (y :: r) c (srt_tail hs) hr hc ⟨y, r, rfl, hyc⟩]
      rw [tidyS]
      split
      · cases hp : p y with
        | true =>
          obtain ⟨z, q, e⟩ := tidyS_head (r := r) hp
          rw [e, show headP p (y :: r) = true from hp]
          show inS ((x, z) :: q) c = _
          rw [inS_cons, inS_cons]
          have hiff : (x ≤ c ∧ c ≤ z) ↔ (y ≤ c ∧ c ≤ z) := by omega
          simp only [hiff]
        | false =>
          rw [show headP p (y :: r) = false from hp]
          show inS ((x, hiOf (y :: r)) :: tidyS p (y :: r)) c = _
          rw [inS_cons]
          have : hiOf (y :: r) < c := by simp only [hiOf]; split <;> omega
          simp; omega
      · rfl
    · rw [if_neg hyc]
      have hbelow : inS (tidyS p (y :: r)) c = false := by
        cases hb : inS (tidyS p (y :: r)) c with
        | false => rfl
        | true =>
          have := (tidyS_tidy p (y :: r) (y - 1) (srt_tail hs) hr (fun z hz => by
            rcases List.mem_cons.1 hz with rfl | hz
            · omega
            · have := srt_head (srt_tail hs) z hz; omega)).ge hb
          omega
      rw [tidyS]
      split
      · rename_i hpx
        rw [hpx]
        cases hp : p y with
        | true =>
          have ht := tidyS_tidy p (y :: r) (-1) (srt_tail hs) hr (fun z hz => by have := isSym_iff.1 (hr z hz); omega)
          obtain ⟨z, q, e⟩ := tidyS_head (r := r) hp
          rw [e] at ht ⊢
          rw [show headP p (y :: r) = true from hp]
          exact inS_cons_iff.2 (.inl ⟨hx, by have := ht.2.2.2.1; simp at this; show c ≤ z; omega⟩)
        | false =>
          rw [show headP p (y :: r) = false from hp]
          exact inS_cons_iff.2 (.inl ⟨hx, by show c ≤ hiOf (y :: r); simp only [hiOf]; split <;> omega⟩)
      · rename_i hpx
        rw [hbelow]; simpa using hpx

def cupS (a b : Spans) : Spans := tidyS (fun x => inS a x || inS b x) (cutsS a b)
def capS (a b : Spans) : Spans := tidyS (fun x => inS a x && inS b x) (cutsS a b)
def othS (a : Spans) : Spans := tidyS (fun x => !inS a x) (cutsS a [])
theorem cuts_zero {a b : Spans} (ha : Pos a) (hb : Pos b) {c : Int} (hc : isSym c = true) : ∃ x r, cutsS a b = x :: r ∧ x ≤ c := by
  obtain ⟨r, hr⟩ := head_zero (cutsS_sorted a b) (mem_cutsS.2 (.inl rfl)) (fun y h => (isSym_iff.1 (cutsS_sym ha hb y h)).1)
  exact ⟨0, r, hr, (isSym_iff.1 hc).1⟩
theorem cupS_in {a b : Spans} (ha : Pos a) (hb : Pos b) {c : Int} (hc : isSym c = true) : inS (cupS a b) c = (inS a c || inS b c) := by
  rw [cupS, tidyS_in _ _ c (cutsS_sorted a b) (cutsS_sym ha hb) hc (cuts_zero ha hb hc), ← (inS_cuts ha hb hc).1, ← (inS_cuts ha hb hc).2]
theorem capS_in {a b : Spans} (ha : Pos a) (hb : Pos b) {c : Int} (hc : isSym c = true) : inS (capS a b) c = (inS a c && inS b c) := by
  rw [capS, tidyS_in _ _ c (cutsS_sorted a b) (cutsS_sym ha hb) hc (cuts_zero ha hb hc), ← (inS_cuts ha hb hc).1, ← (inS_cuts ha hb hc).2]
theorem pos_nil : Pos [] := fun x h => by simp at h
theorem othS_in {a : Spans} (ha : Pos a) {c : Int} (hc : isSym c = true) : inS (othS a) c = !inS a c := by
  rw [othS, tidyS_in _ _ c (cutsS_sorted a []) (cutsS_sym ha pos_nil) hc (cuts_zero ha pos_nil hc), ← (inS_cuts ha pos_nil hc).1]
theorem tidy_of {a b : Spans} (ha : Pos a) (hb : Pos b) (p : Int → Bool) : Tidy (tidyS p (cutsS a b)) :=
  tidyS_tidy _ _ _ (cutsS_sorted a b) (cutsS_sym ha hb) (fun y hy => by have := isSym_iff.1 (cutsS_sym ha hb y hy); omega)
theorem cupS_tidy {a b : Spans} (ha : Pos a) (hb : Pos b) : Tidy (cupS a b) := tidy_of ha hb _
theorem capS_tidy {a b : Spans} (ha : Pos a) (hb : Pos b) : Tidy (capS a b) := tidy_of ha hb _
theorem othS_tidy {a : Spans} (ha : Pos a) : Tidy (othS a) := tidy_of ha pos_nil _
end Go.Proofs.YtfolanohokflkabGreatDoor

/-
  Terms, the form in which they are kept, what they become, their words: no program, no kit.
-/
namespace Go.Proofs.YtfolanohokflkabGreatDoor

/-- a term; grp: an any (false) or an all (true), of its first member and the rest. -/
inductive Tm where
  | set (l : List (Int × Int))
  | eps
  | chain (a b : Tm)
  | star (a : Tm)
  | not (a : Tm)
  | grp (k : Bool) (a b : Tm)
deriving DecidableEq

abbrev voidT : Tm := .set []
abbrev whole : Tm := .not (.set [])
open Tm (eps)

/-! texts of terms -/
def hexD (d : Nat) : UInt8 := if d < 10 then UInt8.ofNat (48 + d) else UInt8.ofNat (87 + d)
def hexF : Nat → Nat → List UInt8 → List UInt8
  | 0, _, acc => acc
  | f + 1, n, acc => if n / 16 = 0 then hexD (n % 16) :: acc else hexF f (n / 16) (hexD (n % 16) :: acc)
def hexT (n : Nat) : List UInt8 := hexF (n + 1) n []
def spansT : Spans → List UInt8
  | [] => []
  | x :: r => hexT x.1.toNat ++ (45 :: (hexT x.2.toNat ++ (44 :: spansT r)))
def sign (k : Bool) : UInt8 := if k = true then 38 else 124
/-- the text of a term; within members of a kind the rest of them follows without its sign. -/
def rendF : Option Bool → Tm → List UInt8
  | _, .set l => 91 :: (spansT l ++ [93])
  | _, .eps => [101]
  | _, .chain a b => 46 :: (rendF .none a ++ rendF .none b)
  | _, .star a => 42 :: rendF .none a
  | _, .not a => 126 :: rendF .none a
  | m, .grp k a b => if m = some k then rendF .none a ++ rendF (some k) b else sign k :: (rendF .none a ++ (rendF (some k) b ++ [59]))
abbrev rend (t : Tm) : List UInt8 := rendF Option.none t

def gtB : List UInt8 → List UInt8 → Bool
  | [], _ => false
  | _ :: _, [] => true
  | x :: r, y :: s => if x = y then gtB r s else decide (y < x)
def gtT (a b : Tm) : Bool := gtB (rend a) (rend b)

/-! the form -/
def isChain : Tm → Bool
  | .chain _ _ => true
  | _ => false
def chainT : Tm → Tm → Tm
  | .chain x y, b => if b = voidT then voidT else if b = eps then .chain x y else chainT x (chainT y b)
  | .set l, b => if .set l = voidT ∨ b = voidT then voidT else if b = eps then .set l else .chain (.set l) b
  | .eps, b => b
  | .star a, b => if b = voidT then voidT else if b = eps then .star a else .chain (.star a) b
  | .not a, b => if b = voidT then voidT else if b = eps then .not a else .chain (.not a) b
  | .grp k x y, b => if b = voidT then voidT else if b = eps then .grp k x y else .chain (.grp k x y) b
def starT (a : Tm) : Tm := if a = voidT ∨ a = eps then eps else match a with
  | .star x => .star x
  | x => .star x
def notT : Tm → Tm
  | .not a => a
  | a => .not a
/-- the members of a term of a kind; another is its own one. -/
def memT (k : Bool) : Tm → List Tm
  | .grp k' a b => if k' = k then a :: memT k b else [.grp k' a b]
  | t => [t]
def joinT (k : Bool) : List Tm → Tm
  | [] => voidT
  | [a] => a
  | a :: r => .grp k a (joinT k r)
def unitT (k : Bool) : Tm := if k = true then whole else voidT
def zeroT (k : Bool) : Tm := if k = true then voidT else whole
def setOfT : Tm → Option Spans
  | .set l => some l
  | _ => Option.none
def opS (k : Bool) (a b : Spans) : Spans := if k = true then capS a b else cupS a b
def foldS (k : Bool) : List Spans → Option Spans
  | [] => Option.none
  | s :: r => some (r.foldl (opS k) s)
def nonSets (f : List Tm) : List Tm := f.filter fun t => (setOfT t).isNone
/-- the members that are no sets, rising, each once. -/
def outs (f : List Tm) : List Tm := (nonSets f).foldl (fun l t => withB gtT t l) []
def withSet (k : Bool) (f : List Tm) : List Tm := match foldS k (f.filterMap setOfT) with
  | Option.none => outs f
  | some s => withB gtT (.set s) (outs f)
def endG (k : Bool) (out : List Tm) : Tm := if zeroT k ∈ out then zeroT k else match out.filter (fun t => decide (t ≠ unitT k)) with
  | [] => unitT k
  | l => joinT k l
def groupT (k : Bool) (l : List Tm) : Tm := endG k (withSet k (l.flatMap (memT k)))

def nullT : Tm → Bool
  | .set _ => false
  | .eps => true
  | .chain a b => nullT a && nullT b
  | .star _ => true
  | .not a => !nullT a
  | .grp k a b => if k = true then nullT a && nullT b else nullT a || nullT b
def one1 : List Tm → Tm
  | t :: _ => t
  | [] => voidT
/-- what a term becomes; within members of a kind: what each of them does. -/
def derL (c : Int) : Option Bool → Tm → List Tm
  | _, .set l => [if inS l c = true then eps else voidT]
  | _, .eps => [voidT]
  | _, .chain a b => [if nullT a = true then groupT false [chainT (one1 (derL c .none a)) b, one1 (derL c .none b)] else chainT (one1 (derL c .none a)) b]
  | _, .star a => [chainT (one1 (derL c .none a)) (.star a)]
  | _, .not a => [notT (one1 (derL c .none a))]
  | m, .grp k a b => if m = some k then one1 (derL c .none a) :: derL c (some k) b else [groupT k (one1 (derL c .none a) :: derL c (some k) b)]
def derT (c : Int) (t : Tm) : Tm := one1 (derL c Option.none t)
theorem derL_mem (c : Int) (k : Bool) : ∀ t : Tm, derL c (some k) t = (memT k t).map (derT c)
  | .set l => by simp [derL, memT, derT, one1]
  | .eps => by simp [derL, memT, derT, one1]
  | .chain a b => by simp [derL, memT, derT, one1]
  | .star a => by simp [derL, memT, derT, one1]
  | .not a => by simp [derL, memT, derT, one1]
  | .grp k' a b => by
    have ih := derL_mem c k b
    rw [derL, memT]
    by_cases h : k' = k
    · subst h
      rw [if_pos rfl, if_pos rfl, ih]; rfl
    · rw [if_neg h, if_neg (by simpa using fun e => h e.symm)]
      simp [derT, derL, one1]
theorem derT_set (c : Int) (l : Spans) : derT c (.set l) = if inS l c = true then eps else voidT := rfl
theorem derT_eps (c : Int) : derT c eps = voidT := rfl
theorem derT_chain (c : Int) (a b : Tm) : derT c (.chain a b) = if nullT a = true then groupT false [chainT (derT c a) b, derT c b] else chainT (derT c a) b := rfl
theorem derT_star (c : Int) (a : Tm) : derT c (.star a) = chainT (derT c a) (.star a) := rfl
theorem derT_not (c : Int) (a : Tm) : derT c (.not a) = notT (derT c a) := rfl
theorem derT_grp (c : Int) (k : Bool) (a b : Tm) : derT c (.grp k a b) = groupT k ((memT k (.grp k a b)).map (derT c)) := by
  rw [memT, if_pos rfl, List.map_cons, ← derL_mem]
  simp [derT, derL, one1]

theorem chainT_eq (a b : Tm) : chainT a b = if a = voidT ∨ b = voidT then voidT else if a = eps then b else if b = eps then a else match a with
    | .chain x y => chainT x (chainT y b)
    | a => .chain a b := by
  cases a with
  | set l => by_cases h : l = [] <;> simp [chainT, h]
  | eps => by_cases h : b = voidT <;> simp [chainT, h]
  | chain x y => simp [chainT]
  | star a => simp [chainT]
  | not a => simp [chainT]
  | grp k x y => simp [chainT]
theorem chainT_none_left (b : Tm) : chainT voidT b = voidT := by rw [chainT_eq]; simp
theorem chainT_none_right (a : Tm) : chainT a voidT = voidT := by rw [chainT_eq]; simp
theorem chainT_eps_left (b : Tm) : chainT eps b = b := by cases b <;> rfl
theorem chainT_eps_right (a : Tm) : chainT a eps = a := by
  rw [chainT_eq]
  by_cases h : a = voidT
  · simp [h]
  · by_cases h2 : a = eps <;> simp [h, h2]

/-! words -/
inductive Star (P : List Int → Prop) : List Int → Prop where
  | nil : Star P []
  | more {u v : List Int} : P u → Star P v → Star P (u ++ v)
def wd : Tm → List Int → Prop
  | .set l, w => ∃ c, w = [c] ∧ inS l c = true
  | .eps, w => w = []
  | .chain a b, w => ∃ u v, w = u ++ v ∧ wd a u ∧ wd b v
  | .star a, w => Star (wd a) w
  | .not a, w => ¬ wd a w
  | .grp k a b, w => if k = true then wd a w ∧ wd b w else wd a w ∨ wd b w
def Syms (w : List Int) : Prop := ∀ c ∈ w, isSym c = true
theorem Syms.left {u v : List Int} (h : Syms (u ++ v)) : Syms u := fun c hc => h c (List.mem_append_left _ hc)
theorem Syms.right {u v : List Int} (h : Syms (u ++ v)) : Syms v := fun c hc => h c (List.mem_append_right _ hc)

theorem wd_none {w : List Int} : ¬ wd voidT w := by rintro ⟨c, _, h⟩; simp [inS] at h
theorem wd_whole {w : List Int} : wd whole w := wd_none
theorem wd_chainT : ∀ (a b : Tm) (w : List Int), wd (chainT a b) w ↔ ∃ u v, w = u ++ v ∧ wd a u ∧ wd b v
  | a, b, w => by
    rw [chainT_eq]
    by_cases h1 : a = voidT
    · subst h1
      rw [if_pos (.inl rfl)]
      exact ⟨fun h => absurd h wd_none, fun ⟨u, v, _, h, _⟩ => absurd h wd_none⟩
    by_cases h2 : b = voidT
    · subst h2
      rw [if_pos (.inr rfl)]
      exact ⟨fun h => absurd h wd_none, fun ⟨u, v, _, _, h⟩ => absurd h wd_none⟩
    rw [if_neg (by simp [h1, h2])]
    by_cases h3 : a = eps
    · subst h3
      rw [if_pos rfl]
      constructor
      · intro h; exact ⟨[], w, rfl, rfl, h⟩
      · rintro ⟨u, v, rfl, hu, hv⟩
        have hu' : u = [] := hu
        subst hu'; exact hv
    rw [if_neg h3]
    by_cases h4 : b = eps
    · subst h4
      rw [if_pos rfl]
      constructor
      · intro h; exact ⟨w, [], by simp, h, rfl⟩
      · rintro ⟨u, v, rfl, hu, hv⟩
        have hv' : v = [] := hv
        subst hv'; simpa using hu
    rw [if_neg h4]
    cases a with
    | chain x y =>
      show wd (chainT x (chainT y b)) w ↔ _
      rw [wd_chainT x]
      constructor
      · rintro ⟨u, v, rfl, hu, hv⟩
        obtain ⟨u2, v2, rfl, hu2, hv2⟩ := (wd_chainT y b v).1 hv
        exact ⟨u ++ u2, v2, by simp, ⟨u, u2, rfl, hu, hu2⟩, hv2⟩
      · rintro ⟨u, v, rfl, ⟨u1, u2, rfl, hu1, hu2⟩, hv⟩
        exact ⟨u1, u2 ++ v, by simp, hu1, (wd_chainT y b _).2 ⟨u2, v, rfl, hu2, hv⟩⟩
    | set l => exact Iff.rfl
    | eps => exact absurd rfl h3
    | star a => exact Iff.rfl
    | not a => exact Iff.rfl
    | grp k x y => exact Iff.rfl
  termination_by a => a
theorem Star.append {P : List Int → Prop} {u v : List Int} (h : Star P u) (k : Star P v) : Star P (u ++ v) := by
  induction h with
  | nil => exact k
  | more hp _ ih => rw [List.append_assoc]; exact .more hp ih
theorem Star.mono {P Q : List Int → Prop} (h : ∀ w, P w → Q w) {w : List Int} (s : Star P w) : Star Q w := by
  induction s with
  | nil => exact .nil
  | more hp _ ih => exact .more (h _ hp) ih
theorem Star.flat {P : List Int → Prop} {w : List Int} (s : Star (Star P) w) : Star P w := by
  induction s with
  | nil => exact .nil
  | more hp _ ih => exact hp.append ih
theorem wd_starT (a : Tm) (w : List Int) : wd (starT a) w ↔ Star (wd a) w := by
  unfold starT
  by_cases h : a = voidT ∨ a = eps
  · rw [if_pos h]
    constructor
    · intro hw
      have hw' : w = [] := hw
      subst hw'; exact .nil
    · intro hs
      show w = []
      induction hs with
      | nil => rfl
      | more hp _ ih =>
        rcases h with rfl | rfl
        · exact absurd hp wd_none
        · rw [show _ = [] from hp, ih]; rfl
  · rw [if_neg h]
    cases a with
    | star x =>
      constructor
      · intro hs; exact (show Star (wd (.star x)) w from by have := Star.more (P := wd (.star x)) (u := w) (v := []) hs .nil; simpa using this)
      · intro hs; exact hs.flat
    | set l => exact Iff.rfl
    | eps => exact Iff.rfl
    | chain x y => exact Iff.rfl
    | not a => exact Iff.rfl
    | grp k x y => exact Iff.rfl
theorem wd_notT (a : Tm) (w : List Int) : wd (notT a) w ↔ ¬ wd a w := by
  cases a with
  | not x => exact Classical.not_not.symm
  | set l => exact Iff.rfl
  | eps => exact Iff.rfl
  | chain x y => exact Iff.rfl
  | star a => exact Iff.rfl
  | grp k x y => exact Iff.rfl

/-- the words of members together. -/
def wdL (k : Bool) (l : List Tm) (w : List Int) : Prop := if k = true then ∀ t ∈ l, wd t w else ∃ t ∈ l, wd t w
theorem wdL_cons (k : Bool) (t : Tm) (l : List Tm) (w : List Int) : wdL k (t :: l) w ↔ if k = true then wd t w ∧ wdL k l w else wd t w ∨ wdL k l w := by
  cases k <;> simp [wdL]
theorem wdL_append (k : Bool) (l m : List Tm) (w : List Int) : wdL k (l ++ m) w ↔ if k = true then wdL k l w ∧ wdL k m w else wdL k l w ∨ wdL k m w := by
  cases k
  · simp only [wdL, Bool.false_eq_true, if_false, List.mem_append]
    constructor
    · rintro ⟨t, h | h, ht⟩
      · exact .inl ⟨t, h, ht⟩
      · exact .inr ⟨t, h, ht⟩
    · rintro (⟨t, h, ht⟩ | ⟨t, h, ht⟩)
      · exact ⟨t, .inl h, ht⟩
      · exact ⟨t, .inr h, ht⟩
  · simp only [wdL, if_true, List.mem_append]
    exact ⟨fun h => ⟨fun t ht => h t (.inl ht), fun t ht => h t (.inr ht)⟩, fun h t ht => ht.elim (h.1 t) (h.2 t)⟩
theorem wdL_ext {k : Bool} {l m : List Tm} (h : ∀ t, t ∈ l ↔ t ∈ m) (w : List Int) : wdL k l w ↔ wdL k m w := by
  cases k <;> simp [wdL, h]
theorem wd_mem (k : Bool) (w : List Int) : ∀ t : Tm, wd t w ↔ wdL k (memT k t) w
  | .set l => by cases k <;> simp [memT, wdL]
  | .eps => by cases k <;> simp [memT, wdL]
  | .chain a b => by cases k <;> simp [memT, wdL]
  | .star a => by cases k <;> simp [memT, wdL]
  | .not a => by cases k <;> simp [memT, wdL]
  | .grp k' a b => by
    have ih := wd_mem k w b
    rw [memT]
    by_cases h : k' = k
    · subst h
      rw [if_pos rfl, wdL_cons, ← ih]
      exact Iff.rfl
    · rw [if_neg h]
      cases k <;> simp [wdL]
theorem wd_joinT (k : Bool) (w : List Int) : ∀ l : List Tm, l ≠ [] → (wd (joinT k l) w ↔ wdL k l w)
  | [], h => absurd rfl h
  | [a], _ => by cases k <;> simp [joinT, wdL]
  | a :: b :: r, _ => by
    rw [show joinT k (a :: b :: r) = .grp k a (joinT k (b :: r)) from rfl, wdL_cons, ← wd_joinT k w (b :: r) (by simp)]
    exact Iff.rfl

/-- all sets in a term are tidy. -/
def OkT : Tm → Prop
  | .set l => Tidy l
  | .eps => True
  | .chain a b => OkT a ∧ OkT b
  | .star a => OkT a
  | .not a => OkT a
  | .grp _ a b => OkT a ∧ OkT b
theorem okNone : OkT voidT := trivial
theorem okWhole : OkT whole := trivial
theorem okChain : ∀ (a b : Tm), OkT a → OkT b → OkT (chainT a b)
  | a, b, ha, hb => by
    rw [chainT_eq]
    split
    · exact okNone
    split
    · exact hb
    split
    · exact ha
    cases a with
    | chain x y => exact okChain x _ ha.1 (okChain y b ha.2 hb)
    | set l => exact ⟨ha, hb⟩
    | eps => exact ⟨ha, hb⟩
    | star a => exact ⟨ha, hb⟩
    | not a => exact ⟨ha, hb⟩
    | grp k x y => exact ⟨ha, hb⟩
  termination_by a => a
theorem okStar {a : Tm} (h : OkT a) : OkT (starT a) := by
  unfold starT
  split
  · trivial
  · cases a <;> exact h
theorem okNot {a : Tm} (h : OkT a) : OkT (notT a) := by cases a <;> exact h
theorem okMem (k : Bool) : ∀ {t : Tm}, OkT t → ∀ m ∈ memT k t, OkT m
  | .set l, h => by simpa [memT] using h
  | .eps, h => by simpa [memT] using h
  | .chain a b, h => by simpa [memT] using h
  | .star a, h => by simpa [memT] using h
  | .not a, h => by simpa [memT] using h
  | .grp k' a b, h => by
    rw [memT]
    split
    · intro m hm
      rcases List.mem_cons.1 hm with rfl | hm
      · exact h.1
      · exact okMem k h.2 m hm
    · intro m hm; simp at hm; subst hm; exact h
theorem okJoin (k : Bool) : ∀ {l : List Tm}, (∀ t ∈ l, OkT t) → OkT (joinT k l)
  | [], _ => okNone
  | [a], h => h a (List.mem_cons_self ..)
  | a :: b :: r, h => ⟨h a (List.mem_cons_self ..), okJoin k (l := b :: r) fun t ht => h t (List.mem_cons_of_mem _ ht)⟩
theorem opS_tidy (k : Bool) {a b : Spans} (ha : Tidy a) (hb : Tidy b) : Tidy (opS k a b) := by
  unfold opS; split
  · exact capS_tidy ha.pos hb.pos
  · exact cupS_tidy ha.pos hb.pos
theorem foldl_tidy (k : Bool) : ∀ (r : List Spans) (s : Spans), Tidy s → (∀ x ∈ r, Tidy x) → Tidy (r.foldl (opS k) s)
  | [], _, h, _ => h
  | x :: r, s, h, hr => foldl_tidy k r (opS k s x) (opS_tidy k h (hr x (List.mem_cons_self ..))) fun y hy => hr y (List.mem_cons_of_mem _ hy)
theorem foldS_tidy {k : Bool} {l : List Spans} {s : Spans} (h : foldS k l = some s) (hl : ∀ x ∈ l, Tidy x) : Tidy s := by
  cases l with
  | nil => simp [foldS] at h
  | cons x r =>
    simp only [foldS, Option.some.injEq] at h
    subst h
    exact foldl_tidy k r x (hl x (List.mem_cons_self ..)) fun y hy => hl y (List.mem_cons_of_mem _ hy)
theorem mem_fold_with {t : Tm} : ∀ {l m : List Tm}, t ∈ l.foldl (fun l t => withB gtT t l) m ↔ t ∈ l ∨ t ∈ m
  | [], m => by simp
  | x :: l, m => by
    rw [List.foldl_cons, mem_fold_with, mem_withB]
    simp only [List.mem_cons]
    constructor
    · rintro (h | h | h) <;> simp [h]
    · rintro ((h | h) | h) <;> simp [h]
theorem mem_outs {f : List Tm} {t : Tm} : t ∈ outs f ↔ t ∈ f ∧ setOfT t = Option.none := by
  rw [outs, mem_fold_with, nonSets]; simp
theorem mem_sets {f : List Tm} {s : Spans} : s ∈ f.filterMap setOfT ↔ Tm.set s ∈ f := by
  rw [List.mem_filterMap]
  constructor
  · rintro ⟨t, ht, h⟩
    cases t <;> simp [setOfT] at h
    subst h; exact ht
  · intro h; exact ⟨_, h, rfl⟩
theorem mem_withSet {k : Bool} {f : List Tm} {t : Tm} : t ∈ withSet k f ↔ (t ∈ f ∧ setOfT t = Option.none) ∨ ∃ s, foldS k (f.filterMap setOfT) = some s ∧ t = .set s := by
  unfold withSet
  split
  · rename_i h; simp [mem_outs, h]
  · rename_i s h
    rw [mem_withB, mem_outs, h]
    constructor
    · rintro (rfl | h)
      · exact .inr ⟨s, rfl, rfl⟩
      · exact .inl h
    · rintro (h | ⟨s', h1, rfl⟩)
      · exact .inr h
      · cases h1; exact .inl rfl
theorem okEnd {k : Bool} {l : List Tm} (h : ∀ t ∈ l, OkT t) : OkT (endG k l) := by
  unfold endG
  split
  · cases k <;> trivial
  · split
    · cases k <;> trivial
    · rename_i m hm _
      refine okJoin k fun t ht => h t ?_
      exact (List.mem_filter.1 ht).1
theorem okGroup {k : Bool} {l : List Tm} (h : ∀ t ∈ l, OkT t) : OkT (groupT k l) := by
  have hf : ∀ t ∈ l.flatMap (memT k), OkT t := by
    intro t ht
    obtain ⟨x, hx, hm⟩ := List.mem_flatMap.1 ht
    exact okMem k (h x hx) t hm
  refine okEnd fun t ht => ?_
  rcases mem_withSet.1 ht with ⟨h1, _⟩ | ⟨s, h1, rfl⟩
  · exact hf t h1
  · exact foldS_tidy h1 fun x hx => hf _ (mem_sets.1 hx)
theorem okDer (c : Int) : ∀ {t : Tm}, OkT t → OkT (derT c t) ∧ ∀ k, ∀ m ∈ memT k t, OkT (derT c m)
  | .set l, _ => by
    have h0 : OkT (derT c (.set l)) := by rw [derT_set]; split <;> trivial
    exact ⟨h0, fun k m hm => by simp [memT] at hm; subst hm; exact h0⟩
  | .eps, _ => ⟨trivial, fun k m hm => by simp [memT] at hm; subst hm; trivial⟩
  | .chain a b, h => by
    have h0 : OkT (derT c (.chain a b)) := by
      have ha := okChain _ b (okDer c h.1).1 h.2
      rw [derT_chain]; split
      · refine okGroup fun t ht => ?_
        simp at ht
        rcases ht with rfl | rfl
        · exact ha
        · exact (okDer c h.2).1
      · exact ha
    exact ⟨h0, fun k m hm => by simp [memT] at hm; subst hm; exact h0⟩
  | .star a, h => by
    have h0 : OkT (derT c (.star a)) := okChain _ _ (okDer c (t := a) h).1 h
    exact ⟨h0, fun k m hm => by simp [memT] at hm; subst hm; exact h0⟩
  | .not a, h => by
    have h0 : OkT (derT c (.not a)) := okNot (okDer c (t := a) h).1
    exact ⟨h0, fun k m hm => by simp [memT] at hm; subst hm; exact h0⟩
  | .grp k' a b, h => by
    have ha := (okDer c h.1).1
    have hb := (okDer c h.2).2
    have hall : ∀ m ∈ memT k' (.grp k' a b), OkT (derT c m) := by
      intro m hm
      rw [memT, if_pos rfl] at hm
      rcases List.mem_cons.1 hm with rfl | hm
      · exact ha
      · exact hb k' m hm
    have h0 : OkT (derT c (.grp k' a b)) := by
      rw [derT_grp]
      refine okGroup fun t ht => ?_
      obtain ⟨m, hm, rfl⟩ := List.mem_map.1 ht
      exact hall m hm
    refine ⟨h0, fun k m hm => ?_⟩
    by_cases e : k' = k
    · subst e; exact hall m hm
    · rw [memT, if_neg e] at hm
      simp at hm; subst hm; exact h0

theorem wd_set_op (k : Bool) {a b : Spans} (ha : Tidy a) (hb : Tidy b) {w : List Int} (hw : Syms w) :
    wd (.set (opS k a b)) w ↔ if k = true then wd (.set a) w ∧ wd (.set b) w else wd (.set a) w ∨ wd (.set b) w := by
  cases k
  · simp only [opS, Bool.false_eq_true, if_false]
    constructor
    · rintro ⟨c, rfl, h⟩
      rw [cupS_in ha.pos hb.pos (hw c (by simp)), Bool.or_eq_true] at h
      exact h.imp (fun h => ⟨c, rfl, h⟩) (fun h => ⟨c, rfl, h⟩)
    · rintro (⟨c, rfl, h⟩ | ⟨c, rfl, h⟩)
      · exact ⟨c, rfl, by rw [cupS_in ha.pos hb.pos (hw c (by simp)), h]; rfl⟩
      · exact ⟨c, rfl, by rw [cupS_in ha.pos hb.pos (hw c (by simp)), h]; simp⟩
  · simp only [opS, if_true]
    constructor
    · rintro ⟨c, rfl, h⟩
      rw [capS_in ha.pos hb.pos (hw c (by simp)), Bool.and_eq_true] at h
      exact ⟨⟨c, rfl, h.1⟩, ⟨c, rfl, h.2⟩⟩
    · rintro ⟨⟨c, rfl, h⟩, ⟨d, hd, h2⟩⟩
      cases hd
      exact ⟨c, rfl, by rw [capS_in ha.pos hb.pos (hw c (by simp)), h, h2]; rfl⟩
theorem wd_foldl (k : Bool) {w : List Int} (hw : Syms w) : ∀ (r : List Spans) (s : Spans), Tidy s → (∀ x ∈ r, Tidy x) →
    (wd (.set (r.foldl (opS k) s)) w ↔ wdL k ((s :: r).map Tm.set) w)
  | [], s, _, _ => by cases k <;> simp [wdL]
  | x :: r, s, h, hr => by
    have hx := hr x (List.mem_cons_self ..)
    rw [List.foldl_cons, wd_foldl k hw r _ (opS_tidy k h hx) (fun y hy => hr y (List.mem_cons_of_mem _ hy)), List.map_cons, wdL_cons, wd_set_op k h hx hw, List.map_cons, List.map_cons, wdL_cons, wdL_cons]
    cases k
    · simp [or_assoc]
    · simp [and_assoc]
theorem wd_endG {k : Bool} {l : List Tm} {w : List Int} : wd (endG k l) w ↔ wdL k l w := by
  unfold endG
  by_cases hz : zeroT k ∈ l
  · rw [if_pos hz]
    cases k
    · exact ⟨fun _ => ⟨_, hz, wd_whole⟩, fun _ => wd_whole⟩
    · exact ⟨fun h => absurd h wd_none, fun h => absurd (h _ hz) wd_none⟩
  · rw [if_neg hz]
    have hfil : wdL k (l.filter (fun t => decide (t ≠ unitT k))) w ↔ wdL k l w := by
      cases k
      · simp only [wdL, Bool.false_eq_true, if_false, List.mem_filter]
        constructor
        · rintro ⟨t, ⟨h, _⟩, ht⟩; exact ⟨t, h, ht⟩
        · rintro ⟨t, h, ht⟩
          refine ⟨t, ⟨h, ?_⟩, ht⟩
          have : t ≠ unitT false := by rintro rfl; exact wd_none ht
          simpa using this
      · simp only [wdL, if_true, List.mem_filter]
        constructor
        · intro h t ht
          by_cases e : t = unitT true
          · rw [e]; exact wd_whole
          · exact h t ⟨ht, by simpa using e⟩
        · intro h t ht; exact h t ht.1
    split
    · rename_i he
      rw [← hfil, he]
      cases k
      · exact ⟨fun h => absurd h wd_none, fun ⟨_, h, _⟩ => by simp at h⟩
      · exact ⟨fun _ t h => by simp at h, fun _ => wd_whole⟩
    · rename_i hne
      rw [← hfil]
      exact wd_joinT k w _ hne
theorem wd_groupT {k : Bool} {l : List Tm} (hl : ∀ t ∈ l, OkT t) {w : List Int} (hw : Syms w) : wd (groupT k l) w ↔ wdL k l w := by
  rw [groupT, wd_endG]
  have hflat : wdL k (l.flatMap (memT k)) w ↔ wdL k l w := by
    clear hl
    induction l with
    | nil => simp
    | cons t l ih => rw [List.flatMap_cons, wdL_append, wdL_cons, ih, ← wd_mem]
  rw [← hflat]
  have hf : ∀ t ∈ l.flatMap (memT k), OkT t := by
    intro t ht
    obtain ⟨x, hx, hm⟩ := List.mem_flatMap.1 ht
    exact okMem k (hl x hx) t hm
  generalize hff : l.flatMap (memT k) = f at *
  clear hflat hff
  -- the sets together, the others
  cases hs : foldS k (f.filterMap setOfT) with
  | none =>
    have hno : f.filterMap setOfT = [] := by
      cases h : f.filterMap setOfT with
      | nil => rfl
      | cons s r => rw [h] at hs; simp [foldS] at hs
    refine wdL_ext (fun t => ?_) w
    rw [mem_withSet, hs]
    simp only [reduceCtorEq, false_and, exists_false, or_false]
    refine ⟨fun h => h.1, fun h => ⟨h, ?_⟩⟩
    cases ht : setOfT t with
    | none => rfl
    | some s =>
      cases t <;> simp [setOfT] at ht
      subst ht
      have := mem_sets.2 h
      rw [hno] at this
      simp at this
  | some s =>
    have hfold : wd (.set s) w ↔ wdL k ((f.filterMap setOfT).map Tm.set) w := by
      cases hq : f.filterMap setOfT with
      | nil => rw [hq] at hs; simp [foldS] at hs
      | cons x r =>
        rw [hq] at hs
        simp only [foldS, Option.some.injEq] at hs
        subst hs
        have hall : ∀ y ∈ x :: r, Tidy y := fun y hy => hf (.set y) (mem_sets.1 (hq ▸ hy))
        exact wd_foldl k hw r x (hall x (List.mem_cons_self ..)) fun y hy => hall y (List.mem_cons_of_mem _ hy)
    have e1 : wdL k (withSet k f) w ↔ wdL k (.set s :: outs f) w := by
      refine wdL_ext (fun t => ?_) w
      rw [mem_withSet, hs, List.mem_cons, mem_outs]
      constructor
      · rintro (h | ⟨s', h1, rfl⟩)
        · exact .inr h
        · cases h1; exact .inl rfl
      · rintro (rfl | h)
        · exact .inr ⟨s, rfl, rfl⟩
        · exact .inl h
    have e2 : wdL k f w ↔ wdL k ((f.filterMap setOfT).map Tm.set ++ outs f) w := by
      refine wdL_ext (fun t => ?_) w
      rw [List.mem_append, mem_outs, List.mem_map]
      constructor
      · intro h
        cases ht : setOfT t with
        | none => exact .inr ⟨h, rfl⟩
        | some s' =>
          cases t <;> simp [setOfT] at ht
          subst ht
          exact .inl ⟨_, mem_sets.2 h, rfl⟩
      · rintro (⟨x, hx, rfl⟩ | h)
        · exact mem_sets.1 hx
        · exact h.1
    rw [e1, e2, wdL_cons, wdL_append, hfold]

theorem wd_null : ∀ t : Tm, nullT t = true ↔ wd t []
  | .set l => by simp [nullT, wd]
  | .eps => by simp [nullT, wd]
  | .chain a b => by
    simp only [nullT, wd, Bool.and_eq_true, wd_null a, wd_null b]
    constructor
    · rintro ⟨h1, h2⟩; exact ⟨[], [], rfl, h1, h2⟩
    · rintro ⟨u, v, h, h1, h2⟩
      have := List.append_eq_nil_iff.1 h.symm
      rw [this.1] at h1; rw [this.2] at h2; exact ⟨h1, h2⟩
  | .star a => by simp only [nullT, wd, true_iff]; exact .nil
  | .not a => by simp [nullT, wd, ← wd_null a]
  | .grp k a b => by
    cases k
    · simp [nullT, wd, wd_null a, wd_null b]
    · simp [nullT, wd, wd_null a, wd_null b]
theorem star_cons {P : List Int → Prop} {c : Int} {w : List Int} : Star P (c :: w) ↔ ∃ u v, w = u ++ v ∧ P (c :: u) ∧ Star P v := by
  constructor
  · intro h
    generalize he : c :: w = z at h
    induction h with
    | nil => cases he
    | more hp hs ih =>
      rename_i u v
      cases u with
      | nil => exact ih (by simpa using he)
      | cons d u =>
        simp only [List.cons_append, List.cons.injEq] at he
        obtain ⟨rfl, rfl⟩ := he
        exact ⟨u, v, rfl, hp, hs⟩
  · rintro ⟨u, v, rfl, hp, hs⟩
    exact Star.more (u := c :: u) hp hs
/-- what a term becomes has the words that go on behind the symbol. -/
theorem wd_der {c : Int} (hc : isSym c = true) : ∀ {t : Tm}, OkT t → ∀ {w : List Int}, Syms w → ((wd (derT c t) w ↔ wd t (c :: w)) ∧ ∀ k, ∀ m ∈ memT k t, (wd (derT c m) w ↔ wd m (c :: w)))
  | .set l, _, w, _ => by
    have h0 : wd (derT c (.set l)) w ↔ wd (.set l) (c :: w) := by
      rw [derT_set]
      by_cases h : inS l c = true
      · rw [if_pos h]
        constructor
        · intro hw'
          have hw'' : w = [] := hw'
          subst hw''; exact ⟨c, rfl, h⟩
        · rintro ⟨d, hd, _⟩
          show w = []
          simp at hd; exact hd.2
      · rw [if_neg h]
        constructor
        · intro h2; exact absurd h2 wd_none
        · rintro ⟨d, hd, h2⟩
          simp at hd
          rw [hd.1] at h; exact absurd h2 h
    exact ⟨h0, fun k m hm => by simp [memT] at hm; subst hm; exact h0⟩
  | .eps, _, w, _ => by
    have h0 : wd (derT c eps) w ↔ wd eps (c :: w) := ⟨fun h => absurd h wd_none, fun h => by simp [wd] at h⟩
    exact ⟨h0, fun k m hm => by simp [memT] at hm; subst hm; exact h0⟩
  | .chain a b, h, w, hw => by
    have first : (∃ u v, w = u ++ v ∧ wd (derT c a) u ∧ wd b v) ↔ ∃ u v, w = u ++ v ∧ wd a (c :: u) ∧ wd b v := by
      constructor
      · rintro ⟨u, v, rfl, h1, h2⟩; exact ⟨u, v, rfl, (wd_der hc h.1 hw.left).1.1 h1, h2⟩
      · rintro ⟨u, v, rfl, h1, h2⟩; exact ⟨u, v, rfl, (wd_der hc h.1 hw.left).1.2 h1, h2⟩
    have split' : wd (.chain a b) (c :: w) ↔ (∃ u v, w = u ++ v ∧ wd a (c :: u) ∧ wd b v) ∨ (wd a [] ∧ wd b (c :: w)) := by
      constructor
      · rintro ⟨u, v, he, h1, h2⟩
        cases u with
        | nil => simp at he; subst he; exact .inr ⟨h1, h2⟩
        | cons d u =>
          simp only [List.cons_append, List.cons.injEq] at he
          obtain ⟨rfl, rfl⟩ := he
          exact .inl ⟨u, v, rfl, h1, h2⟩
      · rintro (⟨u, v, rfl, h1, h2⟩ | ⟨h1, h2⟩)
        · exact ⟨c :: u, v, rfl, h1, h2⟩
        · exact ⟨[], c :: w, rfl, h1, h2⟩
    have h0 : wd (derT c (.chain a b)) w ↔ wd (.chain a b) (c :: w) := by
      rw [derT_chain, split']
      by_cases hn : nullT a = true
      · rw [if_pos hn, wd_groupT (by
          intro t ht
          simp at ht
          rcases ht with rfl | rfl
          · exact okChain _ b (okDer c h.1).1 h.2
          · exact (okDer c h.2).1) hw]
        simp only [wdL, Bool.false_eq_true, if_false, List.mem_cons, List.not_mem_nil, or_false, exists_eq_or_imp, exists_eq_left]
        rw [wd_chainT, first, (wd_der hc h.2 hw).1]
        simp [(wd_null a).1 hn]
      · rw [if_neg hn, wd_chainT, first]
        have : ¬ wd a [] := fun h => hn ((wd_null a).2 h)
        simp [this]
    exact ⟨h0, fun k m hm => by simp [memT] at hm; subst hm; exact h0⟩
  | .star a, h, w, hw => by
    have h0 : wd (derT c (.star a)) w ↔ wd (.star a) (c :: w) := by
      rw [derT_star, wd_chainT]
      show _ ↔ Star (wd a) (c :: w)
      rw [star_cons]
      constructor
      · rintro ⟨u, v, rfl, h1, h2⟩; exact ⟨u, v, rfl, (wd_der hc (t := a) h hw.left).1.1 h1, h2⟩
      · rintro ⟨u, v, rfl, h1, h2⟩; exact ⟨u, v, rfl, (wd_der hc (t := a) h hw.left).1.2 h1, h2⟩
    exact ⟨h0, fun k m hm => by simp [memT] at hm; subst hm; exact h0⟩
  | .not a, h, w, hw => by
    have h0 : wd (derT c (.not a)) w ↔ wd (.not a) (c :: w) := by
      rw [derT_not, wd_notT, (wd_der hc (t := a) h hw).1]; exact Iff.rfl
    exact ⟨h0, fun k m hm => by simp [memT] at hm; subst hm; exact h0⟩
  | .grp k' a b, h, w, hw => by
    have ha := (wd_der hc h.1 hw).1
    have hb := (wd_der hc h.2 hw).2
    have hall : ∀ m ∈ memT k' (.grp k' a b), (wd (derT c m) w ↔ wd m (c :: w)) := by
      intro m hm
      rw [memT, if_pos rfl] at hm
      rcases List.mem_cons.1 hm with rfl | hm
      · exact ha
      · exact hb k' m hm
    have h0 : wd (derT c (.grp k' a b)) w ↔ wd (.grp k' a b) (c :: w) := by
      rw [derT_grp, wd_groupT (by
        intro t ht
        obtain ⟨m, hm, rfl⟩ := List.mem_map.1 ht
        exact (okDer c (t := .grp k' a b) h).2 k' m hm) hw, wd_mem k' (c :: w) (.grp k' a b)]
      generalize memT k' (.grp k' a b) = l at hall
      cases k'
      · simp only [wdL, Bool.false_eq_true, if_false, List.mem_map]
        constructor
        · rintro ⟨t, ⟨m, hm, rfl⟩, ht⟩; exact ⟨m, hm, (hall m hm).1 ht⟩
        · rintro ⟨m, hm, ht⟩; exact ⟨_, ⟨m, hm, rfl⟩, (hall m hm).2 ht⟩
      · simp only [wdL, if_true, List.mem_map]
        constructor
        · intro hh m hm; exact (hall m hm).1 (hh _ ⟨m, hm, rfl⟩)
        · rintro hh t ⟨m, hm, rfl⟩; exact (hall m hm).2 (hh m hm)
    refine ⟨h0, fun k m hm => ?_⟩
    by_cases e : k' = k
    · subst e; exact hall m hm
    · rw [memT, if_neg e] at hm
      simp at hm; subst hm; exact h0

/-- by symbols, one after the other. -/
def ders (t : Tm) (w : List Int) : Tm := w.foldl (fun t c => derT c t) t
theorem okDers : ∀ (w : List Int) {t : Tm}, OkT t → OkT (ders t w)
  | [], _, h => h
  | c :: w, t, h => okDers w (t := derT c t) (okDer c h).1
theorem wd_ders : ∀ (w : List Int) {t : Tm}, OkT t → Syms w → (nullT (ders t w) = true ↔ wd t w)
  | [], t, _, _ => wd_null t
  | c :: w, t, h, hw => by
    have hc := hw c (List.mem_cons_self ..)
    have hw' : Syms w := fun d hd => hw d (List.mem_cons_of_mem _ hd)
    show nullT (ders (derT c t) w) = true ↔ _
    rw [wd_ders w (okDer c h).1 hw', (wd_der hc h hw').1]
end Go.Proofs.YtfolanohokflkabGreatDoor
