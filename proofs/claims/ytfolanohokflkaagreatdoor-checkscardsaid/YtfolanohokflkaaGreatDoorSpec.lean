import Derived.Test.YtfolanohokflkaaGreatDoorPure
/-
  The symbols of a text, as the model's decoder has them: no program, no kit.
-/
namespace Go.Proofs.YtfolanohokflkaaGreatDoor

/-- a symbol, the byte at which it begins, the byte at which the next one does. -/
structure Sy where
  c : Nat
  fr : Nat
  to : Nat

def symsGo (s : ByteArray) : Nat → Nat → List Sy
  | 0, _ => []
  | f + 1, p => if p < s.size then ⟨(Utf8.decode s p).1, p, p + (Utf8.decode s p).2⟩ :: symsGo s f (p + (Utf8.decode s p).2) else []
/-- the symbols from a byte on. -/
def symsFrom (s : ByteArray) (p : Nat) : List Sy := symsGo s (s.size - p) p

theorem decode_width (s : ByteArray) (i : Nat) (hi : i < s.size) : 1 ≤ (Utf8.decode s i).2 ∧ i + (Utf8.decode s i).2 ≤ s.size := by
  unfold Utf8.decode
  simp only [Nat.add_zero, Bool.and_eq_true, beq_iff_eq, decide_eq_true_eq, ge_iff_le]
  repeat' split
  all_goals simp only []
  all_goals omega

theorem decode_code (s : ByteArray) (i : Nat) : (Utf8.decode s i).1 ≤ 1114111 := by
  have g0 := (s.get! i).toNat_lt
  have g1 := (s.get! (i + 1)).toNat_lt
  have g2 := (s.get! (i + 2)).toNat_lt
  have g3 := (s.get! (i + 3)).toNat_lt
  unfold Utf8.decode
  simp only [Utf8.valid, Utf8.runeError, Nat.add_zero, Bool.and_eq_true, Bool.or_eq_true, beq_iff_eq, decide_eq_true_eq, ge_iff_le]
  repeat' split
  all_goals simp only []
  all_goals omega

theorem symsGo_more (s : ByteArray) : ∀ (f g p : Nat), s.size - p ≤ f → s.size - p ≤ g → symsGo s f p = symsGo s g p := by
  intro f
  induction f with
  | zero =>
    intro g p h1 h2
    cases g with
    | zero => rfl
    | succ g => rw [symsGo, symsGo, if_neg (by omega)]
  | succ f ih =>
    intro g p h1 h2
    cases g with
    | zero => rw [symsGo, symsGo, if_neg (by omega)]
    | succ g =>
      rw [symsGo, symsGo]
      by_cases h : p < s.size
      · have := decode_width s p h
        rw [if_pos h, if_pos h, ih g _ (by omega) (by omega)]
      · rw [if_neg h, if_neg h]

theorem symsFrom_cons (s : ByteArray) (p : Nat) (h : p < s.size) :
    symsFrom s p = ⟨(Utf8.decode s p).1, p, p + (Utf8.decode s p).2⟩ :: symsFrom s (p + (Utf8.decode s p).2) := by
  have := decode_width s p h
  unfold symsFrom
  rw [show s.size - p = (s.size - p - 1) + 1 from by omega, symsGo, if_pos h]
  rw [symsGo_more s (s.size - p - 1) (s.size - (p + (Utf8.decode s p).2)) _ (by omega) (by omega)]
theorem symsFrom_nil (s : ByteArray) (p : Nat) (h : s.size ≤ p) : symsFrom s p = [] := by
  unfold symsFrom; rw [show s.size - p = 0 from by omega]; rfl

theorem symsGo_len (s : ByteArray) : ∀ (f p : Nat), (symsGo s f p).length ≤ f := by
  intro f
  induction f with
  | zero => intro p; exact Nat.le_refl _
  | succ f ih =>
    intro p
    rw [symsGo]
    split
    · simpa using ih _
    · simp
theorem symsFrom_len (s : ByteArray) (p : Nat) : (symsFrom s p).length ≤ s.size - p := symsGo_len s _ p

end Go.Proofs.YtfolanohokflkaaGreatDoor

/-
  What both readers of patterns answer, as plain functions on the symbols that are left: no program, no kit.
  A result: the error and its place, or what was read and what is left.
-/
namespace Go.Proofs.YtfolanohokflkaaGreatDoor

abbrev Res (a : Type) := Except (Int × Int) (a × List Sy)

/-- the place of what stands next. -/
def plc (n : Nat) : List Sy → Int
  | [] => n
  | x :: _ => x.fr
def hd : List Sy → Int
  | [] => -1
  | x :: _ => x.c

def bad {a : Type} (e : Int) (n : Nat) (l : List Sy) : Res a := .error (e, plc n l)

def isDig (c : Int) : Bool := decide (48 ≤ c ∧ c ≤ 57)
/-- a number of a repeat: its value and what is left; whether it is in range is asked apart. -/
def numV (l : List Sy) : Int × List Sy :=
  if 0 < hd l - 48 ∧ isDig (hd l.tail) = true then (10 * (hd l - 48) + (hd l.tail - 48), l.tail.tail) else (hd l - 48, l.tail)
def numberS (n : Nat) (least : Int) (l : List Sy) : Res Int :=
  if isDig (hd l) = true then (if (numV l).1 < least ∨ 12 < (numV l).1 then bad 3 n (numV l).2 else .ok (numV l)) else bad 2 n l

def pos1 (m : Int) : Int := if m = 0 then 1 else m
/-- a closing brace. -/
def closeS (n : Nat) (m : Int) (l : List Sy) : Res Int := if hd l = 125 then .ok (m, l.tail) else bad 2 n l
def boundsS (n : Nat) (l : List Sy) : Res Int :=
  match numberS n 0 l with
  | .error x => .error x
  | .ok (a, l1) =>
    if hd l1 = 44 then
      (if hd l1.tail = 125 then .ok (a + 1, l1.tail.tail)
       else match numberS n a l1.tail with
         | .error x => .error x
         | .ok (m, l2) => closeS n (pos1 m) l2)
    else closeS n (pos1 a) l1
def isRep (c : Int) : Bool := decide (c = 42 ∨ c = 43 ∨ c = 63 ∨ c = 123)
def repeatS (n : Nat) (l : List Sy) : Res Int := if hd l = 123 then boundsS n l.tail else .ok (2, l.tail)

def hexv (c : Int) : Int := if 48 ≤ c ∧ c ≤ 57 then c - 48 else if 97 ≤ c ∧ c ≤ 102 then c - 87 else -1
/-- up to so many digits: the number, how many there were, what is left. -/
def hexS : Nat → Int → Nat → List Sy → Int × Nat × List Sy
  | 0, v, k, l => (v, k, l)
  | f + 1, v, k, l => if 0 ≤ hexv (hd l) then hexS f (16 * v + hexv (hd l)) (k + 1) l.tail else (v, k, l)
def codeEnd (n : Nat) (x : Int × Nat × List Sy) : Res Int :=
  if x.2.1 = 0 ∨ ¬ hd x.2.2 = 125 then bad 2 n x.2.2 else if isSym x.1 = true then .ok (x.1, x.2.2.tail) else bad 3 n x.2.2
/-- behind the u. -/
def codeS (n : Nat) (l : List Sy) : Res Int := if hd l = 123 then codeEnd n (hexS 6 0 0 l.tail) else bad 2 n l
def isMark (c : Int) : Bool := [124, 38, 126, 42, 43, 63, 123, 125, 91, 93, 40, 41, 46, 92].contains c
def isEsc (c : Int) : Bool := isMark c || [94, 45].contains c
/-- behind the backslash, one symbol. -/
def escapeS (n : Nat) (l : List Sy) : Res Int :=
  if hd l = 117 then codeS n l.tail else if hd l = 110 then .ok (10, l.tail) else if isEsc (hd l) = true then .ok (hd l, l.tail) else bad 2 n l
/-- a backslash and d or w. -/
def isSet (l : List Sy) : Bool := decide (hd l = 92 ∧ (hd l.tail = 100 ∨ hd l.tail = 119))
def limitS (n : Nat) (l : List Sy) : Res Int :=
  if hd l = 92 then escapeS n l.tail else if hd l < 0 ∨ hd l = 93 ∨ hd l = 45 then bad 2 n l else .ok (hd l, l.tail)
def partS (n : Nat) (l : List Sy) : Res Unit :=
  if isSet l = true then .ok ((), l.tail.tail)
  else match limitS n l with
    | .error x => .error x
    | .ok (a, l1) =>
      if hd l1 = 45 then (match limitS n l1.tail with
        | .error x => .error x
        | .ok (b, l2) => if b < a then bad 3 n l2 else .ok ((), l2))
      else .ok ((), l1)
def classLoopS (n : Nat) : Nat → List Sy → Res Unit
  | 0, l => bad 2 n l
  | f + 1, l => if hd l = 93 then .ok ((), l.tail) else match partS n l with
    | .error x => .error x
    | .ok (_, l1) => classLoopS n f l1
/-- behind the bracket. -/
def classS (n : Nat) (l : List Sy) : Res Unit :=
  if hd l = 94 then classLoopS n (l.length + 1) l.tail else classLoopS n (l.length + 1) l
/-- an atom that is no group. -/
def leafS (n : Nat) (l : List Sy) : Res Int :=
  if hd l = 91 then (match classS n l.tail with
    | .error x => .error x
    | .ok (_, l1) => .ok (1, l1))
  else if hd l = 92 then
    (if isSet l = true then .ok (1, l.tail.tail) else match escapeS n l.tail with
      | .error x => .error x
      | .ok (_, l1) => .ok (1, l1))
  else if hd l = 46 then .ok (1, l.tail)
  else if hd l < 0 ∨ isMark (hd l) = true then bad 2 n l
  else .ok (1, l.tail)

def repsS (n : Nat) : Nat → Int → List Sy → Res Int
  | 0, _, l => bad 2 n l
  | f + 1, z, l => if isRep (hd l) = true then (match repeatS n l with
      | .error x => .error x
      | .ok (m, l1) => repsS n f (cap61 (z * m)) l1)
    else .ok (z, l)
def itemS (n : Nat) (atom : List Sy → Res Int) : Nat → List Sy → Res Int
  | 0, l => bad 2 n l
  | f + 1, l => if hd l = 126 then (match itemS n atom f l.tail with
      | .error x => .error x
      | .ok (z, l1) => .ok (cap61 (z + 1), l1))
    else match atom l with
      | .error x => .error x
      | .ok (z, l1) => repsS n (l1.length + 1) z l1
def rowEnd (c : Int) : Bool := decide (c < 0 ∨ c = 124 ∨ c = 38 ∨ c = 41)
def rowLoopS (n : Nat) (atom : List Sy → Res Int) : Nat → Int → List Sy → Res Int
  | 0, _, l => bad 2 n l
  | f + 1, z, l => if rowEnd (hd l) = true then .ok (z, l) else match itemS n atom (l.length + 1) l with
    | .error x => .error x
    | .ok (y, l1) => rowLoopS n atom f (cap61 (z + 1 + y)) l1
def rowS (n : Nat) (atom : List Sy → Res Int) (l : List Sy) : Res Int :=
  if rowEnd (hd l) = true then .ok (1, l) else match itemS n atom (l.length + 1) l with
    | .error x => .error x
    | .ok (y, l1) => rowLoopS n atom (l1.length + 1) y l1
/-- parts with a sign between them. -/
def sepLoopS (n : Nat) (sub : List Sy → Res Int) (sign : Int) : Nat → Int → List Sy → Res Int
  | 0, _, l => bad 2 n l
  | f + 1, z, l => if hd l = sign then (match sub l.tail with
      | .error x => .error x
      | .ok (y, l1) => sepLoopS n sub sign f (cap61 (z + 1 + y)) l1)
    else .ok (z, l)
def sepS (n : Nat) (sub : List Sy → Res Int) (sign : Int) (l : List Sy) : Res Int :=
  match sub l with
  | .error x => .error x
  | .ok (y, l1) => sepLoopS n sub sign (l1.length + 1) y l1
def bothS (n : Nat) (atom : List Sy → Res Int) : List Sy → Res Int := sepS n (rowS n atom) 38
def choiceS (n : Nat) (atom : List Sy → Res Int) : List Sy → Res Int := sepS n (bothS n atom) 124
/-- an atom, where so many groups more may be opened. -/
def atomS (n : Nat) : Nat → List Sy → Res Int
  | 0, l => if hd l = 40 then bad 4 n l else leafS n l
  | k + 1, l => if hd l = 40 then (match choiceS n (atomS n k) l.tail with
      | .error x => .error x
      | .ok (z, l1) => if hd l1 = 41 then .ok (z, l1.tail) else bad 2 n l1)
    else leafS n l
/-- what Check answers. -/
def checkEnd (n : Nat) : Res Int → Int × Int
  | .error x => x
  | .ok (z, l) => if hd l < 0 then (if 60 < z then (5, 0) else (0, 0)) else (2, plc n l)
def checkS (s : ByteArray) : Int × Int := if 60 < s.size then (1, 0) else checkEnd s.size (choiceS s.size (atomS s.size 8) (symsFrom s 0))
end Go.Proofs.YtfolanohokflkaaGreatDoor
