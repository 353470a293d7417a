import Derived.Test.YtfolanohokflkaaGreatDoorSpec
import Derived.Test.YtfolanohokflkaaGreatDoorPatA
/-
  What both readers of patterns make of one: a tree and its size; plain functions on the symbols that are left: no program, no kit.
-/
namespace Go.Proofs.YtfolanohokflkaaGreatDoor

abbrev Pn := Pt × Int
abbrev Often := Nat × Option Nat × Int
def closeP (n : Nat) (m : Often) (l : List Sy) : Res Often := if hd l = 125 then .ok (m, l.tail) else bad 2 n l
def boundsP (n : Nat) (l : List Sy) : Res Often :=
  match numberS n 0 l with
  | .error x => .error x
  | .ok (a, l1) =>
    if hd l1 = 44 then
      (if hd l1.tail = 125 then .ok ((a.toNat, none, a + 1), l1.tail.tail)
       else match numberS n a l1.tail with
         | .error x => .error x
         | .ok (m, l2) => closeP n (a.toNat, some m.toNat, pos1 m) l2)
    else closeP n (a.toNat, some a.toNat, pos1 a) l1
def repeatP (n : Nat) (l : List Sy) : Res Often :=
  if hd l = 123 then boundsP n l.tail
  else if hd l = 42 then .ok ((0, none, 2), l.tail)
  else if hd l = 43 then .ok ((1, none, 2), l.tail)
  else .ok ((0, some 1, 2), l.tail)
def digitsL : Spans := [(48, 57)]
def lettersL : Spans := [(48, 57), (65, 90), (95, 95), (97, 122)]
def setEsc (l : List Sy) : Spans := if hd l.tail = 100 then digitsL else lettersL
def partP (n : Nat) (l : List Sy) : Res Spans :=
  if isSet l = true then .ok (setEsc l, l.tail.tail)
  else match limitS n l with
    | .error x => .error x
    | .ok (a, l1) =>
      if hd l1 = 45 then (match limitS n l1.tail with
        | .error x => .error x
        | .ok (b, l2) => if b < a then bad 3 n l2 else .ok ([(a, b)], l2))
      else .ok ([(a, a)], l1)
def classLoopP (n : Nat) : Nat → Spans → List Sy → Res Spans
  | 0, _, l => bad 2 n l
  | f + 1, s, l => if hd l = 93 then .ok (s, l.tail) else match partP n l with
    | .error x => .error x
    | .ok (p, l1) => classLoopP n f (cupS s p) l1
def turnR : Res Spans → Res Spans
  | .error x => .error x
  | .ok (s, l) => .ok (othS s, l)
/-- behind the bracket. -/
def classP (n : Nat) (l : List Sy) : Res Spans :=
  if hd l = 94 then turnR (classLoopP n (l.length + 1) [] l.tail) else classLoopP n (l.length + 1) [] l
def everyL : Spans := othS []
def oneR : Res Int → Res Spans
  | .error x => .error x
  | .ok (c, l) => .ok ([(c, c)], l)
/-- an atom that is no group: its symbols. -/
def leafP (n : Nat) (l : List Sy) : Res Spans :=
  if hd l = 91 then classP n l.tail
  else if hd l = 92 then (if isSet l = true then .ok (setEsc l, l.tail.tail) else oneR (escapeS n l.tail))
  else if hd l = 46 then .ok (everyL, l.tail)
  else if hd l < 0 ∨ isMark (hd l) = true then bad 2 n l
  else .ok ([(hd l, hd l)], l.tail)
def nodeR : Res Spans → Res Pn
  | .error x => .error x
  | .ok (s, l) => .ok ((.set s, 1), l)
def repN (p : Pn) (o : Often) : Pn := (.rep p.1 o.1 o.2.1, cap61 (p.2 * o.2.2))
def notN (p : Pn) : Pn := (.not p.1, cap61 (p.2 + 1))
def repsP (n : Nat) : Nat → Pn → List Sy → Res Pn
  | 0, _, l => bad 2 n l
  | f + 1, z, l => if isRep (hd l) = true then (match repeatP n l with
      | .error x => .error x
      | .ok (m, l1) => repsP n f (repN z m) l1)
    else .ok (z, l)
def itemP (n : Nat) (atom : List Sy → Res Pn) : Nat → List Sy → Res Pn
  | 0, l => bad 2 n l
  | f + 1, l => if hd l = 126 then (match itemP n atom f l.tail with
      | .error x => .error x
      | .ok (z, l1) => .ok (notN z, l1))
    else match atom l with
      | .error x => .error x
      | .ok (z, l1) => repsP n (l1.length + 1) z l1
/-- the size of parts together. -/
def sumZ : List Pn → Int
  | [] => 0
  | p :: r => p.2 + sumZ r
/-- parts of a kind; of one that one. -/
def mkRow (l : List Pn) : Pn := match l with
  | [p] => p
  | l => (.row (l.map Prod.fst), if l.length = 0 then 1 else min (((l.length : Int) - 1) + sumZ l) 61)
def mkGrp (k : Bool) (l : List Pn) : Pn := match l with
  | [p] => p
  | l => (.grp k (l.map Prod.fst), min (((l.length : Int) - 1) + sumZ l) 61)
/-- the items of a row, behind some. -/
def rowLoopP (n : Nat) (atom : List Sy → Res Pn) : Nat → List Pn → List Sy → Res (List Pn)
  | 0, _, l => bad 2 n l
  | f + 1, z, l => if rowEnd (hd l) = true then .ok (z, l) else match itemP n atom (l.length + 1) l with
    | .error x => .error x
    | .ok (y, l1) => rowLoopP n atom f (z ++ [y]) l1
def mapR {a b : Type} (g : a → b) : Res a → Res b
  | .error x => .error x
  | .ok (v, l) => .ok (g v, l)
def rowP (n : Nat) (atom : List Sy → Res Pn) (l : List Sy) : Res Pn :=
  if rowEnd (hd l) = true then .ok (mkRow [], l) else match itemP n atom (l.length + 1) l with
    | .error x => .error x
    | .ok (y, l1) => mapR mkRow (rowLoopP n atom (l1.length + 1) [y] l1)
/-- parts with a sign between them, behind some. -/
def sepLoopP (n : Nat) (sub : List Sy → Res Pn) (sign : Int) : Nat → List Pn → List Sy → Res (List Pn)
  | 0, _, l => bad 2 n l
  | f + 1, z, l => if hd l = sign then (match sub l.tail with
      | .error x => .error x
      | .ok (y, l1) => sepLoopP n sub sign f (z ++ [y]) l1)
    else .ok (z, l)
def sepP (n : Nat) (sub : List Sy → Res Pn) (sign : Int) (g : List Pn → Pn) (l : List Sy) : Res Pn :=
  match sub l with
  | .error x => .error x
  | .ok (y, l1) => mapR g (sepLoopP n sub sign (l1.length + 1) [y] l1)
def bothP (n : Nat) (atom : List Sy → Res Pn) : List Sy → Res Pn := sepP n (rowP n atom) 38 (mkGrp true)
def choiceP (n : Nat) (atom : List Sy → Res Pn) : List Sy → Res Pn := sepP n (bothP n atom) 124 (mkGrp false)
def grpP (n : Nat) : Res Pn → Res Pn
  | .error x => .error x
  | .ok (z, l) => if hd l = 41 then .ok (z, l.tail) else bad 2 n l
/-- an atom, where so many groups more may be opened. -/
def atomP (n : Nat) : Nat → List Sy → Res Pn
  | 0, l => if hd l = 40 then bad 4 n l else nodeR (leafP n l)
  | k + 1, l => if hd l = 40 then grpP n (choiceP n (atomP n k) l.tail) else nodeR (leafP n l)
def parseEnd (n : Nat) : Res Pn → Except (Int × Int) Pt
  | .error x => .error x
  | .ok (z, l) => if hd l < 0 then (if 60 < z.2 then .error (5, 0) else .ok z.1) else .error (2, plc n l)
/-- a pattern's tree, or the error and its place. -/
def parseS (s : ByteArray) : Except (Int × Int) Pt := if 60 < s.size then .error (1, 0) else parseEnd s.size (choiceP s.size (atomP s.size 8) (symsFrom s 0))
def errOf : Except (Int × Int) Pt → Int × Int
  | .error x => x
  | .ok _ => (0, 0)

/-! what Match and the others answer -/
def symsOf (s : ByteArray) : List Int := (symsFrom s 0).map fun x => (x.c : Int)
/-- the pattern's tree, or the error that all calls in a text have. -/
def askS (p t : ByteArray) (b : Int) : Except Int Pt :=
  if 60 < p.size ∨ 60 < t.size then .error 1
  else match parseS p with
    | .error x => .error x.1
    | .ok q => if b < 0 ∨ 200 < b then .error 6 else .ok q
def matchS (p t : ByteArray) (b : Int) : Bool × Int :=
  match askS p t b with
  | .error e => (false, e)
  | .ok q => if b < ((metT [] (runT (tmP q) (symsOf t))).length : Int) then (false, 7) else (nullT (ders (tmP q) (symsOf t)), 0)

/-! the sets of what is read are tidy -/
theorem decode_sym (s : ByteArray) (i : Nat) : isSym ((Utf8.decode s i).1 : Int) = true := by
  have h := oneFn_decode s i
  have e : ((Utf8.decode s i).1 : Int) = (oneFn s i).1 := by rw [h]
  rw [e]
  have hend : ∀ (size : Nat) (least : Int) (o : Option Int), isSym (oneEnd size least o).1 = true := by
    intro size least o
    cases o with
    | none => rfl
    | some n =>
      rw [oneEnd]
      split
      · rfl
      · split
        · assumption
        · rfl
  unfold oneFn
  simp only []
  have g0 := (s.get! i).toNat_lt
  split
  · rw [isSym_iff]; simp only []; omega
  · repeat' split
    all_goals first | exact hend _ _ _ | rfl
def AllSym (l : List Sy) : Prop := ∀ x ∈ l, isSym (x.c : Int) = true
theorem AllSym.tail {l : List Sy} (h : AllSym l) : AllSym l.tail := fun x hx => h x (List.mem_of_mem_tail hx)
theorem AllSym.hd {l : List Sy} (h : AllSym l) (h0 : ¬ hd l < 0) : isSym (hd l) = true := by
  cases l with
  | nil => exact absurd (by decide) h0
  | cons x r => exact h x (List.mem_cons_self ..)
theorem symsGo_sym (s : ByteArray) : ∀ (f p : Nat), AllSym (symsGo s f p)
  | 0, _ => by intro x hx; simp [symsGo] at hx
  | f + 1, p => by
    rw [symsGo]
    split
    · intro x hx
      rcases List.mem_cons.1 hx with rfl | hx
      · exact decode_sym s p
      · exact symsGo_sym s f _ x hx
    · intro x hx; simp at hx
theorem symsFrom_sym (s : ByteArray) (p : Nat) : AllSym (symsFrom s p) := symsGo_sym s _ p
theorem symsOf_syms (s : ByteArray) : Syms (symsOf s) := by
  intro c hc
  obtain ⟨x, hx, rfl⟩ := List.mem_map.1 hc
  exact symsFrom_sym s 0 x hx
def Good {a : Type} (P : a → Prop) (r : Res a) : Prop := ∀ v l, r = .ok (v, l) → P v ∧ AllSym l
theorem Good.bad {a : Type} {P : a → Prop} {e : Int} {n : Nat} {l : List Sy} : Good P (bad e n l) := fun _ _ h => by simp [Go.Proofs.YtfolanohokflkaaGreatDoor.bad] at h
theorem Good.err {a : Type} {P : a → Prop} {x : Int × Int} : Good P (.error x : Res a) := fun _ _ h => by cases h
theorem Good.ok {a : Type} {P : a → Prop} {v : a} {l : List Sy} (h : P v) (hl : AllSym l) : Good P (.ok (v, l)) := fun _ _ e => by cases e; exact ⟨h, hl⟩
theorem Good.map {a b : Type} {P : a → Prop} {Q : b → Prop} {g : a → b} {r : Res a} (h : Good P r) (hg : ∀ v, P v → Q (g v)) : Good Q (mapR g r) := by
  cases r with
  | error x => exact Good.err
  | ok y =>
    obtain ⟨v, l⟩ := y
    have := h v l rfl
    exact Good.ok (hg v this.1) this.2
theorem good_number {n : Nat} {least : Int} {l : List Sy} (h : AllSym l) : Good (fun _ => True) (numberS n least l) := by
  unfold numberS
  split
  · split
    · exact Good.bad
    · intro v l' e
      refine ⟨trivial, ?_⟩
      simp only [Except.ok.injEq] at e
      have e2 : (numV l).2 = l' := by rw [e]
      rw [← e2]
      unfold numV
      split
      · exact h.tail.tail
      · exact h.tail
  · exact Good.bad
theorem good_close {n : Nat} {m : Often} {l : List Sy} (h : AllSym l) : Good (fun _ => True) (closeP n m l) := by
  unfold closeP; split
  · exact Good.ok trivial h.tail
  · exact Good.bad
theorem good_bounds {n : Nat} {l : List Sy} (h : AllSym l) : Good (fun _ => True) (boundsP n l) := by
  unfold boundsP
  have g := good_number (n := n) (least := 0) h
  split
  · exact Good.err
  · rename_i a l1 e
    have h1 := (g _ _ e).2
    split
    · split
      · exact Good.ok trivial h1.tail.tail
      · have g2 := good_number (n := n) (least := a) h1.tail
        split
        · exact Good.err
        · rename_i m l2 e2
          exact good_close (g2 _ _ e2).2
    · exact good_close h1
theorem good_repeat {n : Nat} {l : List Sy} (h : AllSym l) : Good (fun _ => True) (repeatP n l) := by
  unfold repeatP
  split
  · exact good_bounds h.tail
  · split
    · exact Good.ok trivial h.tail
    · split
      · exact Good.ok trivial h.tail
      · exact Good.ok trivial h.tail
abbrev SymV (c : Int) : Prop := isSym c = true
theorem good_hex : ∀ (f : Nat) (v : Int) (k : Nat) {l : List Sy}, AllSym l → AllSym (hexS f v k l).2.2
  | 0, _, _, _, h => h
  | f + 1, v, k, l, h => by
    rw [hexS]; split
    · exact good_hex f _ _ h.tail
    · exact h
theorem good_code {n : Nat} {l : List Sy} (h : AllSym l) : Good SymV (codeS n l) := by
  unfold codeS
  split
  · unfold codeEnd
    split
    · exact Good.bad
    · split
      · rename_i hs
        exact Good.ok hs (good_hex 6 0 0 h.tail).tail
      · exact Good.bad
  · exact Good.bad
theorem esc_pos {c : Int} (h : isEsc c = true) : ¬ c < 0 := by
  unfold isEsc isMark at h
  simp at h; omega
theorem good_escape {n : Nat} {l : List Sy} (h : AllSym l) : Good SymV (escapeS n l) := by
  unfold escapeS
  split
  · exact good_code h.tail
  · split
    · exact Good.ok (by decide) h.tail
    · split
      · rename_i he
        exact Good.ok (h.hd (esc_pos he)) h.tail
      · exact Good.bad
theorem good_limit {n : Nat} {l : List Sy} (h : AllSym l) : Good SymV (limitS n l) := by
  unfold limitS
  split
  · exact good_escape h.tail
  · split
    · exact Good.bad
    · rename_i hn
      exact Good.ok (h.hd (fun e => hn (.inl e))) h.tail
theorem sym_pos {c : Int} (h : isSym c = true) : 0 ≤ c := (isSym_iff.1 h).1
theorem pos_one {a b : Int} (ha : isSym a = true) (hb : isSym b = true) : Pos [(a, b)] := fun x hx => by simp at hx; subst hx; exact ⟨sym_pos ha, sym_pos hb⟩
theorem tidy_one {a : Int} (h : isSym a = true) : Tidy [(a, a)] := ⟨by show -1 < a; have := sym_pos h; omega, h, h, Int.le_refl _, trivial⟩
theorem tidy_esc (l : List Sy) : Tidy (setEsc l) := by unfold setEsc; split <;> simp [digitsL, lettersL, Tidy, TidyF, isSym, abv]
theorem good_part {n : Nat} {l : List Sy} (h : AllSym l) : Good Pos (partP n l) := by
  unfold partP
  split
  · exact Good.ok (tidy_esc l).pos h.tail.tail
  · have g := good_limit (n := n) h
    split
    · exact Good.err
    · rename_i a l1 e
      obtain ⟨ha, h1⟩ := g _ _ e
      split
      · have g2 := good_limit (n := n) h1.tail
        split
        · exact Good.err
        · rename_i b l2 e2
          obtain ⟨hb, h2⟩ := g2 _ _ e2
          split
          · exact Good.bad
          · exact Good.ok (pos_one ha hb) h2
      · exact Good.ok (pos_one ha ha) h1
theorem good_classLoop {n : Nat} : ∀ (f : Nat) {s : Spans} {l : List Sy}, Tidy s → AllSym l → Good Tidy (classLoopP n f s l)
  | 0, _, _, _, _ => Good.bad
  | f + 1, s, l, hs, h => by
    rw [classLoopP]
    split
    · exact Good.ok hs h.tail
    · have g := good_part (n := n) h
      split
      · exact Good.err
      · rename_i p l1 e
        obtain ⟨hp, h1⟩ := g _ _ e
        exact good_classLoop f (cupS_tidy hs.pos hp) h1
theorem good_class {n : Nat} {l : List Sy} (h : AllSym l) : Good Tidy (classP n l) := by
  unfold classP
  split
  · have g := good_classLoop (n := n) (l.length + 1) (s := []) trivial h.tail
    unfold turnR
    split
    · exact Good.err
    · rename_i s l1 e
      obtain ⟨hs, h1⟩ := g _ _ e
      exact Good.ok (othS_tidy hs.pos) h1
  · exact good_classLoop _ trivial h
theorem good_leaf {n : Nat} {l : List Sy} (h : AllSym l) : Good Tidy (leafP n l) := by
  unfold leafP
  split
  · exact good_class h.tail
  split
  · split
    · exact Good.ok (tidy_esc l) h.tail.tail
    · have g := good_escape (n := n) h.tail
      unfold oneR
      split
      · exact Good.err
      · rename_i c l1 e
        obtain ⟨hc, h1⟩ := g _ _ e
        exact Good.ok (tidy_one hc) h1
  split
  · exact Good.ok (othS_tidy pos_nil) h.tail
  split
  · exact Good.bad
  · rename_i hn
    exact Good.ok (tidy_one (h.hd fun e => hn (.inl e))) h.tail
abbrev OkN (p : Pn) : Prop := OkP p.1
abbrev GoodA (a : List Sy → Res Pn) : Prop := ∀ l, AllSym l → Good OkN (a l)
theorem good_node {n : Nat} {l : List Sy} (h : AllSym l) : Good OkN (nodeR (leafP n l)) := by
  have g := good_leaf (n := n) h
  unfold nodeR
  split
  · exact Good.err
  · rename_i s l1 e
    obtain ⟨hs, h1⟩ := g _ _ e
    exact Good.ok (by show OkP (.set s); rw [OkP]; exact hs) h1
theorem good_reps {n : Nat} : ∀ (f : Nat) {z : Pn} {l : List Sy}, OkN z → AllSym l → Good OkN (repsP n f z l)
  | 0, _, _, _, _ => Good.bad
  | f + 1, z, l, hz, h => by
    rw [repsP]
    split
    · have g := good_repeat (n := n) h
      split
      · exact Good.err
      · rename_i m l1 e
        exact good_reps f (by show OkP (.rep z.1 m.1 m.2.1); rw [OkP]; exact hz) (g _ _ e).2
    · exact Good.ok hz h
theorem good_item {n : Nat} {a : List Sy → Res Pn} (ha : GoodA a) : ∀ (f : Nat) {l : List Sy}, AllSym l → Good OkN (itemP n a f l)
  | 0, _, _ => Good.bad
  | f + 1, l, h => by
    rw [itemP]
    split
    · have g := good_item (n := n) ha f h.tail
      split
      · exact Good.err
      · rename_i z l1 e
        obtain ⟨hz, h1⟩ := g _ _ e
        exact Good.ok (by show OkP (.not z.1); rw [OkP]; exact hz) h1
    · have g := ha l h
      split
      · exact Good.err
      · rename_i z l1 e
        obtain ⟨hz, h1⟩ := g _ _ e
        exact good_reps _ hz h1
theorem okPs_iff : ∀ {l : List Pn}, OkPs (l.map Prod.fst) ↔ ∀ p ∈ l, OkN p
  | [] => by simp [OkPs]
  | p :: r => by rw [List.map_cons, OkPs, okPs_iff]; simp
theorem ok_mkRow {l : List Pn} (h : ∀ p ∈ l, OkN p) : OkN (mkRow l) := by
  unfold mkRow
  split
  · exact h _ (List.mem_cons_self ..)
  · show OkP (.row _); rw [OkP, okPs_iff]; exact h
theorem ok_mkGrp {k : Bool} {l : List Pn} (h : ∀ p ∈ l, OkN p) : OkN (mkGrp k l) := by
  unfold mkGrp
  split
  · exact h _ (List.mem_cons_self ..)
  · show OkP (.grp k _); rw [OkP, okPs_iff]; exact h
theorem snoc_ok {z : List Pn} {y : Pn} (hz : ∀ p ∈ z, OkN p) (hy : OkN y) : ∀ p ∈ z ++ [y], OkN p := by
  intro p hp
  rcases List.mem_append.1 hp with hp | hp
  · exact hz p hp
  · simp at hp; subst hp; exact hy
theorem good_rowLoop {n : Nat} {a : List Sy → Res Pn} (ha : GoodA a) : ∀ (f : Nat) {z : List Pn} {l : List Sy}, (∀ p ∈ z, OkN p) → AllSym l → Good (fun z => ∀ p ∈ z, OkN p) (rowLoopP n a f z l)
  | 0, _, _, _, _ => Good.bad
  | f + 1, z, l, hz, h => by
    rw [rowLoopP]
    split
    · exact Good.ok hz h
    · have g := good_item (n := n) ha (l.length + 1) h
      split
      · exact Good.err
      · rename_i y l1 e
        obtain ⟨hy, h1⟩ := g _ _ e
        exact good_rowLoop ha f (snoc_ok hz hy) h1
theorem one_ok {y : Pn} (hy : OkN y) : ∀ p ∈ [y], OkN p := by intro p hp; simp at hp; subst hp; exact hy
theorem good_row {n : Nat} {a : List Sy → Res Pn} (ha : GoodA a) : GoodA (rowP n a) := by
  intro l h
  unfold rowP
  split
  · exact Good.ok (ok_mkRow (by simp)) h
  · have g := good_item (n := n) ha (l.length + 1) h
    split
    · exact Good.err
    · rename_i y l1 e
      obtain ⟨hy, h1⟩ := g _ _ e
      exact (good_rowLoop ha (l1.length + 1) (one_ok hy) h1).map fun _ hv => ok_mkRow hv
theorem good_sepLoop {n : Nat} {a : List Sy → Res Pn} (ha : GoodA a) (sg : Int) : ∀ (f : Nat) {z : List Pn} {l : List Sy}, (∀ p ∈ z, OkN p) → AllSym l → Good (fun z => ∀ p ∈ z, OkN p) (sepLoopP n a sg f z l)
  | 0, _, _, _, _ => Good.bad
  | f + 1, z, l, hz, h => by
    rw [sepLoopP]
    split
    · have g := ha l.tail h.tail
      split
      · exact Good.err
      · rename_i y l1 e
        obtain ⟨hy, h1⟩ := g _ _ e
        exact good_sepLoop ha sg f (snoc_ok hz hy) h1
    · exact Good.ok hz h
theorem good_sep {n : Nat} {a : List Sy → Res Pn} (ha : GoodA a) (sg : Int) {g : List Pn → Pn} (hg : ∀ z, (∀ p ∈ z, OkN p) → OkN (g z)) : GoodA (sepP n a sg g) := by
  intro l h
  unfold sepP
  have g1 := ha l h
  split
  · exact Good.err
  · rename_i y l1 e
    obtain ⟨hy, h1⟩ := g1 _ _ e
    exact (good_sepLoop ha sg (l1.length + 1) (one_ok hy) h1).map hg
theorem good_both {n : Nat} {a : List Sy → Res Pn} (ha : GoodA a) : GoodA (bothP n a) := good_sep (good_row ha) 38 fun _ hv => ok_mkGrp hv
theorem good_choice {n : Nat} {a : List Sy → Res Pn} (ha : GoodA a) : GoodA (choiceP n a) := good_sep (good_both ha) 124 fun _ hv => ok_mkGrp hv
theorem good_atom {n : Nat} : ∀ k : Nat, GoodA (atomP n k)
  | 0 => by
    intro l h
    rw [atomP]
    split
    · exact Good.bad
    · exact good_node h
  | k + 1 => by
    intro l h
    rw [atomP]
    split
    · have g := good_choice (n := n) (good_atom (n := n) k) l.tail h.tail
      unfold grpP
      split
      · exact Good.err
      · rename_i z l1 e
        obtain ⟨hz, h1⟩ := g _ _ e
        split
        · exact Good.ok hz h1.tail
        · exact Good.bad
    · exact good_node h
/-- the tree of a pattern has tidy sets. -/
theorem parse_ok {s : ByteArray} {q : Pt} (h : parseS s = .ok q) : OkP q := by
  unfold parseS at h
  split at h
  · cases h
  · have g := good_choice (n := s.size) (good_atom (n := s.size) 8) (symsFrom s 0) (symsFrom_sym s 0)
    unfold parseEnd at h
    split at h
    · cases h
    · rename_i z l e
      obtain ⟨hz, _⟩ := g _ _ e
      split at h
      · split at h
        · cases h
        · cases h; exact hz
      · cases h
end Go.Proofs.YtfolanohokflkaaGreatDoor
