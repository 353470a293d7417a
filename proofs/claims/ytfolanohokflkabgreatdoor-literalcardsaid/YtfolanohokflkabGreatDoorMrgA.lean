import Derived.Test.YtfolanohokflkabGreatDoorTermA
import Derived.Laws.Cover4
import Derived.Laws.IdiomStrings
/-
  The loops of the lists, from the left on: no program, no kit.
-/
namespace Go.Proofs.YtfolanohokflkabGreatDoor

def doneAt {α : Type} (gt : α → α → Bool) (c : α) (l : List α) : Bool := l.any fun x => gt x c
def mAt {α : Type} (gt : α → α → Bool) (c : α) (l : List α) : List α := if doneAt gt c l = true then insB gt c l else l
theorem done_snoc {α : Type} (gt : α → α → Bool) (c y : α) (l : List α) : doneAt gt c (l ++ [y]) = (doneAt gt c l || gt y c) := by simp [doneAt]
theorem insB_snoc {α : Type} (gt : α → α → Bool) (c y : α) : ∀ l : List α, doneAt gt c l = true → insB gt c (l ++ [y]) = insB gt c l ++ [y]
  | [], h => by simp [doneAt] at h
  | x :: l, h => by
    rw [List.cons_append, insB, insB]
    by_cases hx : gt x c = true
    · rw [if_pos hx, if_pos hx]; rfl
    · rw [if_neg hx, if_neg hx, insB_snoc gt c y l (by simpa [doneAt, hx] using h)]; rfl
theorem insB_none {α : Type} (gt : α → α → Bool) (c : α) : ∀ l : List α, doneAt gt c l = false → insB gt c l = l ++ [c]
  | [], _ => rfl
  | x :: l, h => by
    have hx : ¬ gt x c = true := by intro hx; simp [doneAt, hx] at h
    rw [insB, if_neg hx, insB_none gt c l (by simpa [doneAt, hx] using h)]; rfl
theorem insB_first {α : Type} (gt : α → α → Bool) (c y : α) (hy : gt y c = true) : ∀ l : List α, doneAt gt c l = false → insB gt c (l ++ [y]) = l ++ [c, y]
  | [], _ => by rw [List.nil_append, insB, if_pos hy]; rfl
  | x :: l, h => by
    have hx : ¬ gt x c = true := by intro hx; simp [doneAt, hx] at h
    rw [List.cons_append, insB, if_neg hx, insB_first gt c y hy l (by simpa [doneAt, hx] using h)]; rfl
theorem mAt_nil {α : Type} (gt : α → α → Bool) (c : α) : mAt gt c [] = [] := rfl
theorem mAt_done {α : Type} {gt : α → α → Bool} {c y : α} {l : List α} (h : doneAt gt c l = true) : mAt gt c (l ++ [y]) = mAt gt c l ++ [y] := by
  unfold mAt
  rw [done_snoc, h, Bool.true_or, if_pos rfl, if_pos rfl, insB_snoc gt c y l h]
theorem mAt_new {α : Type} {gt : α → α → Bool} {c y : α} {l : List α} (h : doneAt gt c l = false) (hy : gt y c = true) : mAt gt c (l ++ [y]) = mAt gt c l ++ [c] ++ [y] := by
  unfold mAt
  rw [done_snoc, h, hy, Bool.or_true, if_pos rfl, if_neg (by decide), insB_first gt c y hy l h]; simp
theorem mAt_low {α : Type} {gt : α → α → Bool} {c y : α} {l : List α} (h : doneAt gt c l = false) (hy : gt y c = false) : mAt gt c (l ++ [y]) = mAt gt c l ++ [y] := by
  unfold mAt
  rw [done_snoc, h, hy, Bool.or_false, if_neg (by decide), if_neg (by decide)]
theorem insB_end {α : Type} (gt : α → α → Bool) (c : α) (l : List α) : insB gt c l = if doneAt gt c l = true then mAt gt c l else mAt gt c l ++ [c] := by
  unfold mAt
  cases h : doneAt gt c l with
  | true => rw [if_pos rfl, if_pos rfl]
  | false => rw [if_neg (by decide), if_neg (by decide), insB_none gt c l h]
theorem mAt_len {α : Type} (gt : α → α → Bool) (c : α) (l : List α) : (mAt gt c l).length ≤ l.length + 1 := by
  have h := insB_len gt c l
  unfold mAt; split <;> omega
where insB_len {α : Type} (gt : α → α → Bool) (c : α) : ∀ l : List α, (insB gt c l).length = l.length + 1
  | [] => rfl
  | x :: l => by rw [insB]; split <;> simp [insB_len gt c l]
theorem placedS_len (l : List Int) (c : Int) : (placedS l c).length ≤ l.length + 1 := by
  unfold placedS
  split
  · omega
  · unfold withB
    split
    · omega
    · rw [mAt_len.insB_len]; omega
theorem cutsOf_len : ∀ (a : Spans) (l : List Int), (cutsOf l a).length ≤ l.length + 2 * a.length
  | [], l => by simp [cutsOf]
  | x :: a, l => by
    have h1 := placedS_len l x.1
    have h2 := placedS_len (placedS l x.1) (x.2 + 1)
    have h3 := cutsOf_len a (placedS (placedS l x.1) (x.2 + 1))
    rw [List.length_cons]
    show (cutsOf (placedS (placedS l x.1) (x.2 + 1)) a).length ≤ _
    omega
theorem cutsS_len (a b : Spans) : (cutsS a b).length ≤ 1 + 2 * (a.length + b.length) := by
  have h1 := cutsOf_len b (cutsOf [0] a)
  have h2 := cutsOf_len a [0]
  unfold cutsS
  simp at h2
  omega
theorem cutsOf_snoc (l : List Int) (a : Spans) (x : Int × Int) : cutsOf l (a ++ [x]) = placedS (placedS (cutsOf l a) x.1) (x.2 + 1) := by simp [cutsOf]

/-- tidy's loop: what is there, whether the last cut was kept, the cuts that are left. -/
def tidyRun (p : Int → Bool) : Spans → Bool → List Int → Spans
  | acc, _, [] => acc
  | acc, prev, x :: r => if p x = true then (if prev = true then tidyRun p (acc.dropLast ++ [((acc.getLastD (0, 0)).1, hiOf r)]) true r else tidyRun p (acc ++ [(x, hiOf r)]) true r) else tidyRun p acc false r
theorem tidyRun_eq (p : Int → Bool) : ∀ (r : List Int) (acc : Spans), tidyRun p acc false r = acc ++ tidyS p r ∧ ∀ a h, tidyRun p (acc ++ [(a, h)]) true r = acc ++ joinHead a h (headP p r) (tidyS p r)
  | [], acc => ⟨by simp [tidyRun, tidyS], fun a h => by simp [tidyRun, tidyS, headP, joinHead]⟩
  | x :: r, acc => by
    constructor
    · rw [tidyRun, tidyS]
      by_cases hx : p x = true
      · rw [if_pos hx, if_pos hx, if_neg (by decide), (tidyRun_eq p r acc).2]
      · rw [if_neg hx, if_neg hx, (tidyRun_eq p r acc).1]
    · intro a h
      rw [tidyRun]
      by_cases hx : p x = true
      · rw [if_pos hx, if_pos rfl, List.dropLast_concat, List.getLastD_concat, (tidyRun_eq p r acc).2, show headP p (x :: r) = true from hx, tidyS, if_pos hx]
        congr 1
        unfold joinHead
        split <;> rfl
      · rw [if_neg hx, (tidyRun_eq p r _).1, show headP p (x :: r) = false from by simpa [headP] using hx, tidyS, if_neg hx]
        simp [joinHead]
theorem tidyRun_all (p : Int → Bool) (l : List Int) : tidyRun p [] false l = tidyS p l := by rw [(tidyRun_eq p l []).1]; rfl
theorem joinHead_len (x h : Int) (b : Bool) (l : Spans) : (joinHead x h b l).length ≤ l.length + 1 := by
  unfold joinHead; split <;> simp
theorem tidyS_len (p : Int → Bool) : ∀ l : List Int, 2 * (tidyS p l).length ≤ l.length + (if headP p l = true then 1 else 0)
  | [] => by simp [tidyS]
  | x :: r => by
    have ih := tidyS_len p r
    rw [tidyS, List.length_cons]
    by_cases hx : p x = true
    · rw [if_pos hx, show headP p (x :: r) = true from hx, if_pos rfl]
      cases hr : headP p r with
      | true =>
        rw [hr, if_pos rfl] at ih
        cases ht : tidyS p r with
        | nil => simp [joinHead]
        | cons z q => rw [ht] at ih; simp [joinHead] at ih ⊢; omega
      | false =>
        rw [hr, if_neg (by decide)] at ih
        have := joinHead_len x (hiOf r) false (tidyS p r)
        omega
    · rw [if_neg hx]
      have : headP p (x :: r) = false := by simpa [headP] using hx
      rw [this, if_neg (by decide)]
      split at ih <;> omega
theorem op_len {a b : Spans} {p : Int → Bool} : (tidyS p (cutsS a b)).length ≤ a.length + b.length + 1 := by
  have h1 := tidyS_len p (cutsS a b)
  have h2 := cutsS_len a b
  split at h1 <;> omega
theorem cupS_len (a b : Spans) : (cupS a b).length ≤ a.length + b.length + 1 := op_len
theorem capS_len (a b : Spans) : (capS a b).length ≤ a.length + b.length + 1 := op_len
theorem othS_len (a : Spans) : (othS a).length ≤ a.length + 1 := op_len (b := [])
end Go.Proofs.YtfolanohokflkabGreatDoor

/-
  The program's sets: pieces in order made one list; their texts: no program.
-/
namespace Go.Proofs.YtfolanohokflkabGreatDoor

/-- sorted by the first symbols. -/
def SrtPc (l : List (Int × Int)) : Prop := l.Pairwise fun a b => a.1 ≤ b.1
def GoodP (p : Int × Int) : Prop := isSym p.1 = true ∧ isSym p.2 = true ∧ p.1 ≤ p.2
def stepS (acc : Spans) (p : Int × Int) : Spans := match acc.getLast? with
  | some x => if p.1 ≤ abv x.2 then acc.dropLast ++ [(x.1, max x.2 p.2)] else acc ++ [p]
  | none => acc ++ [p]
def mergeS (l : Spans) : Spans := l.foldl stepS []
theorem stepS_nil (p : Int × Int) : stepS [] p = [p] := rfl
theorem stepS_snoc (L : Spans) (x p : Int × Int) : stepS (L ++ [x]) p = if p.1 ≤ abv x.2 then L ++ [(x.1, max x.2 p.2)] else L ++ [x] ++ [p] := by
  unfold stepS
  rw [List.getLast?_concat]
  simp only [List.dropLast_concat]
def lastAbv (m : Int) : Spans → Int
  | [] => m
  | x :: l => lastAbv (abv x.2) l
theorem tidyF_append : ∀ {m : Int} {l r : Spans}, TidyF m (l ++ r) ↔ TidyF m l ∧ TidyF (lastAbv m l) r
  | m, [], r => by simp [TidyF, lastAbv]
  | m, x :: l, r => by
    rw [List.cons_append]
    show (m < x.1 ∧ isSym x.1 = true ∧ isSym x.2 = true ∧ x.1 ≤ x.2 ∧ TidyF (abv x.2) (l ++ r)) ↔ (m < x.1 ∧ isSym x.1 = true ∧ isSym x.2 = true ∧ x.1 ≤ x.2 ∧ TidyF (abv x.2) l) ∧ TidyF (lastAbv (abv x.2) l) r
    rw [tidyF_append]
    constructor
    · rintro ⟨h1, h2, h3, h4, h5, h6⟩; exact ⟨⟨h1, h2, h3, h4, h5⟩, h6⟩
    · rintro ⟨⟨h1, h2, h3, h4, h5⟩, h6⟩; exact ⟨h1, h2, h3, h4, h5, h6⟩
theorem inS_append (a b : Spans) (c : Int) : inS (a ++ b) c = (inS a c || inS b c) := by simp [inS]
theorem step_ok {acc : Spans} {p : Int × Int} (ht : Tidy acc) (hp : GoodP p) (hlo : ∀ x ∈ acc, x.1 ≤ p.1) : Tidy (stepS acc p) ∧ (∀ c, isSym c = true → inS (stepS acc p) c = (inS acc c || inS [p] c)) ∧ ∀ x ∈ stepS acc p, x.1 ≤ p.1 := by
  rcases List.eq_nil_or_concat acc with rfl | ⟨L, x, rfl⟩
  · rw [stepS_nil]
    refine ⟨⟨by show (-1 : Int) < p.1; have := isSym_iff.1 hp.1; omega, hp.1, hp.2.1, hp.2.2, trivial⟩, fun c _ => by simp [inS], fun x hx => by simp at hx; subst hx; exact Int.le_refl _⟩
  · simp only [List.concat_eq_append] at *
    have hx1 := hlo x (by simp)
    rw [stepS_snoc]
    obtain ⟨tL, tx⟩ := tidyF_append.1 ht
    split
    · rename_i hle
      have hmax : isSym (max x.2 p.2) = true := by
        rcases Int.le_total x.2 p.2 with h | h
        · rw [Int.max_eq_right h]; exact hp.2.1
        · rw [Int.max_eq_left h]; exact tx.2.2.1
      refine ⟨tidyF_append.2 ⟨tL, tx.1, tx.2.1, hmax, by show x.1 ≤ max x.2 p.2; have := tx.2.2.2.1; omega, trivial⟩, fun c hc => ?_, fun y hy => ?_⟩
      · rw [inS_append, inS_append, Bool.or_assoc]
        congr 1
        have hcs := isSym_iff.1 hc
        have hxs := isSym_iff.1 tx.2.2.1
        have hab : ∀ c, isSym c = true → x.2 < c → abv x.2 ≤ c := by
          intro c hc h; have := isSym_iff.1 hc; unfold abv; split <;> omega
        have key : (x.1 ≤ c ∧ c ≤ max x.2 p.2) ↔ (x.1 ≤ c ∧ c ≤ x.2) ∨ (p.1 ≤ c ∧ c ≤ p.2) := by
          constructor
          · rintro ⟨h1, h2⟩
            by_cases h3 : c ≤ x.2
            · exact .inl ⟨h1, h3⟩
            · have := hab c hc (by omega)
              exact .inr ⟨by omega, by omega⟩
          · rintro (⟨h1, h2⟩ | ⟨h1, h2⟩)
            · exact ⟨h1, by omega⟩
            · exact ⟨by omega, by omega⟩
        rw [Bool.eq_iff_iff, Bool.or_eq_true, inS_cons_iff, inS_cons_iff, inS_cons_iff]
        simp only [inS_nil, Bool.false_eq_true, or_false]
        exact key
      · rcases List.mem_append.1 hy with hy | hy
        · exact hlo y (List.mem_append_left _ hy)
        · simp at hy; subst hy; exact hx1
    · rename_i hgt
      have e : lastAbv (-1) (L ++ [x]) = abv x.2 := by
        clear hlo ht tL tx hgt hx1
        generalize (-1 : Int) = m
        induction L generalizing m with
        | nil => rfl
        | cons y L ih => exact ih _
      refine ⟨tidyF_append.2 ⟨ht, by rw [e]; exact ⟨by omega, hp.1, hp.2.1, hp.2.2, trivial⟩⟩, fun c _ => inS_append _ _ _, fun y hy => ?_⟩
      rcases List.mem_append.1 hy with hy | hy
      · exact hlo y hy
      · simp at hy; subst hy; exact Int.le_refl _
theorem fold_ok : ∀ (l : Spans) {acc : Spans}, Tidy acc → (∀ p ∈ l, GoodP p) → SrtPc l → (∀ x ∈ acc, ∀ p ∈ l, x.1 ≤ p.1) → Tidy (l.foldl stepS acc) ∧ ∀ c, isSym c = true → inS (l.foldl stepS acc) c = (inS acc c || inS l c)
  | [], acc, ht, _, _, _ => ⟨ht, fun c _ => by simp [inS]⟩
  | p :: l, acc, ht, hp, hs, hlo => by
    have hs' := List.pairwise_cons.1 hs
    obtain ⟨h1, h2, h3⟩ := step_ok ht (hp p (List.mem_cons_self ..)) (fun x hx => hlo x hx p (List.mem_cons_self ..))
    obtain ⟨h4, h5⟩ := fold_ok l h1 (fun q hq => hp q (List.mem_cons_of_mem _ hq)) hs'.2 (fun x hx q hq => by
      have := h3 x hx
      have := hs'.1 q hq
      omega)
    refine ⟨h4, fun c hc => ?_⟩
    rw [List.foldl_cons, h5 c hc, h2 c hc, Bool.or_assoc]
    congr 1
    rw [show p :: l = [p] ++ l from rfl, inS_append]
theorem inS_perm {a b : Spans} (h : a.Perm b) (c : Int) : inS a c = inS b c := by
  unfold inS
  rw [Bool.eq_iff_iff, List.any_eq_true, List.any_eq_true]
  exact ⟨fun ⟨x, hx, h1⟩ => ⟨x, h.mem_iff.1 hx, h1⟩, fun ⟨x, hx, h1⟩ => ⟨x, h.mem_iff.2 hx, h1⟩⟩
theorem good_pos {l : Spans} (h : ∀ p ∈ l, GoodP p) : Pos l := fun x hx => ⟨(isSym_iff.1 (h x hx).1).1, (isSym_iff.1 (h x hx).2.1).1⟩
/-- the set of some pieces. -/
def canonS (ps : Spans) : Spans := cupS [] ps
theorem canon_tidy {ps : Spans} (h : Pos ps) : Tidy (canonS ps) := cupS_tidy pos_nil h
theorem canon_in {ps : Spans} (h : Pos ps) {c : Int} (hc : isSym c = true) : inS (canonS ps) c = inS ps c := by rw [canonS, cupS_in pos_nil h hc]; rfl
theorem merge_canon {ps ts : Spans} (hg : ∀ p ∈ ps, GoodP p) (hp : ts.Perm ps) (hs : SrtPc ts) : mergeS ts = canonS ps := by
  have hgt : ∀ p ∈ ts, GoodP p := fun p h => hg p (hp.mem_iff.1 h)
  obtain ⟨h1, h2⟩ := fold_ok ts (acc := []) trivial hgt hs (by simp)
  refine tidy_ext h1 (canon_tidy (good_pos hg)) fun c hc => ?_
  rw [show mergeS ts = ts.foldl stepS [] from rfl, h2 c hc, canon_in (good_pos hg) hc, inS_nil, Bool.false_or, inS_perm hp]
theorem merge_snoc (l : Spans) (p : Int × Int) : mergeS (l ++ [p]) = stepS (mergeS l) p := by simp [mergeS]
theorem step_len (acc : Spans) (p : Int × Int) : (stepS acc p).length ≤ acc.length + 1 := by
  rcases List.eq_nil_or_concat acc with rfl | ⟨L, x, rfl⟩
  · simp [stepS_nil]
  · simp only [List.concat_eq_append]
    rw [stepS_snoc]; split <;> simp
theorem fold_len : ∀ (l acc : Spans), (l.foldl stepS acc).length ≤ acc.length + l.length
  | [], _ => by simp
  | p :: l, acc => by
    have := fold_len l (stepS acc p)
    have := step_len acc p
    rw [List.foldl_cons, List.length_cons]; omega
theorem merge_len (l : Spans) : (mergeS l).length ≤ l.length := by have := fold_len l []; simpa [mergeS] using this

/-! texts -/
def flatE : Spans → List Int
  | [] => []
  | x :: l => x.1 :: x.2 :: flatE l
theorem flatE_append (a b : Spans) : flatE (a ++ b) = flatE a ++ flatE b := by
  induction a with
  | nil => rfl
  | cons x a ih => simp [flatE, ih]
theorem flatE_length (a : Spans) : (flatE a).length = a.length * 2 := by
  induction a with
  | nil => rfl
  | cons x a ih => simp [flatE, ih]; omega
/-- the text of a set. -/
def encS (l : Spans) : ByteArray := runesBytes (flatE l)
theorem get_app (pre e post : ByteArray) (k : Nat) (h : k < e.size) : (pre ++ e ++ post).get! (pre.size + k) = e.get! k := by
  have h1 : pre.size + k < (pre ++ e ++ post).size := by rw [ByteArray.size_append, ByteArray.size_append]; omega
  have h2 : pre.size + k < (pre ++ e).size := by rw [ByteArray.size_append]; omega
  rw [get_bang _ _ h1, get_bang _ _ h, ByteArray.getElem_append_left h2, ByteArray.getElem_append_right (by omega)]
  congr 1
  omega
theorem ofNat_toNat {n : Nat} (h : n < 256) : (UInt8.ofNat n).toNat = n := UInt8.toNat_ofNat_of_lt' h
theorem valid_sym {c : Int} (hc : isSym c = true) : Utf8.valid c = true := by
  have := isSym_iff.1 hc
  simp only [Utf8.valid, Bool.or_eq_true, Bool.and_eq_true, decide_eq_true_eq]; omega
theorem encode_decode (c : Int) (hc : isSym c = true) (pre post : ByteArray) : Utf8.decode (pre ++ Utf8.encode c ++ post) pre.size = (c.toNat, (Utf8.encode c).size) := by
  obtain ⟨n, rfl⟩ := Int.eq_ofNat_of_zero_le (isSym_iff.1 hc).1
  have hn := isSym_iff.1 hc
  have hv := valid_sym hc
  have hsz : ∀ k, k < (Utf8.encode (n : Int)).size → pre.size + k < (pre ++ Utf8.encode (n : Int) ++ post).size := by
    intro k hk; rw [ByteArray.size_append, ByteArray.size_append]; omega
  have hg := fun k h => get_app pre (Utf8.encode (n : Int)) post k h
  have d1 : n / 64 / 64 = n / 4096 := by rw [Nat.div_div_eq_div_mul]
  have d2 : n / 4096 / 64 = n / 262144 := by rw [Nat.div_div_eq_div_mul]
  rw [Int.toNat_natCast]
  have hE : Utf8.encode (n : Int) = if n < 128 then ⟨#[UInt8.ofNat n]⟩ else if n < 2048 then ⟨#[UInt8.ofNat (192 + n / 64), UInt8.ofNat (128 + n % 64)]⟩ else if n < 65536 then ⟨#[UInt8.ofNat (224 + n / 4096), UInt8.ofNat (128 + n / 64 % 64), UInt8.ofNat (128 + n % 64)]⟩ else ⟨#[UInt8.ofNat (240 + n / 262144), UInt8.ofNat (128 + n / 4096 % 64), UInt8.ofNat (128 + n / 64 % 64), UInt8.ofNat (128 + n % 64)]⟩ := by
    unfold Utf8.encode
    rw [hv]
    simp
  by_cases h1 : n < 128
  · rw [if_pos h1] at hE
    rw [hE] at hg hsz ⊢
    have g0 := hg 0 (show 0 < 1 by decide)
    rw [Nat.add_zero] at g0
    have t0 : ((pre ++ (⟨#[UInt8.ofNat n]⟩ : ByteArray) ++ post).get! pre.size).toNat = n := by rw [g0]; show (UInt8.ofNat n).toNat = n; exact ofNat_toNat (by omega)
    unfold Utf8.decode
    simp only [Nat.add_zero, t0]
    rw [if_pos h1]; rfl
  · rw [if_neg h1] at hE
    by_cases h2 : n < 2048
    · rw [if_pos h2] at hE
      rw [hE] at hg hsz ⊢
      have g0 := hg 0 (by decide : 0 < 2)
      have g1 := hg 1 (by decide : 1 < 2)
      have s1 := hsz 1 (by decide : 1 < 2)
      rw [Nat.add_zero] at g0
      generalize hS : pre ++ (⟨#[UInt8.ofNat (192 + n / 64), UInt8.ofNat (128 + n % 64)]⟩ : ByteArray) ++ post = S at *
      have t0 : (S.get! pre.size).toNat = 192 + n / 64 := by rw [g0]; show (UInt8.ofNat (192 + n / 64)).toNat = _; exact ofNat_toNat (by omega)
      have t1 : (S.get! (pre.size + 1)).toNat = 128 + n % 64 := by rw [g1]; show (UInt8.ofNat (128 + n % 64)).toNat = _; exact ofNat_toNat (by omega)
      unfold Utf8.decode
      simp only [Nat.add_zero, t0, t1, s1, decide_true, Bool.true_and, Bool.and_eq_true, beq_iff_eq]
      rw [if_neg (by omega), if_pos (by omega), if_pos (by omega)]
      exact Prod.ext (by show (192 + n / 64) % 32 * 64 + (128 + n % 64) % 64 = n; omega) rfl
    · rw [if_neg h2] at hE
      by_cases h3 : n < 65536
      · rw [if_pos h3] at hE
        rw [hE] at hg hsz ⊢
        have g0 := hg 0 (by decide : 0 < 3)
        have g1 := hg 1 (by decide : 1 < 3)
        have g2 := hg 2 (by decide : 2 < 3)
        have s1 := hsz 1 (by decide : 1 < 3)
        have s2 := hsz 2 (by decide : 2 < 3)
        rw [Nat.add_zero] at g0
        generalize hS : pre ++ (⟨#[UInt8.ofNat (224 + n / 4096), UInt8.ofNat (128 + n / 64 % 64), UInt8.ofNat (128 + n % 64)]⟩ : ByteArray) ++ post = S at *
        have t0 : (S.get! pre.size).toNat = 224 + n / 4096 := by rw [g0]; show (UInt8.ofNat (224 + n / 4096)).toNat = _; exact ofNat_toNat (by omega)
        have t1 : (S.get! (pre.size + 1)).toNat = 128 + n / 64 % 64 := by rw [g1]; show (UInt8.ofNat (128 + n / 64 % 64)).toNat = _; exact ofNat_toNat (by omega)
        have t2 : (S.get! (pre.size + 2)).toNat = 128 + n % 64 := by rw [g2]; show (UInt8.ofNat (128 + n % 64)).toNat = _; exact ofNat_toNat (by omega)
        have ev : (224 + n / 4096) % 16 * 4096 + (128 + n / 64 % 64) % 64 * 64 + (128 + n % 64) % 64 = n := by omega
        unfold Utf8.decode
        simp only [Nat.add_zero, t0, t1, t2, s1, s2, decide_true, Bool.true_and, Bool.and_eq_true, beq_iff_eq, ev, hv, decide_eq_true_eq, and_true, ge_iff_le]
        rw [if_neg (by omega), if_neg (by omega), if_pos (by omega), if_pos (by omega)]
        rfl
      · rw [if_neg h3] at hE
        rw [hE] at hg hsz ⊢
        have g0 := hg 0 (by decide : 0 < 4)
        have g1 := hg 1 (by decide : 1 < 4)
        have g2 := hg 2 (by decide : 2 < 4)
        have g3 := hg 3 (by decide : 3 < 4)
        have s1 := hsz 1 (by decide : 1 < 4)
        have s2 := hsz 2 (by decide : 2 < 4)
        have s3 := hsz 3 (by decide : 3 < 4)
        rw [Nat.add_zero] at g0
        generalize hS : pre ++ (⟨#[UInt8.ofNat (240 + n / 262144), UInt8.ofNat (128 + n / 4096 % 64), UInt8.ofNat (128 + n / 64 % 64), UInt8.ofNat (128 + n % 64)]⟩ : ByteArray) ++ post = S at *
        have t0 : (S.get! pre.size).toNat = 240 + n / 262144 := by rw [g0]; show (UInt8.ofNat (240 + n / 262144)).toNat = _; exact ofNat_toNat (by omega)
        have t1 : (S.get! (pre.size + 1)).toNat = 128 + n / 4096 % 64 := by rw [g1]; show (UInt8.ofNat (128 + n / 4096 % 64)).toNat = _; exact ofNat_toNat (by omega)
        have t2 : (S.get! (pre.size + 2)).toNat = 128 + n / 64 % 64 := by rw [g2]; show (UInt8.ofNat (128 + n / 64 % 64)).toNat = _; exact ofNat_toNat (by omega)
        have t3 : (S.get! (pre.size + 3)).toNat = 128 + n % 64 := by rw [g3]; show (UInt8.ofNat (128 + n % 64)).toNat = _; exact ofNat_toNat (by omega)
        have ev : (240 + n / 262144) % 8 * 262144 + (128 + n / 4096 % 64) % 64 * 4096 + (128 + n / 64 % 64) % 64 * 64 + (128 + n % 64) % 64 = n := by omega
        unfold Utf8.decode
        simp only [Nat.add_zero, t0, t1, t2, t3, s1, s2, s3, decide_true, Bool.true_and, Bool.and_eq_true, beq_iff_eq, ev, hv, decide_eq_true_eq, and_true, ge_iff_le]
        rw [if_neg (by omega), if_neg (by omega), if_neg (by omega), if_pos (by omega), if_pos (by omega)]
        rfl
theorem runesBytes_cons (c : Int) (l : List Int) : runesBytes (c :: l) = Utf8.encode c ++ runesBytes l := by
  have key : ∀ (l : List Int) (s : ByteArray), l.foldl (fun r n => r ++ Utf8.encode n) s = s ++ l.foldl (fun r n => r ++ Utf8.encode n) ByteArray.empty := by
    intro l
    induction l with
    | nil => intro s; simp
    | cons d l ih =>
      intro s
      rw [List.foldl_cons, List.foldl_cons, ih, ih (ByteArray.empty ++ Utf8.encode d)]
      simp [ByteArray.append_assoc]
  unfold runesBytes
  rw [List.foldl_cons, key]
  simp
theorem encode_size_pos (c : Int) : 1 ≤ (Utf8.encode c).size := by
  unfold Utf8.encode
  simp only
  repeat' split
  all_goals simp [ByteArray.size]
theorem runesFrom_bytes : ∀ (ns : List Int) (pre : ByteArray) (bound : Nat) (acc : Array Value), (∀ c ∈ ns, isSym c = true) → (runesBytes ns).size ≤ bound →
    Conv.runesFrom (pre ++ runesBytes ns) bound pre.size acc = acc ++ (ns.map (Value.int .i32)).toArray
  | [], pre, bound, acc, _, _ => by
    have e : runesBytes [] = ByteArray.empty := rfl
    rw [e, ByteArray.append_empty]
    cases bound with
    | zero => simp [Conv.runesFrom]
    | succ b => rw [Conv.runesFrom, if_neg (by omega)]; simp
  | c :: ns, pre, bound, acc, hs, hb => by
    have hp := encode_size_pos c
    rw [runesBytes_cons, ByteArray.size_append] at hb
    cases bound with
    | zero => omega
    | succ b =>
      have hd := encode_decode c (hs c (List.mem_cons_self ..)) pre (runesBytes ns)
      rw [Conv.runesFrom, runesBytes_cons, ← ByteArray.append_assoc, if_pos (by rw [ByteArray.size_append, ByteArray.size_append]; omega), hd]
      simp only []
      have ih := runesFrom_bytes ns (pre ++ Utf8.encode c) b (acc.push (.int .i32 (Int.ofNat c.toNat))) (fun d h => hs d (List.mem_cons_of_mem _ h)) (by omega)
      rw [ByteArray.size_append] at ih
      rw [ih]
      have hc0 := (isSym_iff.1 (hs c (List.mem_cons_self ..))).1
      have : Int.ofNat c.toNat = c := Int.toNat_of_nonneg hc0
      rw [this]
      simp
/-- the symbols of a set's text. -/
theorem runes_encS {l : Spans} (h : ∀ p ∈ l, GoodP p) : Conv.runesFrom (encS l) (encS l).size 0 #[] = ((flatE l).map (Value.int .i32)).toArray := by
  have hs : ∀ c ∈ flatE l, isSym c = true := by
    intro c hc
    induction l with
    | nil => simp [flatE] at hc
    | cons x l ih =>
      simp only [flatE, List.mem_cons] at hc
      have hx := h x (List.mem_cons_self ..)
      rcases hc with rfl | rfl | hc
      · exact hx.1
      · exact hx.2.1
      · exact ih (fun p hp => h p (List.mem_cons_of_mem _ hp)) hc
  have := runesFrom_bytes (flatE l) ByteArray.empty (encS l).size #[] hs (Nat.le_refl _)
  simpa [encS] using this
theorem tidy_good : ∀ {m : Int} {l : Spans}, TidyF m l → ∀ p ∈ l, GoodP p
  | _, [], _ => by simp
  | _, x :: l, h => by
    intro p hp
    rcases List.mem_cons.1 hp with rfl | hp
    · exact ⟨h.2.1, h.2.2.1, h.2.2.2.1⟩
    · exact tidy_good h.2.2.2.2 p hp

/-! the other symbols -/
def belo (c : Int) : Int := if c = 57344 then 55295 else c - 1
def gapsOf (low : Int) : Spans → Spans
  | [] => if low ≤ 1114111 then [(low, 1114111)] else []
  | p :: l => (if low < p.1 then [(low, belo p.1)] else []) ++ gapsOf (abv p.2) l
def LowOk (low : Int) : Prop := isSym low = true ∨ low = 1114112
theorem low_abv {h : Int} (hh : isSym h = true) : LowOk (abv h) := by
  unfold LowOk
  rw [isSym_iff] at *
  unfold abv
  split <;> omega
theorem inS_self {m : Int} {l : Spans} (h : TidyF m l) {q : Int × Int} (hq : q ∈ l) : inS l q.1 = true := by
  have hg := tidy_good h q hq
  unfold inS
  rw [List.any_eq_true]
  exact ⟨q, hq, by simp [hg.2.2]⟩
theorem gaps_spec : ∀ (l : Spans) (m low : Int), TidyF m l → LowOk low → (∀ p ∈ l, low ≤ p.1) → (∀ p ∈ gapsOf low l, GoodP p ∧ low ≤ p.1) ∧ ∀ c, isSym c = true → (inS (gapsOf low l) c = (decide (low ≤ c) && !inS l c))
  | [], _, low, _, hlow, _ => by
    rw [gapsOf]
    split
    · rename_i h
      have hs : isSym low = true := by
        rcases hlow with h1 | h1
        · exact h1
        · omega
      refine ⟨fun p hp => by simp at hp; subst hp; exact ⟨⟨hs, (show isSym 1114111 = true by decide), h⟩, Int.le_refl _⟩, fun c hc => ?_⟩
      have := isSym_iff.1 hc
      rw [inS_cons, inS_nil]
      simp; omega
    · refine ⟨by simp, fun c hc => ?_⟩
      have := isSym_iff.1 hc
      rw [inS_nil]
      simp; omega
  | p :: l, m, low, ht, hlow, hle => by
    have hp1 := hle p (List.mem_cons_self ..)
    have s1 := isSym_iff.1 ht.2.1
    have s2 := isSym_iff.1 ht.2.2.1
    have hab : p.2 < abv p.2 := by unfold abv; split <;> omega
    have hr : ∀ q ∈ l, abv p.2 ≤ q.1 := by
      intro q hq
      have := ht.2.2.2.2.ge (inS_self ht.2.2.2.2 hq)
      omega
    obtain ⟨g1, g2⟩ := gaps_spec l (abv p.2) (abv p.2) ht.2.2.2.2 (low_abv ht.2.2.1) hr
    have hlows : isSym low = true := by
      rcases hlow with h | h
      · exact h
      · omega
    have sl := isSym_iff.1 hlows
    have hbel : low < p.1 → isSym (belo p.1) = true ∧ low ≤ belo p.1 := by
      intro h
      rw [isSym_iff]
      unfold belo
      split <;> omega
    rw [gapsOf]
    constructor
    · intro q hq
      rcases List.mem_append.1 hq with hq | hq
      · split at hq
        · rename_i h
          simp at hq; subst hq
          exact ⟨⟨hlows, (hbel h).1, (hbel h).2⟩, Int.le_refl _⟩
        · simp at hq
      · have := g1 q hq
        exact ⟨this.1, by have := this.2; have := ht.2.2.2.1; omega⟩
    · intro c hc
      have sc := isSym_iff.1 hc
      rw [inS_append, g2 c hc, inS_cons]
      have habc : p.2 < c → abv p.2 ≤ c := by intro h; unfold abv; split <;> omega
      have hpp := ht.2.2.2.1
      have hno : c ≤ p.2 → inS l c = false := by
        intro h
        cases hb : inS l c with
        | false => rfl
        | true => have := ht.2.2.2.2.ge hb; omega
      by_cases h1 : low < p.1
      · rw [if_pos h1, inS_cons, inS_nil]
        have hb : c < p.1 ↔ c ≤ belo p.1 := by unfold belo; split <;> omega
        by_cases h2 : c < p.1
        · rw [hno (by omega)]
          have h4 : ¬ abv p.2 ≤ c := by omega
          have h5 : ¬ p.1 ≤ c := by omega
          simp [h4, h5, ← hb, h2]
        · by_cases h3 : c ≤ p.2
          · rw [hno h3]
            have h4 : ¬ abv p.2 ≤ c := by omega
            have h5 : p.1 ≤ c := by omega
            simp [h4, h5, h3, ← hb, h2]
          · have h4 := habc (by omega)
            have h5 : low ≤ c := by omega
            simp [h4, h5, h3, ← hb, h2]
      · rw [if_neg h1, inS_nil]
        by_cases h3 : c ≤ p.2
        · rw [hno h3]
          have h4 : ¬ abv p.2 ≤ c := by omega
          by_cases h5 : p.1 ≤ c
          · simp [h4, h5, h3]
          · have h6 : ¬ low ≤ c := by omega
            simp [h4, h5, h6]
        · have h4 := habc (by omega)
          have h5 : low ≤ c := by omega
          simp [h4, h5, h3]
theorem gaps_good {l : Spans} (h : Tidy l) : ∀ p ∈ gapsOf 0 l, GoodP p := fun p hp =>
  ((gaps_spec l (-1) 0 h (.inl (by decide)) (fun q hq => (isSym_iff.1 (tidy_good h q hq).1).1)).1 p hp).1
theorem gaps_canon {l : Spans} (h : Tidy l) : canonS (gapsOf 0 l) = othS l := by
  have hs := gaps_spec l (-1) 0 h (.inl (by decide)) (fun q hq => (isSym_iff.1 (tidy_good h q hq).1).1)
  have hp := good_pos (gaps_good h)
  refine tidy_ext (canon_tidy hp) (othS_tidy h.pos) fun c hc => ?_
  rw [canon_in hp hc, hs.2 c hc, othS_in h.pos hc]
  have := isSym_iff.1 hc
  simp [this.1]
theorem gaps_len : ∀ (l : Spans) (low : Int), (gapsOf low l).length ≤ l.length + 1
  | [], low => by rw [gapsOf]; split <;> simp
  | p :: l, low => by
    have := gaps_len l (abv p.2)
    rw [gapsOf, List.length_append, List.length_cons]
    split <;> simp <;> omega
/-- behind some pieces: the gaps so far and where the next begins. -/
def gapStep (a : Spans × Int) (p : Int × Int) : Spans × Int := (a.1 ++ (if a.2 < p.1 then [(a.2, belo p.1)] else []), abv p.2)
def gapsRun (l : Spans) : Spans × Int := l.foldl gapStep ([], 0)
theorem gapsRun_snoc (l : Spans) (p : Int × Int) : gapsRun (l ++ [p]) = gapStep (gapsRun l) p := by
  unfold gapsRun
  rw [List.foldl_append]; rfl
theorem gapsRun_go : ∀ (l : Spans) (a : Spans) (low : Int), a ++ gapsOf low l = (l.foldl gapStep (a, low)).1 ++ (if (l.foldl gapStep (a, low)).2 ≤ 1114111 then [((l.foldl gapStep (a, low)).2, 1114111)] else [])
  | [], a, low => rfl
  | p :: l, a, low => by
    have ih := gapsRun_go l (a ++ (if low < p.1 then [(low, belo p.1)] else [])) (abv p.2)
    rw [gapsOf, ← List.append_assoc]
    exact ih
theorem gapsRun_all (l : Spans) : gapsOf 0 l = (gapsRun l).1 ++ (if (gapsRun l).2 ≤ 1114111 then [((gapsRun l).2, 1114111)] else []) := gapsRun_go l [] 0
end Go.Proofs.YtfolanohokflkabGreatDoor
