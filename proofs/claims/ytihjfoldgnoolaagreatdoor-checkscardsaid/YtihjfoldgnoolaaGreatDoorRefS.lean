import Derived.Test.YtihjfoldgnoolaaGreatDoorRefR
import Derived.WalkKit
import Derived.WalkSpells
import Derived.WalkLawsBesides
import Derived.Deep.QuietTactic
import Derived.BigQuiet
namespace Go.Proofs.YtihjfoldgnoolaaGreatDoor
open Go.RowKit

def SzOk (szs : List Int) : Prop := ∀ z ∈ szs, 0 ≤ z ∧ z ≤ 61
theorem SzOk.at {szs : List Int} (h : SzOk szs) (n : Nat) : 0 ≤ szs.getD n 0 ∧ szs.getD n 0 ≤ 61 := by
  by_cases hn : n < szs.length
  · have : szs.getD n 0 = szs[n] := by simp [List.getD, hn]
    rw [this]; exact h _ (List.getElem_mem hn)
  · have : szs.getD n 0 = 0 := by simp [List.getD, List.getElem?_eq_none (Nat.le_of_not_lt hn)]
    rw [this]; omega
theorem SzOk.snoc {szs : List Int} (h : SzOk szs) {z : Int} (h0 : 0 ≤ z) (h1 : z ≤ 61) : SzOk (szs ++ [z]) := by
  intro y hy
  rcases List.mem_append.1 hy with h' | h'
  · exact h y h'
  · simp at h'; subst h'; exact ⟨h0, h1⟩
theorem cap61_le (n : Int) : cap61 n ≤ 61 := by unfold cap61; split <;> omega
theorem cap61_ge {n : Int} (h : 0 ≤ n) : 0 ≤ cap61 n := by unfold cap61; split <;> omega
def gfold (szs : List Int) : Int → List Nat → Int
  | z, [] => z
  | z, n :: r => gfold szs (cap61 (z + szs.getD n 0)) r
def gsize (szs : List Int) (ns : List Nat) : Int := gfold szs (if ns = [] then 1 else (ns.length : Int) - 1) ns
def nats (ns : List Nat) : List Int := ns.map (fun n : Nat => (n : Int))
theorem nats_getD (ns : List Nat) (k : Nat) : (nats ns).getD k 0 = ((ns.getD k 0 : Nat) : Int) := by
  simp only [nats, List.getD, List.getElem?_map]
  cases ns[k]? <;> rfl
theorem gfold_bounds (szs : List Int) (hs : SzOk szs) : ∀ (ns : List Nat) (z : Int), 0 ≤ z → z ≤ 1000 → ns ≠ [] ∨ z ≤ 61 → 0 ≤ gfold szs z ns ∧ gfold szs z ns ≤ 61
  | [], z, h0, _, h => by
    have : z ≤ 61 := by rcases h with h | h; exact absurd rfl h; exact h
    exact ⟨h0, this⟩
  | n :: r, z, h0, h1, _ => by
    have := hs.at n
    exact gfold_bounds szs hs r _ (cap61_ge (by omega)) (by have := cap61_le (z + szs.getD n 0); omega) (.inr (cap61_le _))

section
variable {w0 w : World} {v0 : Value} {b : Nat} {s : ByteArray} {L : List Sy} {vs vn : Value} {i : Nat} {d : Int} {szs : List Int} {e p : Int}

set_option maxRecDepth 100000 in
set_option maxHeartbeats 2000000 in
theorem group_one (h : Hid (St w0 v0 w b s L vs vn i d szs e p)) (kd : Int) (vo : Value) (m : Nat) (ho : w.ownsRow 0 3 1 vo 1 (ints (nats [m]))) :
    Calls Tryz.prog 174 #[.pointer (some ⟨b, 0, none⟩), .int .i64 kd, vo] w fun x w' => x = .returned (.int .i64 m) ∧ Hid (St w0 v0 w' b s L vs vn i d szs e p) := by
  obtain ⟨ao, cp, rfl, hv⟩ := own_view ho
  obtain ⟨g, rfl, -, hg, hc, -⟩ := hv (by decide)
  have hc0 := hc 0 (by decide)
  have hc1 : w.cell? ⟨g, 0, none⟩ = some (.int .i64 m) := hc0
  clear hv hc hc0 ho
  go_enter Tryz.func174, Tryz.ntmps174
  go_wp2_with fail
  go_ret
  exact ⟨rfl, h⟩

set_option maxRecDepth 100000 in
set_option maxHeartbeats 4000000 in
theorem group_many (h : Hid (St w0 v0 w b s L vs vn i d szs e p)) (kd : Int) (vo : Value) (ns : List Nat) (ho : w.ownsRow 0 3 1 vo ns.length (ints (nats ns))) (h1 : ¬ ns.length = 1) (hall : ∀ n ∈ ns, n < szs.length) (hok : SzOk szs) (hsz : szs.length ≤ 10000) (hnl : ns.length ≤ 1000) :
    Calls Tryz.prog 174 #[.pointer (some ⟨b, 0, none⟩), .int .i64 kd, vo] w fun x w' => x = .returned (.int .i64 szs.length) ∧ ∃ vn', Hid (St w0 v0 w' b s L vs vn' i d (szs ++ [gsize szs ns]) e p) := by
  obtain ⟨ao, cp, rfl, hv⟩ := own_view ho
  have HV := hide hv
  have HALL := hide hall
  have HOK := hide hok
  have HO := hide ho
  have h1' : ((ns.length : Int) == 1) = false := by simp; omega
  clear hv hall hok h1 ho
  have HG : ∀ (w1 : World) (z : Int), Hid (St w0 v0 w1 b s L vs vn i d szs e p) → Calls Tryz.prog 233 #[.pointer (some ⟨b, 0, none⟩), .agg #[.int .i64 kd, .slice none 0 0, .slice ao ns.length cp, .int .i64 0, .int .i64 0, .int .i64 z]] w1 fun x w' => x = .returned (.int .i64 szs.length) ∧ ∃ vn', Hid (St w0 v0 w' b s L vs vn' i d (szs ++ [z]) e p) :=
    fun w1 z hs => add_st hs hsz kd 0 0 z (.slice none 0 0) (.slice ao ns.length cp) rfl rfl
  have HGH := hide HG
  clear HG
  by_cases h0 : ns = []
  · subst h0
    go_enter Tryz.func174, Tryz.ntmps174
    go_wp2_with fail
    refine wp_loop_rounds 1 ?_
    rw [rounds_succ]
    go_wp2_with (go_at_call 233; refine (unhide HGH _ _ h).mono ?_; rintro x w2 ⟨rfl, vn', HS⟩)
    go_ret
    exact ⟨rfl, vn', HS⟩
  · have hpos : 0 < ns.length := List.length_pos_iff.2 h0
    have HF : Hid (gfold szs ((ns.length : Int) - 1) ns = gsize szs ns) := by show _ = _; rw [gsize, if_neg h0]
    obtain ⟨R, hR⟩ : ∃ R, gsize szs ns = R := ⟨_, rfl⟩
    rw [hR] at HF ⊢
    clear hR h0
    go_enter Tryz.func174, Tryz.ntmps174
    go_wp2_with fail
    go_loopw [7, 8] (fun z k wr => ∃ (y : Int) (j : Nat), j ≤ ns.length ∧ z = .int .i64 y ∧ k = .int .i64 j ∧ 0 ≤ y ∧ y ≤ 1000 ∧ Hid (gfold szs y (ns.drop j) = R) ∧ Hid (Same w wr)) (fun _ k _ => ns.length - (intOf k).toNat)
    case atStart => exact ⟨_, 0, Nat.zero_le _, rfl, rfl, by omega, by omega, HF, Same.refl _⟩
    case round =>
      obtain ⟨y, j, hj, rfl, rfl, hy0, hy1, HR, HSM⟩ := hrel
      by_cases hlt : j < ns.length
      · obtain ⟨g, rfl, -, hg, hc, -⟩ := unhide HV (by omega)
        have hcj := hc j (by omega)
        rw [ints_at _ j (by simpa [nats] using hlt), nats_getD] at hcj
        have hm : ns.getD j 0 < szs.length := unhide HALL _ (by simp only [List.getD, List.getElem?_eq_getElem hlt, Option.getD_some]; exact List.getElem_mem hlt)
        have hgd : gfold szs y (ns.drop j) = gfold szs (cap61 (y + szs.getD (ns.getD j 0) 0)) (ns.drop (j + 1)) := by
          rw [List.drop_eq_getElem_cons hlt, gfold]
          simp only [List.getD, List.getElem?_eq_getElem hlt, Option.getD_some]
        rw [unhide HR] at hgd
        have HGD := hide hgd.symm
        clear hgd HR
        obtain ⟨xs, hx1, hx2⟩ := (unhide h).rs.nodes
        obtain ⟨an, cn, rfl, hvn⟩ := own_view hx1
        obtain ⟨gn, rfl, -, hgn, hcn, -⟩ := hvn (by omega)
        have hcm := hcn (ns.getD j 0 * 6 + 5) (by omega)
        rw [hx2 _ hm] at hcm
        have q4 := (unhide h).rs.c4
        have hzb := (unhide HOK).at (ns.getD j 0)
        have hsm := (unhide HSM).heap
        rw [← cell_heap hsm] at hcj hcm q4
        clear hsm hx1 hx2 hvn hcn hc HALL HV HGH HO
        generalize ns.getD j 0 = m at *
        generalize szs.getD m 0 = z at *
        go_wp2_with fail
        go_quiet ((go_at_call 234; exact Calls.quiet_of_same ((refCapped_any _ _).mono (fun e w' hh => ⟨hh.1, hh.2.symm⟩))))
        go_wp2_with fail
        go_roundw
        case rel => exact ⟨_, j + 1, by omega, rfl, by go_num, cap61_ge (by omega), by have := cap61_le (y + z); omega, HGD, (unhide HSM).trans (Same.drewN _ _)⟩
        case measure => simp [intOf]; omega
      · have hfin : y = R := by rw [← unhide HR, List.drop_eq_nil_of_le (by omega)]; rfl
        subst hfin
        have HS2 : Hid (St w0 v0 wr b s L vs vn i d szs e p) := ⟨(unhide h).rs.same (unhide HSM), (unhide h).fr.trans (Fr.same (unhide HSM)), (unhide h).le⟩
        go_wp2_with (go_at_call 233; refine (unhide HGH _ _ HS2).mono ?_; rintro x w2 ⟨rfl, vn', HS⟩)
        go_ret
        exact ⟨rfl, vn', HS⟩
end
end Go.Proofs.YtihjfoldgnoolaaGreatDoor
