import Derived.Test.YtfolanohokflkabGreatDoorHexA
import Derived.Test.YtfolanohokflkabGreatDoorPlA
import Derived.Deep.QuietTactic
import Derived.BigQuiet
import Derived.BigRegion
import Derived.Test.YtfolanohokflkabGreatDoorProg
import Derived.WalkKit
import Derived.KernelRfl
import Derived.Maps.Keyed
import Derived.DeepKeys4
import Derived.WalkSpells
import Derived.WalkLawsBesides
import Derived.WalkMore
import Derived.Laws.OwnMore
/-
  The law's own functions: bytes below 128 of any bytes.
-/
namespace Go.Proofs.YtfolanohokflkabGreatDoor
open Go.RowKit
def plainL (s : ByteArray) : List Nat := (s.data.toList.take 20).map fun b => b.toNat % 128
theorem plain_low (s : ByteArray) : ∀ c ∈ plainL s, c < 128 := by
  intro c hc
  obtain ⟨b, _, rfl⟩ := List.mem_map.1 hc
  exact Nat.mod_lt _ (by decide)
theorem plain_len (s : ByteArray) : (plainL s).length ≤ 20 := by
  unfold plainL
  rw [List.length_map, List.length_take]
  omega
def plainK (s : ByteArray) (k : Nat) : ByteArray := bytesOf ((s.data.toList.take k).map fun b => b.toNat % 128)
theorem conv_byte (wr : World) (x : Int) : (convert 46 9 (.slice (some ⟨wr.heap.size, 0, none⟩) 1 1)).run Tryz.prog (wr.alloc (.cells #[.int .u8 x] 5)) = .ok (.string ⟨#[UInt8.ofNat x.toNat]⟩) (wr.alloc (.cells #[.int .u8 x] 5)) := by
  have h := run_convert_bytes_arg (P := Tryz.prog) (wr.alloc (.cells #[.int .u8 x] 5)) 46 5 Tryz.underlying46 Tryz.underlying5 wr.heap.size 0 1 1 [x] rfl (fun i hi => by
    obtain rfl : i = 0 := by omega
    rw [World.cell?_alloc_at _ _ _ _ rfl]
    rfl) 9 Tryz.underlying9
  rw [h]
  rfl
set_option maxRecDepth 100000 in
set_option maxHeartbeats 4000000 in
theorem plain_any (s : ByteArray) (hs : s.size ≤ maxLen) (w : World) :
    Calls Tryz.prog 9 #[.string s] w fun e w' => e = .returned (.string (bytesOf (plainL s))) ∧ Below w.heap.size w w' := by
  unfold maxLen at hs
  go_enter Tryz.func9, Tryz.ntmps9
  go_wp2
  go_loopw [3, 4] (fun t i wr => ∃ k : Nat, k ≤ s.size ∧ k ≤ 20 ∧ i = .int .i64 (k : Int) ∧ t = .string (plainK s k) ∧ Hid (Below w.heap.size w wr)) (fun _ i _ => 20 - (intOf i).toNat)
  case atStart => exact ⟨0, Nat.zero_le _, Nat.zero_le _, rfl, rfl, Below.refl _ _⟩
  case round =>
    obtain ⟨k, hk, hk2, rfl, rfl, HB⟩ := hrel
    by_cases hlt : k < s.size ∧ k < 20
    · obtain ⟨h1, h2⟩ := hlt
      have hcv := conv_byte wr
      have hsz : (plainK s k).size ≤ 20 := by
        unfold plainK
        rw [bytes_size, List.length_map, List.length_take]
        omega
      have HN : Hid (plainK s (k + 1) = plainK s k ++ ⟨#[UInt8.ofNat (s[k].toNat % 128)]⟩) := by
        unfold plainK
        rw [take_snoc s k h1, List.map_append]
        show bytesOf _ = bytesOf _ ++ _
        unfold bytesOf
        rw [List.map_append]
        apply ByteArray.ext
        simp
      generalize plainK s k = pk at *
      go_wp2
      refine ⟨⟨k + 1, by omega, by omega, by go_num, by rw [unhide HN], (unhide HB).alloc (unhide HB).size _⟩, ?_⟩
      simp [intOf]
      omega
    · have HE : Hid (plainK s k = bytesOf (plainL s)) := by
        unfold plainK plainL
        have e : s.data.toList.take k = s.data.toList.take 20 := by
          by_cases h : k = 20
          · rw [h]
          · have hl : s.data.toList.length = s.size := rfl
            rw [List.take_of_length_le (by omega), List.take_of_length_le (by omega)]
        rw [e]
        rfl
      go_wp2
      · go_ret
        exact ⟨congrArg (fun x => Ending.returned (.string x)) (unhide HE), unhide HB⟩
      · go_ret
        exact ⟨congrArg (fun x => Ending.returned (.string x)) (unhide HE), unhide HB⟩
end Go.Proofs.YtfolanohokflkabGreatDoor

/-
  The law's own functions: a text as a pattern.
-/
namespace Go.Proofs.YtfolanohokflkabGreatDoor
open Go.RowKit
def spc : List Nat := [124, 38, 126, 42, 43, 63, 123, 125, 91, 93, 40, 41, 46, 92]
def spcB : ByteArray := ⟨#[124, 38, 126, 42, 43, 63, 123, 125, 91, 93, 40, 41, 46, 92]⟩
theorem spc_at : ∀ q : Fin 14, (spcB[q.val]'(Nat.lt_of_lt_of_le q.isLt (by decide))).toNat = spc.getD q.val 0 := by decide
theorem spc_mark (c : Nat) : c ∈ spc ↔ isMark (c : Int) = true := by
  rw [mark_iff]
  unfold spc
  simp
  omega
theorem spc_new : ∀ q : Fin 14, spc.getD q.val 0 ∉ spc.take q.val := by decide
theorem spc_next {q : Nat} (h : q < 14) : spc.take (q + 1) = spc.take q ++ [spc.getD q 0] := by
  have : ∀ q : Fin 14, spc.take (q.val + 1) = spc.take q.val ++ [spc.getD q.val 0] := by decide
  exact this ⟨q, h⟩
/-- the backslash, if the symbol is among the first of the special ones. -/
def slash (c q : Nat) : ByteArray := if c ∈ spc.take q then ⟨#[92]⟩ else ⟨#[]⟩
theorem slash_size (c q : Nat) : (slash c q).size ≤ 1 := by unfold slash; split <;> decide
theorem slash_hit {q : Nat} (h : q < 14) : slash (spc.getD q 0) (q + 1) = slash (spc.getD q 0) q ++ ⟨#[92]⟩ := by
  unfold slash
  rw [if_pos (by rw [spc_next h]; simp), if_neg (spc_new ⟨q, h⟩)]
  rfl
theorem slash_miss {c q : Nat} (h : q < 14) (hc : c ≠ spc.getD q 0) : slash c (q + 1) = slash c q := by
  unfold slash
  rw [spc_next h]
  have : c ∈ spc.take q ++ [spc.getD q 0] ↔ c ∈ spc.take q := by
    rw [List.mem_append, List.mem_singleton]
    exact ⟨fun h => h.elim id (fun e => absurd e hc), .inl⟩
  by_cases h1 : c ∈ spc.take q
  · rw [if_pos h1, if_pos (this.2 h1)]
  · rw [if_neg h1, if_neg (fun h2 => h1 (this.1 h2))]
theorem bytes_app (a b : List Nat) : bytesOf (a ++ b) = bytesOf a ++ bytesOf b := by
  apply ByteArray.ext
  simp [bytesOf]
theorem slash_esc (c : Nat) : slash c 14 ++ bytesOf [c] = bytesOf (escC c) := by
  unfold slash escC
  have e : spc.take 14 = spc := by decide
  rw [e]
  by_cases h : c ∈ spc
  · rw [if_pos h, if_pos ((spc_mark c).1 h)]
    show bytesOf [92] ++ bytesOf [c] = _
    rw [← bytes_app]
    rfl
  · rw [if_neg h, if_neg (fun h' => h ((spc_mark c).2 h'))]
    apply ByteArray.ext
    simp [bytesOf]
theorem bytes_cut {u : List Nat} {k : Nat} (hk : k < u.length) : (bytesOf u).extract k (k + 1) = bytesOf [u[k]] := by
  apply ByteArray.ext
  rw [ByteArray.data_extract]
  apply Array.ext'
  rw [Array.toList_extract]
  show List.extract (u.map UInt8.ofNat) k (k + 1) = [UInt8.ofNat u[k]]
  rw [List.extract_eq_take_drop, List.drop_eq_getElem_cons (by simpa using hk)]
  simp
theorem esc_next {u : List Nat} {k : Nat} (hk : k < u.length) : escL (u.take (k + 1)) = escL (u.take k) ++ escC u[k] := by
  unfold escL
  rw [List.take_succ_eq_append_getElem hk, List.flatMap_append]
  simp
set_option maxRecDepth 100000 in
set_option maxHeartbeats 4000000 in
theorem escaped_any {u : List Nat} (hu : ∀ c ∈ u, c < 128) (hl : u.length ≤ 20) (w : World) :
    Calls Tryz.prog 14 #[.string (bytesOf u)] w fun e w' => e = .returned (.string (bytesOf (escL u))) ∧ Below w.heap.size w w' := by
  have hsz := bytes_size u
  have HB : Hid (∀ (i : Nat) (h : i < (bytesOf u).size), (bytesOf u)[i].toNat = u.getD i 0) := fun i h => by
    have h' : i < u.length := by rw [bytes_size] at h; exact h
    rw [bytes_at hu i h]
    simp [List.getD, h']
  have HX : Hid (∀ (k : Nat), k < u.length → (bytesOf u).extract k (k + 1) = bytesOf [u.getD k 0]) := fun k hk => by
    rw [bytes_cut hk]
    simp [List.getD, hk]
  have HE : Hid (∀ (k : Nat), k < u.length → escL (u.take (k + 1)) = escL (u.take k) ++ escC (u.getD k 0)) := fun k hk => by
    rw [esc_next hk]
    simp [List.getD, hk]
  generalize bytesOf u = s at HB HX hsz ⊢
  have hs20 : s.size ≤ 20 := by omega
  have HSZ := hide hsz
  clear hsz
  go_enter Tryz.func14, Tryz.ntmps14
  go_wp2
  go_loopw [3, 4] (fun t i wr => ∃ (k : Nat) (p : ByteArray), k ≤ s.size ∧ i = .int .i64 (k : Int) ∧ t = .string p ∧ Hid (p = bytesOf (escL (u.take k))) ∧ Hid (Below w.heap.size w wr)) (fun _ i _ => s.size - (intOf i).toNat)
  case atStart => exact ⟨0, ⟨#[]⟩, Nat.zero_le _, rfl, rfl, rfl, Below.refl _ _⟩
  case round =>
    obtain ⟨k, p, hk, rfl, rfl, HP, HBW⟩ := hrel
    by_cases hlt : k < s.size
    · have hku : k < u.length := by rw [← unhide HSZ]; exact hlt
      have hpz : p.size ≤ 40 := by
        rw [unhide HP, bytes_size]
        have := esc_most (u.take k)
        rw [List.length_take] at this
        have := unhide HSZ
        omega
      have HC := hide (unhide HB k hlt)
      have HXK := hide (unhide HX k hku)
      have HNX := hide (unhide HE k hku)
      generalize u.getD k 0 = c at *
      go_wp2
      go_loopw [3, 5] (fun t i wq => ∃ (q : Nat) (p1 : ByteArray), q ≤ 14 ∧ i = .int .i64 (q : Int) ∧ t = .string p1 ∧ Hid (p1 = p ++ slash c q) ∧ Hid (Below w.heap.size w wq)) (fun _ i _ => 14 - (intOf i).toNat)
      case atStart => exact ⟨0, p, by omega, rfl, rfl, by show p = p ++ slash c 0; rw [show slash c 0 = ⟨#[]⟩ from rfl]; apply ByteArray.ext; simp, HBW⟩
      case round =>
        obtain ⟨q, p1, hq, rfl, rfl, HP1, HBQ⟩ := hrel
        have hz1 : p1.size ≤ 41 := by rw [unhide HP1, ByteArray.size_append]; have := slash_size c q; omega
        by_cases hq14 : q < 14
        · have HSA := hide (spc_at ⟨q, hq14⟩)
          unfold spcB at HSA
          dsimp only at HSA
          have hqI : (q : Int) < 14 := by omega
          have hkI : (k : Int) < (s.size : Int) := by omega
          go_wp2_with fail
          go_quiet (fail)
          go_wp2_with fail
          have HBD : Hid (Below w.heap.size w (wr.drewN nq)) := by
            have hb := unhide HBQ
            exact ⟨hb.os, hb.tape, hb.output, hb.size, hb.block⟩
          · rename_i hh
            have he : c = spc.getD q 0 := by
              rw [unhide HC, unhide HSA] at hh
              simp only [beq_iff_eq] at hh
              omega
            refine ⟨⟨q + 1, p1 ++ ⟨#[92]⟩, by omega, by go_num, rfl, ?_, HBD⟩, ?_⟩
            · show p1 ++ ⟨#[92]⟩ = p ++ slash c (q + 1)
              rw [he, slash_hit hq14, ← he, unhide HP1, ByteArray.append_assoc]
            · simp [intOf]
              omega
          · rename_i hh
            have he : c ≠ spc.getD q 0 := by
              rw [unhide HC, unhide HSA] at hh
              simp only [beq_eq_false_iff_ne, ne_eq] at hh
              omega
            have HBD : Hid (Below w.heap.size w (wr.drewN nq)) := by
              have hb := unhide HBQ
              exact ⟨hb.os, hb.tape, hb.output, hb.size, hb.block⟩
            refine ⟨⟨q + 1, p1, by omega, by go_num, rfl, ?_, HBD⟩, ?_⟩
            · show p1 = p ++ slash c (q + 1)
              rw [slash_miss hq14 he]
              exact unhide HP1
            · simp [intOf]
              omega
        · have hq' : q = 14 := by omega
          subst hq'
          have hkI : (k : Int) + 1 ≤ (s.size : Int) := by omega
          go_wp2_with fail
          refine ⟨⟨k + 1, p1 ++ s.extract k (k + 1), by omega, by go_num, rfl, ?_, HBQ⟩, ?_⟩
          · show p1 ++ s.extract k (k + 1) = bytesOf (escL (u.take (k + 1)))
            rw [unhide HNX, bytes_app, unhide HXK, unhide HP1, ByteArray.append_assoc, slash_esc, unhide HP]
          · simp [intOf]
            omega
    · have hkl : k = u.length := by have := unhide HSZ; omega
      rw [hkl, List.take_length] at HP
      go_wp2_with fail
      go_ret
      exact ⟨congrArg (fun z => Ending.returned (.string z)) (unhide HP), unhide HBW⟩
end Go.Proofs.YtfolanohokflkabGreatDoor

/-
  The program's table of terms: its map from keys to numbers, block for block.
-/
namespace Go.Proofs.YtfolanohokflkabGreatDoor
open Go.RowKit

/-- what a term is made of, as the program keeps it. -/
structure Ky where
  kd : Int
  st : ByteArray
  fi : Int
  se : Int
deriving DecidableEq
def vKy (k : Ky) : Value := .agg #[.int .i64 k.kd, .string k.st, .int .i64 k.fi, .int .i64 k.se]
structure KyOK (k : Ky) : Prop where
  kd : (Lit.int .i64 k.kd).wf = true
  st : k.st.size ≤ maxLen
  fi : (Lit.int .i64 k.fi).wf = true
  se : (Lit.int .i64 k.se).wf = true
theorem vKy_inj {a b : Ky} (h : vKy a = vKy b) : a = b := by
  obtain ⟨a1, a2, a3, a4⟩ := a
  obtain ⟨b1, b2, b3, b4⟩ := b
  simp only [vKy, Value.agg.injEq, Array.mk.injEq, List.cons.injEq, Value.int.injEq, Value.string.injEq, true_and, and_true] at h
  obtain ⟨rfl, rfl, rfl, rfl⟩ := h
  rfl

theorem kyWide : (match Tryz.prog.underlying 99 with | some (.array _ _) | some (.struct _) => true | _ => false) = true := by kernel_rfl
theorem kyDeep : Tryz.prog.keyTypeAt 2 99 = true := by kernel_rfl
set_option maxRecDepth 100000 in
theorem kyTiled : Tryz.prog.tiled 2 99 = true := by kernel_rfl
set_option maxRecDepth 100000 in
theorem kyLaw : WideMaps.KeyLaw Tryz.prog 99 := deep_law (m := 2) (by omega) kyDeep kyTiled kyWide
theorem kyType : Tryz.prog.keyType 99 = true := by kernel_rfl
theorem cellsKy : Tryz.prog.cellsOf 99 = 4 ∧ Tryz.prog.cellsOf 97 = 1 ∧ Tryz.prog.cellsOf 49 = 1 ∧ Tryz.prog.cellsOf 3 = 1 := ⟨by kernel_rfl, by kernel_rfl, by kernel_rfl, by kernel_rfl⟩
theorem kyOf {k : Ky} (h : KyOK k) : ∃ l, keyOf Tryz.prog 99 (vKy k) = some l := by
  have hf : (vKy k).formed Tryz.prog 99 = true := by kernel_rfl
  have hl : ∀ n, Tryz.prog.keyLits (n + 2) 99 (vKy k).cells.toList = some [.int .i64 k.kd, .string k.st.data.toList, .int .i64 k.fi, .int .i64 k.se] := by
    intro n
    simp [Program.keyLits, vKy, Value.cells, go_sem, h.kd, h.st, h.fi, h.se, cellsKy.1, cellsKy.2.1, cellsKy.2.2.1, cellsKy.2.2.2]
  obtain ⟨n, hn⟩ : ∃ n, Tryz.prog.types.size + 1 = n + 2 := ⟨Tryz.prog.types.size - 1, by have : 0 < Tryz.prog.types.size := of_decide_eq_true (by kernel_rfl); omega⟩
  have hw := kyWide
  unfold keyOf
  rw [kyType, hf, hn, hl]
  cases hu : Tryz.prog.underlying 99 with
  | none => rw [hu] at hw; cases hw
  | some d =>
    rw [hu] at hw
    cases d <;> simp at hw <;> exact ⟨_, rfl⟩

/-! maps, entry for entry -/
def entsOf (l : List (Value × Value)) : List MapEntry := l.mapIdx fun i p => ⟨p.1, p.2, i⟩
def mkMap (l : List (Value × Value)) : Obj := .map (entsOf l).toArray l.length
theorem ents_get (l : List (Value × Value)) (j : Nat) : (entsOf l)[j]? = l[j]?.map fun p => ⟨p.1, p.2, j⟩ := by simp [entsOf]
theorem ents_snoc (l : List (Value × Value)) (p : Value × Value) : entsOf (l ++ [p]) = entsOf l ++ [⟨p.1, p.2, l.length⟩] := by simp [entsOf, List.mapIdx_append]
theorem ents_mem {l : List (Value × Value)} {e : MapEntry} (h : e ∈ entsOf l) : ∃ p ∈ l, e.key = p.1 ∧ e.val = p.2 := by
  obtain ⟨j, hj⟩ := List.mem_iff_getElem?.1 h
  rw [ents_get] at hj
  obtain ⟨p, hp, rfl⟩ := Option.map_eq_some_iff.1 hj
  exact ⟨p, List.mem_iff_getElem?.2 ⟨j, hp⟩, rfl, rfl⟩
section
variable {P : Program} {k t e : TypeId} {w : World} {b : Nat} {l : List (Value × Value)} {key v : Value}
theorem find_hit (K : Maps.Keyed P k) (hl : ∀ p ∈ l, ∃ x, keyOf P k p.1 = some x) (hk : ∃ x, keyOf P k key = some x) (hn : (l.map (·.1)).Nodup) {j : Nat} (hj : l[j]? = some (key, v)) (w : World) : (Instr.findKey k key (entsOf l)).run P w = .ok (some (j, v)) w := by
  obtain ⟨x, hx⟩ := hk
  have hin : (⟨key, v, j⟩ : MapEntry) ∈ entsOf l := List.mem_iff_getElem?.2 ⟨j, by rw [ents_get, hj]; rfl⟩
  rcases K.find w hx (entsOf l) (fun e he => by obtain ⟨p, hp, h1, _⟩ := ents_mem he; rw [h1]; exact hl p hp) with ⟨_, h2⟩ | ⟨i, e', h1, h2, h3⟩
  · exact absurd rfl (h2 _ hin)
  · rw [ents_get] at h2
    obtain ⟨p, hp, rfl⟩ := Option.map_eq_some_iff.1 h2
    have hi : (l.map (·.1))[i]? = some key := by rw [List.getElem?_map, hp]; exact congrArg some h3
    have hj' : (l.map (·.1))[j]? = some key := by rw [List.getElem?_map, hj]; rfl
    have hij : i = j := by
      have a1 := (List.getElem?_eq_some_iff.1 hi).1
      exact (List.getElem?_inj a1 hn).1 (hi.trans hj'.symm)
    subst hij
    rw [hj] at hp
    cases hp
    exact h1
theorem find_miss (K : Maps.Keyed P k) (hl : ∀ p ∈ l, ∃ x, keyOf P k p.1 = some x) (hk : ∃ x, keyOf P k key = some x) (hm : ∀ p ∈ l, p.1 ≠ key) (w : World) : (Instr.findKey k key (entsOf l)).run P w = .ok none w := by
  obtain ⟨x, hx⟩ := hk
  rcases K.find w hx (entsOf l) (fun e he => by obtain ⟨p, hp, h1, _⟩ := ents_mem he; rw [h1]; exact hl p hp) with ⟨h1, _⟩ | ⟨i, e', _, h2, h3⟩
  · exact h1
  · obtain ⟨p, hp, h4, _⟩ := ents_mem (List.mem_iff_getElem?.2 ⟨i, h2⟩)
    exact absurd (h4.symm.trans h3) (hm p hp)
theorem look_hit (K : Maps.Keyed P k) (ht : P.underlying t = some (.map k e)) (hb : w.heap[b]? = some (mkMap l)) (hl : ∀ p ∈ l, ∃ x, keyOf P k p.1 = some x) (hk : ∃ x, keyOf P k key = some x) (hn : (l.map (·.1)).Nodup) {j : Nat} (hj : l[j]? = some (key, v)) :
    (Instr.lookup t (.map (some b)) key true).run P w = .ok (.tuple #[v, .bool true]) w := by
  have hb' : w.heap[b]? = some (.map (entsOf l).toArray l.length) := hb
  have hf := find_hit K hl hk hn hj w
  obtain ⟨x, hx⟩ := hk
  simp [Instr.lookup, run_underlying ht, MapKept.run_getObj_map hb', K.check w _ hx, hf, Result.andThen]
theorem look_miss (K : Maps.Keyed P k) (ht : P.underlying t = some (.map k e)) (hb : w.heap[b]? = some (mkMap l)) (hl : ∀ p ∈ l, ∃ x, keyOf P k p.1 = some x) (hk : ∃ x, keyOf P k key = some x) (hm : ∀ p ∈ l, p.1 ≠ key) {z : Value} (hz : (zeroValue e).run P w = .ok z w) :
    (Instr.lookup t (.map (some b)) key true).run P w = .ok (.tuple #[z, .bool false]) w := by
  have hb' : w.heap[b]? = some (.map (entsOf l).toArray l.length) := hb
  have hf := find_miss K hl hk hm w
  obtain ⟨x, hx⟩ := hk
  simp [Instr.lookup, run_underlying ht, MapKept.run_getObj_map hb', K.check w _ hx, hf, hz, Result.andThen]
theorem put_new (K : Maps.Keyed P k) (ht : P.underlying t = some (.map k e)) (hb : w.heap[b]? = some (mkMap l)) (hl : ∀ p ∈ l, ∃ x, keyOf P k p.1 = some x) (hk : ∃ x, keyOf P k key = some x) (hm : ∀ p ∈ l, p.1 ≠ key) (v : Value) :
    (Instr.mapUpdate t (.map (some b)) key v).run P w = .ok () (ChangeMaps.setBlock w b (mkMap (l ++ [(key, v)]))) := by
  have hb' : w.heap[b]? = some (.map (entsOf l).toArray l.length) := hb
  have hf := find_miss K hl hk hm w
  obtain ⟨x, hx⟩ := hk
  simp [Instr.mapUpdate, run_underlying ht, MapKept.run_getObj_map hb', K.check w _ hx, hf, MapKept.run_setObj_map _ hb', Result.andThen, ChangeMaps.setBlock, mkMap, ents_snoc]
theorem put_old (K : Maps.Keyed P k) (ht : P.underlying t = some (.map k e)) (hb : w.heap[b]? = some (mkMap l)) (hl : ∀ p ∈ l, ∃ x, keyOf P k p.1 = some x) (hk : ∃ x, keyOf P k key = some x) (hn : (l.map (·.1)).Nodup) {j : Nat} (hj : l[j]? = some (key, v)) :
    (Instr.mapUpdate t (.map (some b)) key v).run P w = .ok () w := by
  have hb' : w.heap[b]? = some (.map (entsOf l).toArray l.length) := hb
  have hf := find_hit K hl hk hn hj w
  obtain ⟨x, hx⟩ := hk
  have hg : (entsOf l).toArray[j]? = some ⟨key, v, j⟩ := by rw [List.getElem?_toArray, ents_get, hj]; rfl
  have hlt : j < (entsOf l).toArray.size := (Array.getElem?_eq_some_iff.1 hg).1
  have hlt' : j < (entsOf l).length := by simpa using hlt
  have hge : (entsOf l)[j]? = some ⟨key, v, j⟩ := by rw [ents_get, hj]; rfl
  have hgg : (entsOf l)[j] = ⟨key, v, j⟩ := (List.getElem?_eq_some_iff.1 hge).2
  have hmod : (entsOf l).modify j (fun e => { e with key := key, val := v }) = entsOf l := by
    apply List.ext_getElem (by simp)
    intro i h1 h2
    rw [List.getElem_modify]
    split
    · rename_i hij
      subst hij
      rw [hgg]
    · rfl
  have hset : w.heap.setIfInBounds b (.map (entsOf l).toArray l.length) = w.heap := by
    have hbl := (Array.getElem?_eq_some_iff.1 hb').1
    apply Array.ext (by simp)
    intro i h1 h2
    rw [Array.getElem_setIfInBounds h2]
    split
    · rename_i hij
      subst hij
      exact ((Array.getElem?_eq_some_iff.1 hb').2).symm
    · rfl
  simp [Instr.mapUpdate, run_underlying ht, MapKept.run_getObj_map hb', K.check w _ hx, hf, hge, K.stays w hx, MapKept.run_setObj_map _ hb', Result.andThen, hmod, hset]
end
end Go.Proofs.YtfolanohokflkabGreatDoor

/-
  The program's table of terms in memory.
-/
namespace Go.Proofs.YtfolanohokflkabGreatDoor
open Go.RowKit

/-- where the table's parts lie. -/
structure TB where
  tb : Nat
  nb : Nat
  sb : Nat
  cb : Nat
  ta : Option Addr
  tn : Nat
  tc : Nat
def TB.row (t : TB) : Option Nat := t.ta.map (·.block)
abbrev fv (n : Nat) : Value := .func (.func n) #[] #[]
def kindCells : List Value := [fv 115, fv 116, fv 118, fv 120, fv 121, fv 122, fv 123, fv 124, fv 125, fv 127, fv 128, fv 129, fv 130, fv 131, fv 134, fv 135, fv 136, fv 137, fv 138, fv 139, fv 140]
def tbCells (t : TB) : List Value := kindCells ++ [.map (some t.nb), .slice t.ta t.tn t.tc, .map (some t.sb), .map (some t.cb)]
/-- a term: what it is made of, and whether it has the empty word. -/
abbrev Te := Ky × Bool
def teCells : List Te → List Value
  | [] => []
  | x :: l => [.int .i64 x.1.kd, .string x.1.st, .int .i64 x.1.fi, .int .i64 x.1.se, .bool x.2] ++ teCells l
theorem teCells_append (a c : List Te) : teCells (a ++ c) = teCells a ++ teCells c := by
  induction a with
  | nil => rfl
  | cons x l ih => simp [teCells, ih]
theorem teCells_length (a : List Te) : (teCells a).length = a.length * 5 := by
  induction a with
  | nil => rfl
  | cons x l ih => simp [teCells, ih]; omega
theorem te_get : ∀ (T : List Te) (i : Nat) (x : Te), T[i]? = some x → (teCells T)[i * 5]? = some (.int .i64 x.1.kd) ∧ (teCells T)[i * 5 + 1]? = some (.string x.1.st) ∧ (teCells T)[i * 5 + 2]? = some (.int .i64 x.1.fi) ∧ (teCells T)[i * 5 + 3]? = some (.int .i64 x.1.se) ∧ (teCells T)[i * 5 + 4]? = some (.bool x.2)
  | [], i, x, h => by simp at h
  | y :: l, 0, x, h => by
    simp at h
    subst h
    simp [teCells]
  | y :: l, i + 1, x, h => by
    have hh := te_get l i x (by simpa using h)
    have e : ∀ j, (teCells (y :: l))[j + 5]? = (teCells l)[j]? := fun j => by
      show ([_, _, _, _, _] ++ teCells l)[j + 5]? = _
      simp
    rw [show (i + 1) * 5 = i * 5 + 5 from by omega, show i * 5 + 5 + 1 = (i * 5 + 1) + 5 from by omega, show i * 5 + 5 + 2 = (i * 5 + 2) + 5 from by omega, show i * 5 + 5 + 3 = (i * 5 + 3) + 5 from by omega, show i * 5 + 5 + 4 = (i * 5 + 4) + 5 from by omega, e, e, e, e, e]
    exact hh
def numPairs (T : List Te) : List (Value × Value) := T.mapIdx fun i x => (vKy x.1, .int .i64 i)
theorem numPairs_snoc (T : List Te) (x : Te) : numPairs (T ++ [x]) = numPairs T ++ [(vKy x.1, .int .i64 T.length)] := by simp [numPairs, List.mapIdx_append]
theorem numPairs_get (T : List Te) (i : Nat) : (numPairs T)[i]? = T[i]?.map fun x => (vKy x.1, .int .i64 i) := by simp [numPairs]
theorem numPairs_mem {T : List Te} {p : Value × Value} (h : p ∈ numPairs T) : ∃ x ∈ T, p.1 = vKy x.1 := by
  obtain ⟨j, hj⟩ := List.mem_iff_getElem?.1 h
  rw [numPairs_get] at hj
  obtain ⟨x, hx, rfl⟩ := Option.map_eq_some_iff.1 hj
  exact ⟨x, List.mem_iff_getElem?.2 ⟨j, hx⟩, rfl⟩
theorem numPairs_keys (T : List Te) : (numPairs T).map (·.1) = T.map fun x => vKy x.1 := by
  apply List.ext_getElem?
  intro i
  rw [List.getElem?_map, numPairs_get, List.getElem?_map]
  cases T[i]? <;> rfl

/-- the table stands in memory. -/
structure Tab (w : World) (t : TB) (T : List Te) (N S C : List (Value × Value)) : Prop where
  tb : w.heap[t.tb]? = some (.cells (tbCells t).toArray 95 (0, 0))
  nb : w.heap[t.nb]? = some (mkMap N)
  sb : w.heap[t.sb]? = some (mkMap S)
  cb : w.heap[t.cb]? = some (mkMap C)
  row : w.ownsRow 0 120 5 (.slice t.ta t.tn t.tc) T.length (teCells T)
  ne : t.tb ≠ t.nb ∧ t.tb ≠ t.sb ∧ t.tb ≠ t.cb ∧ t.nb ≠ t.sb ∧ t.nb ≠ t.cb ∧ t.sb ≠ t.cb
  nr : ∀ a, t.ta = some a → a.block ≠ t.tb ∧ a.block ≠ t.nb ∧ a.block ≠ t.sb ∧ a.block ≠ t.cb
  ok : ∀ x ∈ T, KyOK x.1
  nd : (T.map (·.1)).Nodup
/-- the blocks of the table. -/
def TF (t : TB) (k : Nat) : Prop := k = t.tb ∨ k = t.nb ∨ k = t.sb ∨ k = t.cb ∨ t.row = some k
/-- what a call that works on the table leaves. -/
structure TFr (t t' : TB) (w w' : World) : Prop where
  os : w'.os = w.os
  tape : w'.tape = w.tape
  output : w'.output = w.output
  size : w.heap.size ≤ w'.heap.size
  block : ∀ k, k < w.heap.size → ¬ TF t k → w'.heap[k]? = w.heap[k]?
  tb : t'.tb = t.tb
  nb : t'.nb = t.nb
  sb : t'.sb = t.sb
  cb : t'.cb = t.cb
  row : ∀ k, t'.row = some k → t.row = some k ∨ w.heap.size ≤ k
theorem TFr.foot {t t' : TB} {w w' : World} (h : TFr t t' w w') {k : Nat} (hk : TF t' k) : TF t k ∨ w.heap.size ≤ k := by
  rcases hk with e | e | e | e | e
  · exact .inl (.inl (e.trans h.tb))
  · exact .inl (.inr (.inl (e.trans h.nb)))
  · exact .inl (.inr (.inr (.inl (e.trans h.sb))))
  · exact .inl (.inr (.inr (.inr (.inl (e.trans h.cb)))))
  · exact (h.row k e).imp (fun e => .inr (.inr (.inr (.inr e)))) id
theorem TFr.refl (t : TB) (w : World) : TFr t t w w := ⟨rfl, rfl, rfl, Nat.le_refl _, fun _ _ _ => rfl, rfl, rfl, rfl, rfl, fun _ h => .inl h⟩
theorem TFr.trans {t t' t'' : TB} {w w' w'' : World} (h : TFr t t' w w') (k : TFr t' t'' w' w'') : TFr t t'' w w'' :=
  ⟨k.os.trans h.os, k.tape.trans h.tape, k.output.trans h.output, Nat.le_trans h.size k.size, fun i hi hf => (k.block i (Nat.lt_of_lt_of_le hi h.size) (fun hf' => (h.foot hf').elim hf (fun hl => by omega))).trans (h.block i hi hf), k.tb.trans h.tb, k.nb.trans h.nb, k.sb.trans h.sb, k.cb.trans h.cb, fun i hi => (k.row i hi).elim (fun e => h.row i e) (fun hl => .inr (Nat.le_trans h.size hl))⟩
theorem TFr.below {t : TB} {w w' : World} (h : Below w.heap.size w w') : TFr t t w w' := ⟨h.os, h.tape, h.output, h.size, fun k hk _ => h.block k hk, rfl, rfl, rfl, rfl, fun _ h => .inl h⟩
section
variable {w w' : World} {t : TB} {T : List Te} {N S C : List (Value × Value)}
theorem Tab.move (h : Tab w t T N S C) (hm : ∀ k, TF t k → k < w.heap.size → w'.heap[k]? = w.heap[k]?) : Tab w' t T N S C := by
  have lt : ∀ {k : Nat} {o : Obj}, w.heap[k]? = some o → k < w.heap.size := fun e => (Array.getElem?_eq_some_iff.1 e).1
  refine ⟨(hm _ (.inl rfl) (lt h.tb)).trans h.tb, (hm _ (.inr (.inl rfl)) (lt h.nb)).trans h.nb, (hm _ (.inr (.inr (.inl rfl))) (lt h.sb)).trans h.sb, (hm _ (.inr (.inr (.inr (.inl rfl)))) (lt h.cb)).trans h.cb, ?_, h.ne, h.nr, h.ok, h.nd⟩
  obtain ⟨hl, hx | ⟨g, cap, cur, hv, hb', hg, rest⟩⟩ := h.row
  · exact ⟨hl, .inl hx⟩
  · refine ⟨hl, .inr ⟨g, cap, cur, hv, hb', ?_, rest⟩⟩
    rw [hm g (.inr (.inr (.inr (.inr (by injection hv with e; simp [TB.row, e]))))) (lt hg)]
    exact hg
theorem Tab.below (h : Hid (Tab w t T N S C)) (hb : Below w.heap.size w w') : Hid (Tab w' t T N S C) := (unhide h).move fun k _ hk => hb.block k hk
theorem Tab.alloc (h : Hid (Tab w t T N S C)) (o : Obj) : Hid (Tab (w.alloc o) t T N S C) := Tab.below h ((Below.refl _ _).alloc (Nat.le_refl _) o)
theorem Tab.lt (h : Tab w t T N S C) : t.tb < w.heap.size := (Array.getElem?_eq_some_iff.1 h.tb).1
theorem Tab.foot (h : Tab w t T N S C) {k : Nat} (hk : TF t k) : k < w.heap.size := by
  rcases hk with rfl | rfl | rfl | rfl | e
  · exact (Array.getElem?_eq_some_iff.1 h.tb).1
  · exact (Array.getElem?_eq_some_iff.1 h.nb).1
  · exact (Array.getElem?_eq_some_iff.1 h.sb).1
  · exact (Array.getElem?_eq_some_iff.1 h.cb).1
  · refine (h.row.lt k ?_).2
    simp only [TB.row, Option.map_eq_some_iff] at e
    obtain ⟨a, ha, rfl⟩ := e
    rw [ha]
    rfl
theorem Tab.cells (h : Tab w t T N S C) : w.cell? ⟨t.tb, 21, none⟩ = some (.map (some t.nb)) ∧ w.cell? ⟨t.tb, 22, none⟩ = some (.slice t.ta t.tn t.tc) ∧ w.cell? ⟨t.tb, 23, none⟩ = some (.map (some t.sb)) ∧ w.cell? ⟨t.tb, 24, none⟩ = some (.map (some t.cb)) := by
  have e := h.tb
  refine ⟨?_, ?_, ?_, ?_⟩ <;> simp [World.cell?, e, tbCells, kindCells]
theorem Tab.kind (h : Tab w t T N S C) {j : Nat} {v : Value} (hj : kindCells[j]? = some v) : w.cell? ⟨t.tb, j, none⟩ = some v := by
  have e := h.tb
  have hl : j < kindCells.length := (List.getElem?_eq_some_iff.1 hj).1
  simp [World.cell?, e, tbCells, List.getElem?_append_left hl, hj]
theorem Tab.fz (h : Tab w t T N S C) (j : Nat) : w.frozen? ⟨t.tb, j, none⟩ = false := by
  have e := h.tb
  simp [World.frozen?, e]
/-- a term's cells. -/
theorem Tab.term (h : Tab w t T N S C) {i : Nat} {x : Te} (hi : T[i]? = some x) : ∃ g, t.ta = some ⟨g, 0, none⟩ ∧ t.tn = T.length ∧ w.cell? ⟨g, i * 5, none⟩ = some (.int .i64 x.1.kd) ∧ w.cell? ⟨g, i * 5 + 1, none⟩ = some (.string x.1.st) ∧ w.cell? ⟨g, i * 5 + 2, none⟩ = some (.int .i64 x.1.fi) ∧ w.cell? ⟨g, i * 5 + 3, none⟩ = some (.int .i64 x.1.se) ∧ w.cell? ⟨g, i * 5 + 4, none⟩ = some (.bool x.2) := by
  have hlt : i < T.length := (List.getElem?_eq_some_iff.1 hi).1
  have hr := h.row
  obtain ⟨hl, ⟨hv, hn⟩ | ⟨g, cap, cur, hv, hb', hg, rest⟩⟩ := h.row
  · omega
  · injection hv with e1 e2 e3
    rw [e1, e2, e3] at hr
    obtain ⟨a0, a1, a2, a3, a4⟩ := te_get T i x hi
    refine ⟨g, e1, e2, ?_, ?_, ?_, ?_, ?_⟩
    · rw [hr.cellAt _ (by omega)]; exact a0
    · rw [hr.cellAt _ (by omega)]; exact a1
    · rw [hr.cellAt _ (by omega)]; exact a2
    · rw [hr.cellAt _ (by omega)]; exact a3
    · rw [hr.cellAt _ (by omega)]; exact a4
end
end Go.Proofs.YtfolanohokflkabGreatDoor

namespace Go.Proofs.YtfolanohokflkabGreatDoor
open Go.RowKit
/-! whether a term has the empty word -/
theorem kyBelow (w : World) (o : Obj) (n : Nat) : Hid (Below w.heap.size w ((w.alloc o).drewN n)) := by
  have h : Below w.heap.size w (w.alloc o) := (Below.refl _ _).alloc (Nat.le_refl _) _
  exact ⟨h.os, h.tape, h.output, h.size, h.block⟩
section
variable {w : World} {t : TB} {T : List Te} {N S C : List (Value × Value)} {k : Ky}
theorem he_set : Calls Tryz.prog 115 #[.pointer (some ⟨t.tb, 0, none⟩), vKy k] w fun x w' => x = .returned (.bool false) ∧ Hid (Below w.heap.size w w') := by
  unfold vKy
  go_enter Tryz.func115, Tryz.ntmps115
  go_wp2_with fail
  go_ret
  exact ⟨rfl, (Below.refl _ _).alloc (Nat.le_refl _) _⟩
theorem he_empty : Calls Tryz.prog 120 #[.pointer (some ⟨t.tb, 0, none⟩), vKy k] w fun x w' => x = .returned (.bool true) ∧ Hid (Below w.heap.size w w') := by
  unfold vKy
  go_enter Tryz.func120, Tryz.ntmps120
  go_wp2_with fail
  go_ret
  exact ⟨rfl, (Below.refl _ _).alloc (Nat.le_refl _) _⟩
theorem he_star : Calls Tryz.prog 127 #[.pointer (some ⟨t.tb, 0, none⟩), vKy k] w fun x w' => x = .returned (.bool true) ∧ Hid (Below w.heap.size w w') := by
  unfold vKy
  go_enter Tryz.func127, Tryz.ntmps127
  go_wp2_with fail
  go_ret
  exact ⟨rfl, (Below.refl _ _).alloc (Nat.le_refl _) _⟩

set_option maxRecDepth 100000 in
set_option maxHeartbeats 4000000 in
theorem he_not (h : Hid (Tab w t T N S C)) {i : Nat} {x : Te} (hi : T[i]? = some x) (hfi : k.fi = (i : Int)) : Calls Tryz.prog 138 #[.pointer (some ⟨t.tb, 0, none⟩), vKy k] w fun e w' => e = .returned (.bool (!x.2)) ∧ Hid (Below w.heap.size w w') := by
  obtain ⟨kd, st, fi, se⟩ := k
  dsimp only at hfi
  subst hfi
  unfold vKy
  dsimp only
  have H1 := unhide (Tab.alloc h (.cells #[.int .i64 kd, .string st, .int .i64 i, .int .i64 se] 99))
  obtain ⟨g, ea, en, c0, c1, c2, c3, c4⟩ := H1.term hi
  obtain ⟨q1, q2, q3, q4⟩ := H1.cells
  rw [ea, en] at q2
  have hlt : i < T.length := (List.getElem?_eq_some_iff.1 hi).1
  have hI : (i : Int) < (T.length : Int) := by omega
  have hI0 : (0 : Int) ≤ (i : Int) := by omega
  clear H1 h
  go_enter Tryz.func138, Tryz.ntmps138
  go_wp2_with fail
  go_quiet (fail)
  go_wp2_with fail
  go_ret
  exact ⟨rfl, kyBelow _ _ _⟩

set_option maxRecDepth 100000 in
set_option maxHeartbeats 4000000 in
theorem he_chain (h : Hid (Tab w t T N S C)) {i j : Nat} {x y : Te} (hi : T[i]? = some x) (hj : T[j]? = some y) (hfi : k.fi = (i : Int)) (hse : k.se = (j : Int)) : Calls Tryz.prog 123 #[.pointer (some ⟨t.tb, 0, none⟩), vKy k] w fun e w' => e = .returned (.bool (x.2 && y.2)) ∧ Hid (Below w.heap.size w w') := by
  obtain ⟨kd, st, fi, se⟩ := k
  dsimp only at hfi hse
  subst hfi
  subst hse
  unfold vKy
  dsimp only
  have H1 := unhide (Tab.alloc h (.cells #[.int .i64 kd, .string st, .int .i64 i, .int .i64 j] 99))
  obtain ⟨g, ea, en, c0, c1, c2, c3, c4⟩ := H1.term hi
  obtain ⟨g', ea', en', d0, d1, d2, d3, d4⟩ := H1.term hj
  have hg : g' = g := by rw [ea] at ea'; injection ea' with ea'; injection ea' with ea'; exact ea'.symm
  subst hg
  obtain ⟨q1, q2, q3, q4⟩ := H1.cells
  rw [ea, en] at q2
  have hlt : i < T.length := (List.getElem?_eq_some_iff.1 hi).1
  have hlt' : j < T.length := (List.getElem?_eq_some_iff.1 hj).1
  have hI : (i : Int) < (T.length : Int) := by omega
  have hI0 : (0 : Int) ≤ (i : Int) := by omega
  have hJ : (j : Int) < (T.length : Int) := by omega
  have hJ0 : (0 : Int) ≤ (j : Int) := by omega
  clear H1 h ea' en' ea en
  obtain ⟨xk, xb⟩ := x
  obtain ⟨yk, yb⟩ := y
  dsimp only at *
  cases xb
  all_goals
    go_enter Tryz.func123, Tryz.ntmps123
    go_wp2_with fail
    go_quiet (fail)
    go_wp2_with fail
    go_ret
    exact ⟨by simp, kyBelow _ _ _⟩

set_option maxRecDepth 100000 in
set_option maxHeartbeats 4000000 in
theorem he_any (h : Hid (Tab w t T N S C)) {i j : Nat} {x y : Te} (hi : T[i]? = some x) (hj : T[j]? = some y) (hfi : k.fi = (i : Int)) (hse : k.se = (j : Int)) : Calls Tryz.prog 130 #[.pointer (some ⟨t.tb, 0, none⟩), vKy k] w fun e w' => e = .returned (.bool (x.2 || y.2)) ∧ Hid (Below w.heap.size w w') := by
  obtain ⟨kd, st, fi, se⟩ := k
  dsimp only at hfi hse
  subst hfi
  subst hse
  unfold vKy
  dsimp only
  have H1 := unhide (Tab.alloc h (.cells #[.int .i64 kd, .string st, .int .i64 i, .int .i64 j] 99))
  obtain ⟨g, ea, en, c0, c1, c2, c3, c4⟩ := H1.term hi
  obtain ⟨g', ea', en', d0, d1, d2, d3, d4⟩ := H1.term hj
  have hg : g' = g := by rw [ea] at ea'; injection ea' with ea'; injection ea' with ea'; exact ea'.symm
  subst hg
  obtain ⟨q1, q2, q3, q4⟩ := H1.cells
  rw [ea, en] at q2
  have hlt : i < T.length := (List.getElem?_eq_some_iff.1 hi).1
  have hlt' : j < T.length := (List.getElem?_eq_some_iff.1 hj).1
  have hI : (i : Int) < (T.length : Int) := by omega
  have hI0 : (0 : Int) ≤ (i : Int) := by omega
  have hJ : (j : Int) < (T.length : Int) := by omega
  have hJ0 : (0 : Int) ≤ (j : Int) := by omega
  clear H1 h ea' en' ea en
  obtain ⟨xk, xb⟩ := x
  obtain ⟨yk, yb⟩ := y
  dsimp only at *
  cases xb
  all_goals
    go_enter Tryz.func130, Tryz.ntmps130
    go_wp2_with fail
    go_quiet (fail)
    go_wp2_with fail
    go_ret
    exact ⟨by simp, kyBelow _ _ _⟩

set_option maxRecDepth 100000 in
set_option maxHeartbeats 4000000 in
theorem he_all (h : Hid (Tab w t T N S C)) {i j : Nat} {x y : Te} (hi : T[i]? = some x) (hj : T[j]? = some y) (hfi : k.fi = (i : Int)) (hse : k.se = (j : Int)) : Calls Tryz.prog 135 #[.pointer (some ⟨t.tb, 0, none⟩), vKy k] w fun e w' => e = .returned (.bool (x.2 && y.2)) ∧ Hid (Below w.heap.size w w') := by
  obtain ⟨kd, st, fi, se⟩ := k
  dsimp only at hfi hse
  subst hfi
  subst hse
  unfold vKy
  dsimp only
  have H1 := unhide (Tab.alloc h (.cells #[.int .i64 kd, .string st, .int .i64 i, .int .i64 j] 99))
  obtain ⟨g, ea, en, c0, c1, c2, c3, c4⟩ := H1.term hi
  obtain ⟨g', ea', en', d0, d1, d2, d3, d4⟩ := H1.term hj
  have hg : g' = g := by rw [ea] at ea'; injection ea' with ea'; injection ea' with ea'; exact ea'.symm
  subst hg
  obtain ⟨q1, q2, q3, q4⟩ := H1.cells
  rw [ea, en] at q2
  have hlt : i < T.length := (List.getElem?_eq_some_iff.1 hi).1
  have hlt' : j < T.length := (List.getElem?_eq_some_iff.1 hj).1
  have hI : (i : Int) < (T.length : Int) := by omega
  have hI0 : (0 : Int) ≤ (i : Int) := by omega
  have hJ : (j : Int) < (T.length : Int) := by omega
  have hJ0 : (0 : Int) ≤ (j : Int) := by omega
  clear H1 h ea' en' ea en
  obtain ⟨xk, xb⟩ := x
  obtain ⟨yk, yb⟩ := y
  dsimp only at *
  cases xb
  all_goals
    go_enter Tryz.func135, Tryz.ntmps135
    go_wp2_with fail
    go_quiet (fail)
    go_wp2_with fail
    go_ret
    exact ⟨by simp, kyBelow _ _ _⟩
end
end Go.Proofs.YtfolanohokflkabGreatDoor

namespace Go.Proofs.YtfolanohokflkabGreatDoor
open Go.RowKit
/-! keep: a term that is known -/
theorem kyKeyed : Maps.Keyed Tryz.prog 99 := Maps.Keyed.of_law kyLaw
section
variable {w : World} {t : TB} {T : List Te} {N S C : List (Value × Value)} {k : Ky}
theorem Tab.keys (h : Tab w t T N S C) : ∀ p ∈ numPairs T, ∃ x, keyOf Tryz.prog 99 p.1 = some x := fun p hp => by
  obtain ⟨x, hx, e⟩ := numPairs_mem hp
  rw [e]
  exact kyOf (h.ok x hx)
theorem Tab.nodup (h : Tab w t T N S C) : ((numPairs T).map (·.1)).Nodup := by
  rw [numPairs_keys, show (T.map fun x => vKy x.1) = (T.map (·.1)).map vKy from by simp]
  exact List.Pairwise.map vKy (fun a b hab e => hab (vKy_inj e)) h.nd
theorem Tab.known (h : Tab w t T (numPairs T) S C) {i : Nat} {x : Te} (hi : T[i]? = some x) : (Instr.lookup 90 (.map (some t.nb)) (vKy x.1) true).run Tryz.prog w = .ok (.tuple #[.int .i64 i, .bool true]) w :=
  look_hit kyKeyed Tryz.underlying90 h.nb h.keys (kyOf (h.ok x (List.mem_iff_getElem?.2 ⟨i, hi⟩))) h.nodup (by rw [numPairs_get, hi]; rfl)
theorem Tab.drew (h : Tab w t T N S C) (n : Nat) : Tab (w.drewN n) t T N S C := ⟨h.tb, h.nb, h.sb, h.cb, h.row, h.ne, h.nr, h.ok, h.nd⟩

set_option maxRecDepth 100000 in
set_option maxHeartbeats 4000000 in
theorem keep_old (h : Hid (Tab w t T (numPairs T) S C)) {i : Nat} {b : Bool} (hi : T[i]? = some (k, b)) : Calls Tryz.prog 46 #[.pointer (some ⟨t.tb, 0, none⟩), vKy k] w fun e w' => e = .returned (.int .i64 i) ∧ Hid (Below w.heap.size w w') := by
  obtain ⟨kd, st, fi, se⟩ := k
  have H1 := unhide (Tab.alloc h (.cells #[.int .i64 kd, .string st, .int .i64 fi, .int .i64 se] 99))
  obtain ⟨q1, q2, q3, q4⟩ := H1.cells
  have hl := fun n => (H1.drew n).known hi
  unfold vKy at hl ⊢
  dsimp only at hl ⊢
  have hl0 := H1.known hi
  unfold vKy at hl0
  dsimp only at hl0
  clear H1 h
  go_enter Tryz.func46, Tryz.ntmps46
  go_wp2_with fail
  go_quiet (fail)
  go_wp2_with fail
  go_ret
  exact ⟨rfl, kyBelow _ _ _⟩
end
end Go.Proofs.YtfolanohokflkabGreatDoor
