import Derived.Test.YtfolanohokflkabGreatDoorNdP
import Derived.Test.YtfolanohokflkabGreatDoorBnd
import Derived.BigRegion
import Derived.Deep.RegionWith
import Derived.WalkKit
import Derived.WalkSpells
import Derived.WalkLawsBesides
import Derived.WalkMore
namespace Go.Proofs.YtfolanohokflkabGreatDoor
open Go.RowKit
/-- a part under so many signs. -/
def notK : Nat → Pn → Pn
  | 0, p => p
  | k + 1, p => notK k (notN p)
theorem mapR_id {a : Type} (r : Res a) : mapR (fun x => x) r = r := by cases r <;> rfl
theorem mapR_not0 (r : Res Pn) : mapR (notK 0) r = r := by cases r <;> rfl
theorem mapR_notS {n : Nat} {at_ : List Sy → Res Pn} {k f : Nat} {l : List Sy} (h : hd l = 126) : mapR (notK k) (itemP n at_ (f + 1) l) = mapR (notK (k + 1)) (itemP n at_ f l.tail) := by
  rw [itemP, if_pos h]
  cases itemP n at_ f l.tail <;> rfl
section
variable {w0 w : World} {b : Nat} {s : ByteArray} {d : Int} {l : List Sy}
theorem wrap_parts {W : World} {nb : Nat} {n n' : Nd} {F : Nat → Prop} (hs : W.heap.size ≠ nb) (hF : F W.heap.size) : PartsV (setNd (W.alloc (obNd n)) nb n') F (.slice (some ⟨W.heap.size, 0, none⟩) 1 1) [n] := by
  refine ⟨?_, fun k hk => ?_⟩
  · have h : (W.alloc (obNd n)).ownsRow 0 53 7 (.slice (some ⟨W.heap.size, 0, none⟩) 1 1) 1 (cNd n) := World.ownsRow_lit W #[.int .i64 n.sh, .slice n.pa n.pn n.pc, .string n.ss, .int .i64 n.le, .int .i64 n.mo, .int .i64 n.fa, .int .i64 n.sz] 1 (Nat.zero_le _) (by decide) rfl
    have e : ndCells [n] = cNd n := by simp [ndCells]
    rw [e]
    exact own_move h fun k hk _ => by
      have : W.heap.size = k := by simpa [Value.ownBlock] using hk
      subst this
      exact setNd_other hs
  · have : W.heap.size = k := by simpa [Value.ownBlock] using hk
    subst this; exact hF
theorem node_store {W : World} {nb : Nat} {n n' : Nd} {o : Obj} {t : Pt} {F : Nat → Prop} (h : NodeV W F n t) (hF : ∀ k, F k → k ≠ nb) : NodeV (setNd (W.alloc o) nb n') F n t :=
  h.move fun k hk hl => ⟨(setNd_other (hF k hk)).trans (Below.heap_alloc W o k hl), hk⟩
end
end Go.Proofs.YtfolanohokflkabGreatDoor
