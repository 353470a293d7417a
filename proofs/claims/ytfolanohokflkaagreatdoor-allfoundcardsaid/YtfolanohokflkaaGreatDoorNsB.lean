import Derived.Test.YtfolanohokflkaaGreatDoorNsA
import Derived.Deep.RegionHeld
namespace Go.Proofs.YtfolanohokflkaaGreatDoor
open Go.RowKit
theorem NV {w X Y:World} {pb mb:Nat} {m:Nd} {t1 t':TB} (h:Hid (NS w X pb m t1)) (hm:Hid (Met X mb [])) (hmt:¬ TF t1 mb) (hF:Hid (∀ k,TF t1 k->w.heap.size+1<=k)) (hf:Hid (a_ t1 t' X Y)):Hid (Met Y mb [])/\¬ TF t' mb/\(∀ k,TF t' k->w.heap.size<=k)/\Hid (Below w.heap.size w Y):=by
 have hlt:mb<X.heap.size:=(Array.getElem?_eq_some_iff.1 (aa hm).at_).1
 have f:=aa hf
 refine ⟨(aa hm).move (f.block mb hlt hmt),fun e=>?_,fun k e=>?_,a_.base hf (hide (aa h).bl) (fun k hk=>by have:=aa hF k hk;omega)⟩
 ·rcases f.foot e with e | e
  ·exact hmt e
  ·omega
 ·rcases f.foot e with e | e
  ·have:=aa hF k e;omega
  ·exact Nat.le_trans (aa h).bl.size e
theorem aC {X Y:World} {a:Addr} {v:Value} (hb:Hid (Below X.heap.size X Y)) (hl:a.block<X.heap.size) (h:X.cell? a=some v):Y.cell? a=some v:=by
 rw [World.cell?_of_block (a:=a) ((aa hb).block _ hl)]
 exact h
end Go.Proofs.YtfolanohokflkaaGreatDoor
