import Derived.Test.YtfolanohokflkaaGreatDoorBecA
import Derived.WalkKit
import Derived.WalkSpells
import Derived.WalkLawsBesides
import Derived.WalkMore
import Derived.Deep.QuietTactic
import Derived.BigQuiet
import Derived.BigRegion
import Derived.Deep.RegionHeld3
namespace Go.Proofs.YtfolanohokflkaaGreatDoor
open Go.RowKit
section
variable {w:World} {t:TB} {T:List Te} {N S C:List (Value×Value)} {k:Ky}
theorem kZ.rn {g cap:Nat} {dE:List Int} (h:kZ w t g cap dE):Rn w w g dE.length cap dE:=⟨h.own,rfl,rfl,rfl,rfl,rfl,fun _ _=>rfl⟩
theorem kZ.below {w':World} {g cap:Nat} {dE:List Int} (h:Hid (kZ w t g cap dE)) (hb:Below w.heap.size w w'):Hid (kZ w' t g cap dE):=(aa h).move (hb.block g (aa h).lt)
theorem xB {r:Nat} {a c:Value} {ty:TypeId} (h:w.heap[r]? = some (.cells #[a,c] ty)):w.cell? ⟨r,0,none⟩=some a/\w.cell? ⟨r,1,none⟩=some c:=by
 refine ⟨?_,?_⟩<;>simp [World.cell?,h]
theorem bf.stepped (h:bf w t T N S C) (S':List (Value×Value)):bf (ChangeMaps.setBlock w t.sb (mkMap S')) t T N S' C:=by
 obtain ⟨n1,n2,n3,n4,n5,n6⟩:=h.ne
 refine ⟨(bW n2).trans h.tb,(bW n4).trans h.nb,vQ (h.foot (.inr (.inr (.inl rfl)))),(bW (Ne.symm n6)).trans h.cb,?_,h.ne,h.nr,h.ok,h.nd⟩
 obtain ⟨hl,hx | ⟨g,cap,cur,hv,hb',hg,rest⟩⟩:=h.row
 ·exact ⟨hl,.inl hx⟩
 ·refine ⟨hl,.inr ⟨g,cap,cur,hv,hb',?_,rest⟩⟩
  have hne:g≠t.sb:=by injection hv with e;exact (h.nr _ e).2.2.1
  exact (bW hne).trans hg
end
end Go.Proofs.YtfolanohokflkaaGreatDoor
