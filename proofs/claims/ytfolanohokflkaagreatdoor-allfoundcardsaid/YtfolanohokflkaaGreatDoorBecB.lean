import Derived.Test.YtfolanohokflkaaGreatDoorBecA
import Derived.WalkKit
import Derived.WalkSpells
import Derived.WalkLawsBesides
import Derived.WalkMore
import Derived.Deep.QuietTactic
import Derived.BigQuiet
import Derived.BigRegion
import Derived.Deep.RegionHeld3
namespace Go.Proofs.YtfolanohokflkaaGreatDoor
open Go.RowKit
section
variable {w:World} {t:TB} {T:List Te} {N S C:List (Value×Value)} {k:Ky}
theorem kU.rn {g cap:Nat} {dn:List Int} (h:kU w t g cap dn):Rn w w g dn.length cap dn:=⟨h.own,rfl,rfl,rfl,rfl,rfl,fun _ _=>rfl⟩
theorem kU.below {w':World} {g cap:Nat} {dn:List Int} (h:Hid (kU w t g cap dn)) (hb:Below w.heap.size w w'):Hid (kU w' t g cap dn):=(aa h).move (hb.block g (aa h).lt)
theorem xn {r:Nat} {a c:Value} {ty:TypeId} (h:w.heap[r]? = some (.cells #[a,c] ty)):w.cell? ⟨r,0,none⟩=some a/\w.cell? ⟨r,1,none⟩=some c:=by
 refine ⟨?_,?_⟩<;>simp [World.cell?,h]
theorem aX.stepped (h:aX w t T N S C) (S':List (Value×Value)):aX (ChangeMaps.setBlock w t.sb (mkMap S')) t T N S' C:=by
 obtain ⟨n1,n2,n3,n4,n5,n6⟩:=h.ne
 refine ⟨(bO n2).trans h.tb,(bO n4).trans h.nb,vN (h.foot (.inr (.inr (.inl rfl)))),(bO (Ne.symm n6)).trans h.cb,?_,h.ne,h.nr,h.ok,h.nd⟩
 obtain ⟨hl,hx | ⟨g,cap,cur,hv,hb',hg,rest⟩⟩:=h.row
 ·exact ⟨hl,.inl hx⟩
 ·refine ⟨hl,.inr ⟨g,cap,cur,hv,hb',?_,rest⟩⟩
  have hne:g≠t.sb:=by injection hv with e;exact (h.nr _ e).2.2.1
  exact (bO hne).trans hg
end
end Go.Proofs.YtfolanohokflkaaGreatDoor
