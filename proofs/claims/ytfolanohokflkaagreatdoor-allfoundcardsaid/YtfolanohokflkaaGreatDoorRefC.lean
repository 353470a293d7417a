import Derived.Test.YtfolanohokflkaaGreatDoorTabC
import Derived.WalkKit
import Derived.WalkSpells
import Derived.WalkLawsBesides
import Derived.Test.YtfolanohokflkaaGreatDoorDec
namespace Go.Proofs.YtfolanohokflkaaGreatDoor
open Go.RowKit
theorem bz (wr:World) (cs:List Value) (t:TypeId):∀ (j:Nat) (u:Value),cs[j]? = some u->(wr.alloc (.cells cs.toArray t)).cell? ((⟨wr.heap.size,0,none⟩:Addr).add j)=some u:=by
 intro j u hj
 rw [Addr.add_lit,World.cell?_alloc_at _ _ _ _ rfl]
 simpa using hj
theorem iW {B:Nat} {w wr w1:World} {o:Obj} {e size n:Nat} {v:Value} {xs:List Value} (hb:Below B w wr) (ho:wr.ownsRow B e size v n xs) (hg:(wr.alloc o).grownBy w1 v.ownBlock) (hB:B<=wr.heap.size):Below B w w1:=
 (hb.alloc hB o).grown hg (by simp;omega) (fun k hk=>(ho.lt k hk).1)
end Go.Proofs.YtfolanohokflkaaGreatDoor
