import Derived.Test.YtfolanohokflkaaGreatDoorTxtB
import Derived.Test.YtfolanohokflkaaGreatDoorRpG
import Derived.Test.YtfolanohokflkaaGreatDoorOnlA
import Derived.Test.YtfolanohokflkaaGreatDoorBgB
import Derived.Deep.RegionHeld3
namespace Go.Proofs.YtfolanohokflkaaGreatDoor
open Go.RowKit
structure NS (w X:World) (pb:Nat) (m:Nd) (t1:TB):Prop where
 nd:au X pb m
 bl:Below w.heap.size w X
 tb:aX X t1 nO (ak nO) [] []
theorem NS.under {w X Y:World} {pb:Nat} {m:Nd} {t1:TB} (hb:Hid (Below X.heap.size X Y)) (h:Hid (NS w X pb m t1)):Hid (NS w Y pb m t1):=
 ⟨((aa hb).block _ (Array.getElem?_eq_some_iff.1 (aa h).nd).1).trans (aa h).nd,(aa h).bl.trans ((aa hb).mono (aa h).bl.size),aa (aX.below (hide (aa h).tb) (aa hb))⟩
theorem NS.cells {w X:World} {pb:Nat} {m:Nd} {t1:TB} (h:Hid (NS w X pb m t1)):X.cell? ⟨pb,0,none⟩=some (.int .i64 m.sh)/\X.cell? ⟨pb,1,none⟩=some (.slice m.pa m.pn m.pc)/\X.cell? ⟨pb,2,none⟩=some (.string m.ss)/\X.cell? ⟨pb,3,none⟩=some (.int .i64 m.le)/\X.cell? ⟨pb,4,none⟩=some (.int .i64 m.mo)/\X.cell? ⟨pb,5,none⟩=some (.int .i64 m.fa)/\X.cell? ⟨pb,6,none⟩=some (.int .i64 m.sz):=au.cells (aa h).nd
theorem NS.after {w X Y:World} {pb:Nat} {m:Nd} {t1 t':TB} (h:Hid (NS w X pb m t1)) (hf:Hid (a_ t1 t' X Y)) (hp:¬ TF t1 pb):Hid (au Y pb m):=((aa hf).block pb (Array.getElem?_eq_some_iff.1 (aa h).nd).1 hp).trans (aa h).nd
theorem au.under {W W':World} {pb:Nat} {m:Nd} (hb:Hid (Below W.heap.size W W')) (h:Hid (au W pb m)):Hid (au W' pb m):=
 ((aa hb).block _ (Array.getElem?_eq_some_iff.1 (aa h)).1).trans (aa h)
end Go.Proofs.YtfolanohokflkaaGreatDoor
