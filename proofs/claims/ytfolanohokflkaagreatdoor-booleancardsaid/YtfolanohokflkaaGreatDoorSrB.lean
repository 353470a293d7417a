import Derived.Test.YtfolanohokflkaaGreatDoorProC
import Derived.Test.YtfolanohokflkaaGreatDoorBsA
import Derived.Test.YtfolanohokflkaaGreatDoorBecB
import Derived.WalkKit
import Derived.WalkSpells
import Derived.WalkLawsBesides
import Derived.WalkMore
import Derived.Deep.QuietTactic
import Derived.BigQuiet
import Derived.Deep.RegionHeld3
namespace Go.Proofs.YtfolanohokflkaaGreatDoor
open Go.RowKit
set_option maxRecDepth 100000 in
set_option maxHeartbeats 4000000 in
theorem BR (w:World) (B:Int):Calls Tryz.prog 71 #[.int .i64 B] w fun e w'=>∃ mb,e=.returned (.agg #[.int .i64 B,.map (some mb)])/\Hid (Met w' mb [])/\w.heap.size<=mb/\Hid (Below w.heap.size w w'):=by
 have hm1:∀ w:World,(Instr.makeMap 103 none).run Tryz.prog w=.ok (.map (some w.heap.size)) (w.alloc (mkMap [])):=fun w=>rfl
 go_enter Tryz.func71,Tryz.ntmps71
 go_wp2_with fail
 have hsz:(w.alloc (.cells #[.int .i64 B,.map (some (w.heap.size+1))] 105)).heap.size=w.heap.size+1:=by simp
 have k0:((w.alloc (.cells #[.int .i64 B,.map (some (w.heap.size+1))] 105)).alloc (mkMap [])).cell? ⟨w.heap.size,0,none⟩=some (.int .i64 B):=by
  rw [World.cell?_of_block (a:=⟨w.heap.size,0,none⟩) (Below.heap_alloc _ _ w.heap.size (by rw [hsz];omega))]
  exact aB rfl 0 rfl
 have k1:((w.alloc (.cells #[.int .i64 B,.map (some (w.heap.size+1))] 105)).alloc (mkMap [])).cell? ⟨w.heap.size,1,none⟩=some (.map (some (w.heap.size+1))):=by
  rw [World.cell?_of_block (a:=⟨w.heap.size,1,none⟩) (Below.heap_alloc _ _ w.heap.size (by rw [hsz];omega))]
  exact aB rfl 1 rfl
 refine bodyPost_ret (v:=.agg #[.int .i64 B,.map (some (w.heap.size+1))]) ?_ rfl ⟨w.heap.size+1,rfl,hide ⟨?_,(fun n hn=>by cases hn),List.nodup_nil⟩,by omega,?_⟩
 ·simp [results,Tryz.results71,go_sem,k0,k1]
 ·have h:=heap_alloc_new (w.alloc (.cells #[.int .i64 B,.map (some (w.heap.size+1))] 105)) (mkMap [])
  rw [hsz] at h
  exact h
 ·exact ((Below.refl w.heap.size w).alloc (Nat.le_refl _) _).alloc (by rw [hsz];omega) _
end Go.Proofs.YtfolanohokflkaaGreatDoor
namespace Go.Proofs.YtfolanohokflkaaGreatDoor
open Go.RowKit
theorem kP.block {w:World} {t:TB} {g cap:Nat} {dw:List Int} (h:kP w t g cap dw):∃ cur,w.heap[g]? = some (.cells cur 21 (0,0)):=by
 obtain ⟨hl,hx | ⟨g',cap',cur,hv,hb',hg,rest⟩⟩:=h.own
 ·exact absurd hx.1 (by simp)
 ·have e':g'=g:=by injection hv with e;injection e with e;injection e with e;exact e.symm
  subst e'
  exact ⟨cur,hg⟩
section
variable {w0 w w':World} {b0 mb tb:Nat} {t t':TB} {T:List Te} {S C S' C':List (Value×Value)} {M M':List Nat} {KP:Nat->Prop}
end
end Go.Proofs.YtfolanohokflkaaGreatDoor
namespace Go.Proofs.YtfolanohokflkaaGreatDoor
open Go.RowKit
structure aaJ (w:World) (sb mb tb:Nat) (B:Int) (n0:Nat) (L:List Int) (ao:Option Addr) (cap:Nat) (KP:Nat->Prop):Prop where
 c0:w.cell? ⟨sb,0,none⟩=some (.pointer (some ⟨tb,0,none⟩))
 c1:w.cell? ⟨sb,1,none⟩=some (.int .i64 B)
 c2:w.cell? ⟨sb,2,none⟩=some (.map (some mb))
 c3:w.cell? ⟨sb,3,none⟩=some (.int .i64 n0)
 c4:w.cell? ⟨sb,4,none⟩=some (.slice ao L.length cap)
 kp:KP sb
 row:∀ k,k<L.length->∃ g,ao=some ⟨g,0,none⟩/\KP g/\w.cell? ⟨g,k,none⟩=some (.int .i32 (L.getD k 0))
section
variable {w0 w:World} {b0 sb mb tb:Nat} {t:TB} {T:List Te} {S C:List (Value×Value)} {M:List Nat} {KP:Nat->Prop} {B:Int} {n0:Nat} {L:List Int} {ao:Option Addr} {cap:Nat}
end
end Go.Proofs.YtfolanohokflkaaGreatDoor
