import Derived.Test.YtfolanohokflkaaGreatDoorTabC
import Derived.Test.YtfolanohokflkaaGreatDoorBlE
import Derived.Test.YtfolanohokflkaaGreatDoorTabD
import Derived.WalkKit
import Derived.WalkSpells
import Derived.WalkLawsBesides
import Derived.WalkMore
import Derived.Deep.QuietTactic
import Derived.BigQuiet
import Derived.BigRegion
import Derived.Test.YtfolanohokflkaaGreatDoorRefC
namespace Go.Proofs.YtfolanohokflkaaGreatDoor
open Go.RowKit
theorem abr {w:World} {x y:Int} {k:Nat} (hk:w.cell? ⟨k,0,none⟩=some (.int .i64 y)):Calls Tryz.prog 158 #[.int .i64 x,.pointer (some ⟨k,0,none⟩)] w fun e w'=>e=.returned (.bool (decide (x=y)))/\w=w':=by
 go_enter Tryz.func158,Tryz.ntmps158
 go_wp2_with fail
 go_ret
 exact ⟨rfl,rfl⟩
end Go.Proofs.YtfolanohokflkaaGreatDoor
namespace Go.Proofs.YtfolanohokflkaaGreatDoor
open Go.RowKit
def ints (zs:List Int):List Value:=zs.map (Value.int .i64)
theorem D6 (zs:List Int) (z:Int):ints (zs++[z])=ints zs++[.int .i64 z]:=by simp [ints]
theorem jK:(Tryz.prog.info? 3).map (fun i=>(i.zero,i.size,i.bytes))=some (some (.int .i64 0),1,8):=by kernel_rfl
theorem YS (z:Value) (h:z.oneCell'=true):∀ u∈[z],u.oneCell'=true:=by intro u hu;simp at hu;subst hu;exact h
theorem Nt {ops:Array Oper} {rest:List Oper} {o:Oper} {a:Act} {Q:Exit->Act->World->Prop} (w wr:World) (zs:List Int) (v:Value) (z:Int) (s x:Operand) (hg:o.guard=none)
  (hop:o.op=.call { callee:=.builtin .append,args:=#[s,x],argTypes:=#[31,31] }) (hs:a.eval s=v) (hx:a.eval x=.slice (some ⟨wr.heap.size,0,none⟩) 1 1)
  (ho:Hid (wr.ownsRow w.heap.size 3 1 v zs.length (ints zs))) (hb:Hid (Below w.heap.size w wr)) (hl:zs.length<=2000000)
  (K:∀ v' w',Hid (w'.ownsRow w.heap.size 3 1 v' (zs++[z]).length (ints (zs++[z])))->Hid (Below w.heap.size w w')->wpList Tryz.prog ops Q rest (a.put o.dst v') w') :
  wpList Tryz.prog ops Q (o::rest) a (wr.alloc (.cells #[.int .i64 z] 3)):=by
 obtain ⟨i0,hi,hz0,hz1,hz2⟩:=info_parts jK
 have hb':Below w.heap.size w wr:=hb
 have:=hb'.size
 refine wpList_append_own _ hg s x 31 hop w.heap.size 3 i0 (.int .i64 0) 1 8 Tryz.underlying31 hi hz0 hz1 hz2 rfl (by decide) _ _ _ hs ((aa ho).alloc _) ⟨wr.heap.size,0,none⟩ 1 1 [.int .i64 z] hx rfl (bR wr [.int .i64 z] _) (YS _ rfl) (by unfold maxLen;omega) (by omega) (by simp;omega) ?_
 intro v' w' h1 h2 _
 refine K v' w' ?_ (jd hb ho h2 hb'.size)
 show w'.ownsRow _ _ _ _ _ _
 rw [D6,List.length_append];exact h1
end Go.Proofs.YtfolanohokflkaaGreatDoor
