import Derived.Test.YtfolanohokflkaaGreatDoorRefC
import Derived.Test.YtfolanohokflkaaGreatDoorTabC
import Derived.WalkKit
import Derived.WalkSpells
import Derived.WalkLawsBesides
import Derived.Test.YtfolanohokflkaaGreatDoorOnlA
import Derived.Test.YtfolanohokflkaaGreatDoorProC
import Derived.Test.YtfolanohokflkaaGreatDoorBsA
namespace Go.Proofs.YtfolanohokflkaaGreatDoor
open Go.RowKit
def ints (zs:List Int):List Value:=zs.map (Value.int .i64)
theorem EP (zs:List Int) (z:Int):ints (zs++[z])=ints zs++[.int .i64 z]:=by simp [ints]
theorem gP:(Tryz.prog.info? 3).map (fun i=>(i.zero,i.size,i.bytes))=some (some (.int .i64 0),1,8):=by kernel_rfl
theorem UN (z:Value) (h:z.oneCell'=true):∀ u∈[z],u.oneCell'=true:=by intro u hu;simp at hu;subst hu;exact h
theorem OZ {ops:Array Oper} {rest:List Oper} {o:Oper} {a:Act} {Q:Exit->Act->World->Prop} (w wr:World) (zs:List Int) (v:Value) (z:Int) (s x:Operand) (hg:o.guard=none)
  (hop:o.op=.call { callee:=.builtin .append,args:=#[s,x],argTypes:=#[31,31] }) (hs:a.eval s=v) (hx:a.eval x=.slice (some ⟨wr.heap.size,0,none⟩) 1 1)
  (ho:Hid (wr.ownsRow w.heap.size 3 1 v zs.length (ints zs))) (hb:Hid (Below w.heap.size w wr)) (hl:zs.length<=2000000)
  (K:∀ v' w',Hid (w'.ownsRow w.heap.size 3 1 v' (zs++[z]).length (ints (zs++[z])))->Hid (Below w.heap.size w w')->wpList Tryz.prog ops Q rest (a.put o.dst v') w') :
  wpList Tryz.prog ops Q (o::rest) a (wr.alloc (.cells #[.int .i64 z] 3)):=by
 obtain ⟨i0,hi,hz0,hz1,hz2⟩:=info_parts gP
 have hb':Below w.heap.size w wr:=hb
 have:=hb'.size
 refine wpList_append_own _ hg s x 31 hop w.heap.size 3 i0 (.int .i64 0) 1 8 Tryz.underlying31 hi hz0 hz1 hz2 rfl (by decide) _ _ _ hs ((aa ho).alloc _) ⟨wr.heap.size,0,none⟩ 1 1 [.int .i64 z] hx rfl (bz wr [.int .i64 z] _) (UN _ rfl) (by unfold maxLen;omega) (by omega) (by simp;omega) ?_
 intro v' w' h1 h2 _
 refine K v' w' ?_ (iW hb ho h2 hb'.size)
 show w'.ownsRow _ _ _ _ _ _
 rw [EP,List.length_append];exact h1
theorem zH {w:World} (base:Nat) (t ty e:TypeId) (i:TypeInfo) (size:Nat) (ht:Tryz.prog.underlying t=some (.slice e)) (hi:Tryz.prog.info? e=some i) (v:Value) (n:Nat) (xs:List Value) (hown:w.ownsRow base e size v n xs) :
  (Builtin.append_ #[t,t] ty #[v,.slice none 0 0]).run Tryz.prog w=.ok v w:=by
 obtain ⟨hl,⟨rfl,rfl⟩ | ⟨g,cap,cur,rfl,hb,hg,hn,rest⟩⟩:=hown
 ·simp [Builtin.append_,run_underlying ht,sizeOf,typeInfo,hi,Builtin.lenOf,run_firstCells_none]
 ·simp [Builtin.append_,run_underlying ht,sizeOf,typeInfo,hi,Builtin.lenOf,run_firstCells_none,hn,storeCells]
theorem Jo {ops:Array Oper} {rest:List Oper} {o:Oper} {a:Act} {Q:Exit->Act->World->Prop} {w:World} (hgd:o.guard=none) (s x:Operand) (t:TypeId)
  (ho:o.op=.call { callee:=.builtin .append,args:=#[s,x],argTypes:=#[t,t] })
  (base base':Nat) (e:TypeId) (i:TypeInfo) (z:Value) (size bytes:Nat) (ht:Tryz.prog.underlying t=some (.slice e)) (hi:Tryz.prog.info? e=some i) (hz:i.zero=some z)
  (hsize:i.size=size) (hby:i.bytes=bytes) (hzs:z.cells.size=size) (hsz:0<size)
  (v y:Value) (n m:Nat) (xs news:List Value) (hs:a.eval s=v) (hx:a.eval x=y) (hown:w.ownsRow base e size v n xs) (hown2:w.ownsRow base' e size y m news) (h1:∀ u∈news,u.oneCell'=true)
  (h63:n+m<=maxLen) (hbytes:(n+m)*bytes<=140737488355328) (hbase:base<=w.heap.size)
  (h:∀ v' w',w'.ownsRow base e size v' (n+m) (xs++news)->w.grownBy w' v.ownBlock->wpList Tryz.prog ops Q rest (a.put o.dst v') w'):wpList Tryz.prog ops Q (o::rest) a w:=by
 by_cases hy:y=.slice none 0 0
 ·subst hy
  obtain ⟨hl,⟨_,rfl⟩ | ⟨g,cap,cur,e',_⟩⟩:=hown2
  ·have hn:news=[]:=List.eq_nil_of_length_eq_zero (by simpa using hl)
   subst hn
   refine wpList_plain hgd fun _ hK=>?_
   have hr:=zH base t o.type e i size ht hi v n xs hown
   unfold Oper.wp execOp
   simp only [ho,resolve,invoke,builtin,Sem.run_bind,Sem.run_pure,Result.andThen_ok,List.map_toArray,List.map_cons,List.map_nil,hs,hx,hr]
   refine hK _ _ (h v w ?_ ⟨rfl,rfl,rfl,Nat.le_refl _,fun _ _ _=>rfl⟩)
   rw [List.append_nil];exact hown
  ·cases e'
 ·obtain ⟨hl,⟨e',rfl⟩ | ⟨g,cap,cur,rfl,hb,hg,hn,hcm,hcs,htk⟩⟩:=hown2
  ·exact absurd e' hy
  ·have hr:w.ownsRow base' e size (.slice (some ⟨g,0,none⟩) m cap) m news:=⟨hl,.inr ⟨g,cap,cur,rfl,hb,hg,hn,hcm,hcs,htk⟩⟩
   refine wpList_append_own _ hgd s x t ho base e i z size bytes ht hi hz hsize hby hzs hsz v n xs hs hown ⟨g,0,none⟩ m cap news hx hl (hr.cells rfl) h1 h63 hbytes hbase ?_
   intro v' w' h2 h3 _
   exact h v' w' h2 h3
end Go.Proofs.YtfolanohokflkaaGreatDoor
