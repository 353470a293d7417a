import Derived.Test.YtfolanohokflkaaGreatDoorRefD
import Derived.Test.YtfolanohokflkaaGreatDoorProC
import Derived.Test.YtfolanohokflkaaGreatDoorBsA
namespace Go.Proofs.YtfolanohokflkaaGreatDoor
open Go.RowKit
theorem yV {w:World} (base:Nat) (t ty e:TypeId) (i:TypeInfo) (size:Nat) (ht:Tryz.prog.underlying t=some (.slice e)) (hi:Tryz.prog.info? e=some i) (v:Value) (n:Nat) (xs:List Value) (hown:w.ownsRow base e size v n xs) :
  (Builtin.append_ #[t,t] ty #[v,.slice none 0 0]).run Tryz.prog w=.ok v w:=by
 obtain ⟨hl,⟨rfl,rfl⟩ | ⟨g,cap,cur,rfl,hb,hg,hn,rest⟩⟩:=hown
 ·simp [Builtin.append_,run_underlying ht,sizeOf,typeInfo,hi,Builtin.lenOf,run_firstCells_none]
 ·simp [Builtin.append_,run_underlying ht,sizeOf,typeInfo,hi,Builtin.lenOf,run_firstCells_none,hn,storeCells]
theorem Il {ops:Array Oper} {rest:List Oper} {o:Oper} {a:Act} {Q:Exit->Act->World->Prop} {w:World} (hgd:o.guard=none) (s x:Operand) (t:TypeId)
  (ho:o.op=.call { callee:=.builtin .append,args:=#[s,x],argTypes:=#[t,t] })
  (base base':Nat) (e:TypeId) (i:TypeInfo) (z:Value) (size bytes:Nat) (ht:Tryz.prog.underlying t=some (.slice e)) (hi:Tryz.prog.info? e=some i) (hz:i.zero=some z)
  (hsize:i.size=size) (hby:i.bytes=bytes) (hzs:z.cells.size=size) (hsz:0<size)
  (v y:Value) (n m:Nat) (xs news:List Value) (hs:a.eval s=v) (hx:a.eval x=y) (hown:w.ownsRow base e size v n xs) (hown2:w.ownsRow base' e size y m news) (h1:∀ u∈news,u.oneCell'=true)
  (h63:n+m<=maxLen) (hbytes:(n+m)*bytes<=140737488355328) (hbase:base<=w.heap.size)
  (h:∀ v' w',w'.ownsRow base e size v' (n+m) (xs++news)->w.grownBy w' v.ownBlock->wpList Tryz.prog ops Q rest (a.put o.dst v') w'):wpList Tryz.prog ops Q (o::rest) a w:=by
 by_cases hy:y=.slice none 0 0
 ·subst hy
  obtain ⟨hl,⟨_,rfl⟩ | ⟨g,cap,cur,e',_⟩⟩:=hown2
  ·have hn:news=[]:=List.eq_nil_of_length_eq_zero (by simpa using hl)
   subst hn
   refine wpList_plain hgd fun _ hK=>?_
   have hr:=yV base t o.type e i size ht hi v n xs hown
   unfold Oper.wp execOp
   simp only [ho,resolve,invoke,builtin,Sem.run_bind,Sem.run_pure,Result.andThen_ok,List.map_toArray,List.map_cons,List.map_nil,hs,hx,hr]
   refine hK _ _ (h v w ?_ ⟨rfl,rfl,rfl,Nat.le_refl _,fun _ _ _=>rfl⟩)
   rw [List.append_nil];exact hown
  ·cases e'
 ·obtain ⟨hl,⟨e',rfl⟩ | ⟨g,cap,cur,rfl,hb,hg,hn,hcm,hcs,htk⟩⟩:=hown2
  ·exact absurd e' hy
  ·have hr:w.ownsRow base' e size (.slice (some ⟨g,0,none⟩) m cap) m news:=⟨hl,.inr ⟨g,cap,cur,rfl,hb,hg,hn,hcm,hcs,htk⟩⟩
   refine wpList_append_own _ hgd s x t ho base e i z size bytes ht hi hz hsize hby hzs hsz v n xs hs hown ⟨g,0,none⟩ m cap news hx hl (hr.cells rfl) h1 h63 hbytes hbase ?_
   intro v' w' h2 h3 _
   exact h v' w' h2 h3
end Go.Proofs.YtfolanohokflkaaGreatDoor
