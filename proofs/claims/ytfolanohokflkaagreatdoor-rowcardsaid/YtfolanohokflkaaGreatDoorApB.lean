import Derived.Test.YtfolanohokflkaaGreatDoorNdI
import Derived.Test.YtfolanohokflkaaGreatDoorPSame
import Derived.Test.YtfolanohokflkaaGreatDoorShelfG
import Derived.WalkKit
import Derived.WalkSpells
import Derived.WalkLawsBesides
import Derived.WalkMore
import Derived.Test.YtfolanohokflkaaGreatDoorTabH
import Derived.Test.YtfolanohokflkaaGreatDoorDec
import Derived.Test.YtfolanohokflkaaGreatDoorProC
namespace Go.Proofs.YtfolanohokflkaaGreatDoor
open Go.RowKit
theorem wQ {a c:Int} (ha:aD a=true) (hc:aD c=true) (h:a<=c):∀ p∈[(a,c)],jN p:=by intro p hp;simp at hp;subst hp;exact ⟨ha,hc,h⟩
theorem M5 {n:Nat} {l:List Sy} (h:bz l):Good (fun z=>(∀ p∈z,jN p)/\0<z.length/\z.length<=4) (jA n l):=by
 unfold jA
 split
 ·exact Good.ok ⟨bD (wF l),by unfold iF;split<;>decide⟩ h.tail.tail
 ·have g:=qB (n:=n) h
  split
  ·exact Good.err
  ·rename_i a l1 e
   obtain ⟨ha,h1⟩:=g _ _ e
   split
   ·have g2:=qB (n:=n) h1.tail
    split
    ·exact Good.err
    ·rename_i b l2 e2
     obtain ⟨hb,h2⟩:=g2 _ _ e2
     split
     ·exact Good.bad
     ·exact Good.ok ⟨wQ ha hb (by omega),by simp,by simp⟩ h2
   ·exact Good.ok ⟨wQ ha ha (Int.le_refl _),by simp,by simp⟩ h1
theorem RN {n:Nat} {l l1:List Sy} {z:ah} (h:jA n l=.ok (z,l1)):l1.length<l.length:=by
 have e:=ET n l
 rw [h] at e
 exact EM (y:=((),l1)) e
theorem BU {zs p:ah} (hz:∀ x∈zs,jN x) (hp:∀ x∈p,jN x):q9 (iX zs) p=iX (zs++p):=by
 have h1:=l8 hz
 have h2:=l8 hp
 have h3:Pos (zs++p):=fun x hx=>by rcases List.mem_append.1 hx with hx | hx;exact h1 x hx;exact h2 x hx
 refine iW (jl (iY h1).pos h2) (iY h3) fun c hc=>?_
 rw [oF (iY h1).pos h2 hc,pO h1 hc,pO h3 hc,lC]
theorem M6 (zs:ah):(iX zs).length<=zs.length+1:=by
 have:=UD [] zs
 simpa [iX] using this
section
variable {w0 w:World} {b:Nat} {s:ByteArray} {d:Int} {l:List Sy}
theorem PL.grown {w':World} {row:Option Nat} (h:Hid (PL w0 w b s d l)) (hg:w.grownBy w' row) (hrow:∀ k,row=some k->w0.heap.size<=k/\b<k):Hid (PL w0 w' b s d l):=by
 obtain ⟨p,g,e⟩:=aa h
 have hlt:=g.lt
 have hb2:=g.b2
 have hbl:∀ k,k<w.heap.size->(k<w0.heap.size\/k<=b)->w'.heap[k]? = w.heap[k]? := fun k hk hk2=>hg.block k hk fun e'=>by have:=hrow k e'.symm;omega
 have hc:∀ i v,w.cell? ⟨b,i,none⟩=some v->w'.cell? ⟨b,i,none⟩=some v:=fun i v q=>by
  rw [World.cell?_of_block (hbl b hlt (.inr (Nat.le_refl _)))];exact q
 have hup:=g.up.size
 refine ⟨p,⟨hc _ _ g.c0,hc _ _ g.c1,hc _ _ g.c2,fun k=>by rw [World.frozen?_of_block (hbl b hlt (.inr (Nat.le_refl _)))];exact g.fz k,iM g.tabs (hbl _ (by omega) (.inr (by omega))) (hbl _ (by omega) (.inr (by omega))),g.b2,?_,g.le,g.small⟩,e⟩
 exact ⟨hg.os.trans g.up.os,hg.tape.trans g.up.tape,hg.output.trans g.up.output,Nat.le_trans hup hg.size,fun k hk hkb=>(hbl k (by omega) (.inl hk)).trans (g.up.block k hk hkb)⟩
def left (s:ByteArray) (b:Nat) (w:World):Nat:=match w.cell? ⟨b,1,none⟩ with
 | some (.int _ n)=>(af s n.toNat).length
 | _=>0
theorem PL.left (h:Hid (PL w0 w b s d l)):left s b w=l.length:=by
 obtain ⟨p,h1,rfl⟩:=aa h
 rw [Proofs.YtfolanohokflkaaGreatDoor.left,h1.c1]
 rfl
theorem Zg {ops:Array Oper} {rest:List Oper} {o:Oper} {a:Act} {Q:Exit->Act->World->Prop} (B B':Nat) (wr:World) (zs p:List (Int×Int)) (v x:Value) (so xo:Operand) (hg:o.guard=none)
  (hop:o.op=.call { callee:=.builtin .append,args:=#[so,xo],argTypes:=#[237,237] }) (hs:a.eval so=v) (hx:a.eval xo=x)
  (ho:Hid (wr.ownsRow B 248 2 v zs.length (aJ zs))) (ho2:Hid (wr.ownsRow B' 248 2 x p.length (aJ p))) (hp:0<p.length) (hB:B<=wr.heap.size) (hl:zs.length+p.length<=2000000)
  (K:∀ ao n cap w',Hid (w'.ownsRow B 248 2 (.slice ao n cap) (zs++p).length (aJ (zs++p)))->Hid (wr.grownBy w' v.ownBlock)->wpList Tryz.prog ops Q rest (a.put o.dst (.slice ao n cap)) w') :
  wpList Tryz.prog ops Q (o::rest) a wr:=by
 obtain ⟨i0,hi0,hz0,hz1,hz2⟩:=info_parts pI
 obtain ⟨g,cap,rfl,-,-⟩:=(aa ho2).form hp
 refine wpList_append_own _ hg so xo 237 hop B 248 i0 (.agg #[.int .i32 0,.int .i32 0]) 2 8 Tryz.underlying237 hi0 hz0 hz1 hz2 rfl (by decide) _ _ _ hs (aa ho) ⟨g,0,none⟩ p.length cap (aJ p) hx (iT p) ((aa ho2).cells rfl) ?_ (by unfold maxLen;omega) (by omega) hB ?_
 ·intro u hu
  have:∀ q:List (Int×Int),∀ u∈aJ q,u.oneCell'=true:=by
   intro q
   induction q with
   | nil=>intro u hu;simp [aJ] at hu
   | cons y q ih=>intro u hu;simp only [aJ,List.mem_cons] at hu;rcases hu with rfl | rfl | hu;rfl;rfl;exact ih u hu
  exact this p u hu
 ·intro v' w' h1 h2 _
  have h3:w'.ownsRow B 248 2 v' (zs++p).length (aJ (zs++p)):=by
   rw [iU,List.length_append];exact h1
  obtain ⟨ao,cap,rfl,-⟩:=aO h3
  exact K ao _ cap w' h3 h2
def adp (R:bn ah) (w wr:World) (b:Nat) (s:ByteArray) (d:Int) (v:Value):Prop:=
 ∃ f l zs,bB s.size f (iX zs) l=R/\l.length<f/\(∀ p∈zs,jN p)/\zs.length+4*l.length<=240/\Hid (wr.ownsRow w.heap.size 248 2 v zs.length (aJ zs))/\Hid (PL w wr b s d l)
theorem EX:iX []=[]:=by decide +kernel
end
end Go.Proofs.YtfolanohokflkaaGreatDoor
namespace Go.Proofs.YtfolanohokflkaaGreatDoor
open Go.RowKit
theorem zL {w:World} (base:Nat) (t ty e:TypeId) (i:TypeInfo) (size:Nat) (ht:Tryz.prog.underlying t=some (.slice e)) (hi:Tryz.prog.info? e=some i) (v:Value) (n:Nat) (xs:List Value) (hown:w.ownsRow base e size v n xs) :
  (Builtin.append_ #[t,t] ty #[v,.slice none 0 0]).run Tryz.prog w=.ok v w:=by
 obtain ⟨hl,⟨rfl,rfl⟩ | ⟨g,cap,cur,rfl,hb,hg,hn,rest⟩⟩:=hown
 ·simp [Builtin.append_,run_underlying ht,sizeOf,typeInfo,hi,Builtin.lenOf,run_firstCells_none]
 ·simp [Builtin.append_,run_underlying ht,sizeOf,typeInfo,hi,Builtin.lenOf,run_firstCells_none,hn,storeCells]
theorem Jy {ops:Array Oper} {rest:List Oper} {o:Oper} {a:Act} {Q:Exit->Act->World->Prop} {w:World} (hgd:o.guard=none) (s x:Operand) (t:TypeId)
  (ho:o.op=.call { callee:=.builtin .append,args:=#[s,x],argTypes:=#[t,t] })
  (base base':Nat) (e:TypeId) (i:TypeInfo) (z:Value) (size bytes:Nat) (ht:Tryz.prog.underlying t=some (.slice e)) (hi:Tryz.prog.info? e=some i) (hz:i.zero=some z)
  (hsize:i.size=size) (hby:i.bytes=bytes) (hzs:z.cells.size=size) (hsz:0<size)
  (v y:Value) (n m:Nat) (xs news:List Value) (hs:a.eval s=v) (hx:a.eval x=y) (hown:w.ownsRow base e size v n xs) (hown2:w.ownsRow base' e size y m news) (h1:∀ u∈news,u.oneCell'=true)
  (h63:n+m<=maxLen) (hbytes:(n+m)*bytes<=140737488355328) (hbase:base<=w.heap.size)
  (h:∀ v' w',w'.ownsRow base e size v' (n+m) (xs++news)->w.grownBy w' v.ownBlock->wpList Tryz.prog ops Q rest (a.put o.dst v') w'):wpList Tryz.prog ops Q (o::rest) a w:=by
 by_cases hy:y=.slice none 0 0
 ·subst hy
  obtain ⟨hl,⟨_,rfl⟩ | ⟨g,cap,cur,e',_⟩⟩:=hown2
  ·have hn:news=[]:=List.eq_nil_of_length_eq_zero (by simpa using hl)
   subst hn
   refine wpList_plain hgd fun _ hK=>?_
   have hr:=zL base t o.type e i size ht hi v n xs hown
   unfold Oper.wp execOp
   simp only [ho,resolve,invoke,builtin,Sem.run_bind,Sem.run_pure,Result.andThen_ok,List.map_toArray,List.map_cons,List.map_nil,hs,hx,hr]
   refine hK _ _ (h v w ?_ ⟨rfl,rfl,rfl,Nat.le_refl _,fun _ _ _=>rfl⟩)
   rw [List.append_nil];exact hown
  ·cases e'
 ·obtain ⟨hl,⟨e',rfl⟩ | ⟨g,cap,cur,rfl,hb,hg,hn,hcm,hcs,htk⟩⟩:=hown2
  ·exact absurd e' hy
  ·have hr:w.ownsRow base' e size (.slice (some ⟨g,0,none⟩) m cap) m news:=⟨hl,.inr ⟨g,cap,cur,rfl,hb,hg,hn,hcm,hcs,htk⟩⟩
   refine wpList_append_own _ hgd s x t ho base e i z size bytes ht hi hz hsize hby hzs hsz v n xs hs hown ⟨g,0,none⟩ m cap news hx hl (hr.cells rfl) h1 h63 hbytes hbase ?_
   intro v' w' h2 h3 _
   exact h v' w' h2 h3
end Go.Proofs.YtfolanohokflkaaGreatDoor
namespace Go.Proofs.YtfolanohokflkaaGreatDoor
open Go.RowKit
theorem Zh:(Tryz.prog.info? 61).map (fun i=>(i.zero,i.size,i.bytes))=some (some (.string ⟨#[]⟩),1,16):=by kernel_rfl
section
variable {w:World} {t:TB} {T:List Te} {S C:List (Value×Value)}
end
end Go.Proofs.YtfolanohokflkaaGreatDoor
namespace Go.Proofs.YtfolanohokflkaaGreatDoor
open Go.RowKit
theorem RO {w w':World} {B B':Nat} {e e':TypeId} {size size' n m:Nat} {v u:Value} {xs ys:List Value} (hne:e'≠e) (hv:w.ownsRow B e size v n xs) (hu:w.ownsRow B' e' size' u m ys) (hg:w.grownBy w' v.ownBlock):w'.ownsRow B' e' size' u m ys:=by
 obtain ⟨hl,hx | ⟨g,cap,cur,rfl,hb,hgr,rest⟩⟩:=hu
 ·exact ⟨hl,.inl hx⟩
 ·refine ⟨hl,.inr ⟨g,cap,cur,rfl,hb,?_,rest⟩⟩
  have hlt:=(Array.getElem?_eq_some_iff.1 hgr).1
  rw [hg.block g hlt (fun e2=>?_)]
  ·exact hgr
  ·obtain ⟨_,⟨rfl,_⟩ | ⟨g',cap',cur',rfl,_,hgr',_⟩⟩:=hv
   ·cases e2
   ·have:g=g':=by simpa [Value.ownBlock] using e2
    subst this
    rw [hgr] at hgr'
    injection hgr' with q
    injection q with _ q
    exact hne q
theorem jV {ts e:TypeId} {z:Value} {size bytes:Nat} (hu:Tryz.prog.underlying ts=some (.slice e)) (hinfo:(Tryz.prog.info? e).map (fun i=>(i.zero,i.size,i.bytes))=some (some z,size,bytes)) (hzs:z.cells.size=size) (hsz:0<size) (hby:bytes<=1000)
  {ops:Array Oper} {rest:List Oper} {o:Oper} {a:Act} {Q:Exit->Act->World->Prop} (B:Nat) (w wr:World) (n:Nat) (xs news:List Value) (v:Value) (s x:Operand) (hg:o.guard=none)
  (hop:o.op=.call { callee:=.builtin .append,args:=#[s,x],argTypes:=#[ts,ts] }) (hs:a.eval s=v) (H:Nat) (hH:wr.heap.size=H) (hx:a.eval x=.slice (some ⟨H,0,none⟩) 1 1)
  (ho:Hid (wr.ownsRow B e size v n xs)) (hb:Hid (Below B w wr)) (hB:B<=wr.heap.size) (hl:n<=100000000000) (hnl:news.length=size) (hn1:∀ u∈news,u.oneCell'=true)
  (K:∀ g cap w',Hid (w'.ownsRow B e size (.slice (some ⟨g,0,none⟩) (n+1) cap) (n+1) (xs++news))->Hid (Below B w w')->Hid (∀ B' e' s' u m ys,e'≠e->wr.ownsRow B' e' s' u m ys->w'.ownsRow B' e' s' u m ys)->wpList Tryz.prog ops Q rest (a.put o.dst (.slice (some ⟨g,0,none⟩) (n+1) cap)) w') :
  wpList Tryz.prog ops Q (o::rest) a (wr.alloc (.cells news.toArray e)):=by
 obtain ⟨i0,hi,hz0,hz1,hz2⟩:=info_parts hinfo
 subst hH
 have ho':=aa ho
 refine wpList_append_own _ hg s x ts hop B e i0 z size bytes hu hi hz0 hz1 hz2 hzs hsz _ _ _ hs (ho'.alloc _) ⟨wr.heap.size,0,none⟩ 1 1 news hx (by rw [hnl];omega) (bM wr news _) hn1 (by unfold maxLen;omega) (Nat.le_trans (Nat.mul_le_mul_left _ hby) (by omega)) (by simp;omega) ?_
 intro v' w' h1 h2 _
 obtain ⟨ao,cap,rfl,hv⟩:=aO h1
 obtain ⟨g,rfl,-⟩:=hv (by omega)
 refine K g cap w' h1 (ji (aa hb) ho' h2 hB) fun B' e' s' u m ys hne hu'=>?_
 exact RO hne (ho'.alloc _) (hu'.alloc _) h2
def strs (l:List ByteArray):List Value:=l.map Value.string
end Go.Proofs.YtfolanohokflkaaGreatDoor
