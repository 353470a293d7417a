import Derived.RangeFuncNested
import Derived.RangeFuncBound
import Derived.RangeFuncCalls
import Derived.RangeFuncLeaves
import Derived.RangeFuncBox
import Derived.Shelf.Abstract
import Derived.Shelf.RegionOpen
import Derived.WalkKit
import Derived.OwnWalkIn
import Derived.TacticsInMore
import Derived.LoopNIn
import Derived.LoopIn
import Derived.Maps.AppendAt
import Derived.Test.YtfolanohokflkaaGreatDoorProg
namespace Go.Proofs.YtfolanohokflkaaGreatDoor
open Go.RowKit Go.Shelf
attribute [local go_sem] Oper.semAt_some
def VG (W:World) (kp:Nat->Prop) (sv:Value) (zs:List Nat):Prop:=
 (sv=.slice none 0 0/\zs=[])\/∃ b cap,sv=.slice (some ⟨b,0,none⟩) zs.length cap/\kp b/\∀ j (h:j<zs.length),W.cell? ⟨b,j,none⟩=some (.int .i64 (zs[j]:Int))
structure LZ (kp:Nat->Prop) (A B:World):Prop where
 size:A.heap.size<=B.heap.size
 same:∀ k,kp k->k<A.heap.size->B.heap[k]? = A.heap[k]?
theorem LZ.refl (kp:Nat->Prop) (A:World):LZ kp A A:=⟨Nat.le_refl _,fun _ _ _=>rfl⟩
theorem LZ.trans {kp:Nat->Prop} {A B C:World} (h:LZ kp A B) (k:LZ kp B C):LZ kp A C:=⟨Nat.le_trans h.size k.size,fun i hi hl=>(k.same i hi (Nat.lt_of_lt_of_le hl h.size)).trans (h.same i hi hl)⟩
theorem LZ.cell {kp:Nat->Prop} {A B:World} (h:LZ kp A B) {b j:Nat} {v:Value} (hb:kp b) (hc:A.cell? ⟨b,j,none⟩=some v):B.cell? ⟨b,j,none⟩=some v:=by
 rw [World.cell?_of_block (a:=⟨b,j,none⟩) (h.same b hb (World.block_lt_of_cell? A _ hc))]
 exact hc
def Ps (n:Nat):List (Fin n):=(List.finRange n).reverse
theorem Pv (n:Nat):(Ps n).length=n:=by simp [Ps]
theorem VH {n k:Nat} (h:k<n):(Ps n).take (k+1)=(Ps n).take k++[⟨n - 1 - k,by omega⟩]:=by
 rw [List.take_succ_eq_append_getElem (by rw [Pv];exact h)]
 congr 2
 simp [Ps]
def VI (zs:List Nat) (x:Fin zs.length):Array Value:=#[.int .i64 (x.val:Int),.int .i64 (zs[x.val]:Int)]
set_option maxRecDepth 100000 in
set_option maxHeartbeats 2000000 in
theorem abO (n:Nat) (hn:1<=n) (l Bs b cap:Nat) (kp:Nat->Prop) (zs:List Nat) (hz:zs.length<=1000000) (hkB:kp Bs) (hb:kp b) (J Jx:List (Fin zs.length)->World->Prop)
  (hY:∀ pre x W,J pre W->pre.length<zs.length->YieldAt Fence.wide (n - 1) Tryz.prog l (VI zs x) W fun e W'=>
   (e=.returned (.bool true)/\J (pre++[x]) W'/\LZ kp W W')\/(e=.returned (.bool false)/\Jx (pre++[x]) W'))
  (W:World) (yR:W.cell? ⟨Bs,0,none⟩=some (.slice (some ⟨b,0,none⟩) zs.length cap)) (hc:∀ j (h:j<zs.length),W.cell? ⟨b,j,none⟩=some (.int .i64 (zs[j]:Int))) (h0:J [] W) :
  CallsIn Fence.wide n Tryz.prog 162 #[.func (.yield l) #[] #[],.pointer (some ⟨Bs,0,none⟩)] W fun e W'=>(∃ v,e=.returned v) /\
   ((∃ ys,ys=Ps zs.length/\J ys W')\/(∃ pre,pre <+: Ps zs.length/\Jx pre W')):=by
 refine callsIn_of_wp Tryz.func162 rfl trivial ?_ rfl
 simp only [Tryz.ntmps162,List.size_toArray,List.length_cons,List.length_nil,Nat.reduceAdd,Nat.reduceSub,Array.replicate_succ,Array.replicate_zero,List.push_toArray,List.append_toArray,List.nil_append,List.cons_append]
 gi_wp2
 gi_loopw [3] (fun i wr=>∃ k:Nat,k<=zs.length/\i=.int .i64 ((zs.length:Int) - 1 - k)/\J ((Ps zs.length).take k) wr/\LZ kp W wr) (fun i _=>(intOf i+1).toNat)
 case atStart=>exact ⟨0,Nat.zero_le _,by simp,by simpa using h0,LZ.refl _ _⟩
 case round=>
  obtain ⟨k,hk,rfl,hJs,hnx⟩:=hrel
  have hB1:=hnx.cell hkB yR
  by_cases hlt:k<zs.length
  ·have hc1:=hnx.cell hb (hc (zs.length - 1 - k) (by omega))
   have hi0:(0:Int)<=(zs.length:Int) - 1 - k:=by omega
   have hi1:(zs.length:Int) - 1 - k<zs.length:=by omega
   have hiN:((zs.length:Int) - 1 - k)=((zs.length - 1 - k:Nat):Int):=by omega
   rw [hiN] at hi0 hi1 ⊢
   obtain ⟨fn,tmps,assign,body,hy,hR⟩:=hY _ ⟨zs.length - 1 - k,by omega⟩ _ hJs (by rw [List.length_take];omega)
   dsimp only [VI] at hy
   have htk:=VH hlt
   gi_wp2
   refine hR.mono ?_
   rintro e W3 (⟨rfl,hJ3,hk3⟩ | ⟨rfl,hJx3⟩)
   ·gi_wp2
    go_roundw
    case rel=>exact ⟨k+1,by omega,by congr 1;omega,by rw [htk];exact hJ3,hnx.trans hk3⟩
    case measure=>simp [intOf]
   ·gi_wp2
    refine bodyPost_ret (results_none rfl _ _ _) rfl ?_
    exact ⟨⟨_,rfl⟩,.inr ⟨_,by rw [<-htk];exact List.take_prefix _ _,hJx3⟩⟩
  ·obtain rfl:k=zs.length:=by omega
   rw [show (zs.length:Int) - 1 - (zs.length:Nat)=-1 from by omega]
   gi_wp2
   go_end0
   rw [List.take_of_length_le (by rw [Pv];exact Nat.le_refl _)] at hJs
   exact ⟨⟨_,rfl⟩,.inl ⟨_,rfl,hJs⟩⟩
set_option maxRecDepth 100000 in
set_option maxHeartbeats 1000000 in
theorem Nj (n:Nat) (l Bs:Nat) (J:List (Fin 0)->World->Prop) (W:World) (yR:W.cell? ⟨Bs,0,none⟩=some (.slice none 0 0)) (h0:J [] W) :
  CallsIn Fence.wide n Tryz.prog 162 #[.func (.yield l) #[] #[],.pointer (some ⟨Bs,0,none⟩)] W fun e W'=>(∃ v,e=.returned v)/\J [] W':=by
 refine callsIn_of_wp Tryz.func162 rfl trivial ?_ rfl
 simp only [Tryz.ntmps162,List.size_toArray,List.length_cons,List.length_nil,Nat.reduceAdd,Nat.reduceSub,Array.replicate_succ,Array.replicate_zero,List.push_toArray,List.append_toArray,List.nil_append,List.cons_append]
 gi_wp2
 gi_loopw [3] (fun i wr=>i=.int .i64 (-1)/\J [] wr) (fun _ _=>0)
 case atStart=>exact ⟨rfl,h0⟩
 case round=>
  obtain ⟨rfl,hJs⟩:=hrel
  gi_wp2
  go_end0
  exact ⟨⟨_,rfl⟩,hJs⟩
set_option maxHeartbeats 1000000 in
theorem aaO (n:Nat) (a:Option Addr) (len cap:Nat) (w:World) :
  CallsIn Fence.wide n Tryz.prog 115 #[.slice a len cap] w fun e w'=>e=.returned (.func (.func 162) #[] #[.pointer (some ⟨w.heap.size,0,none⟩)])/\w'=w.alloc (.cells #[.slice a len cap] 31):=by
 refine callsIn_of_wp Tryz.func115 rfl trivial ?_ rfl
 simp only [Tryz.ntmps115,List.size_toArray,List.length_cons,List.length_nil,Nat.reduceAdd,Nat.reduceSub,Array.replicate_succ,Array.replicate_zero,List.push_toArray,List.append_toArray,List.nil_append,List.cons_append]
 gi_wp2
 go_ret
 exact ⟨rfl,rfl⟩
theorem Kc (n:Nat) (hn:1<=n) (Bs:Nat) (kp:Nat->Prop) (sv:Value) (zs:List Nat) (hz:zs.length<=1000000) (w:World) (hkB:kp Bs) (hlt:∀ k,kp k->k<w.heap.size)
  (hc:w.cell? ⟨Bs,0,none⟩=some sv) (hI:VG w kp sv zs) :
  SeqStopsK Fence.wide n Tryz.prog 162 #[.pointer (some ⟨Bs,0,none⟩)] (VI zs) (LZ kp) (fun ys=>ys=Ps zs.length) (fun pre=>pre <+: Ps zs.length) zs.length w:=fun l J Jx W hW hJ _ hY h0=>by
 have hc':=(hW.cell (p:=⟨Bs,0,none⟩) (hlt Bs hkB)).trans hc
 rcases hI with ⟨rfl,rfl⟩ | ⟨b,cap,rfl,hb,hcs⟩
 ·exact (Nj n l Bs J W hc' h0).mono fun e W' ⟨he,hj⟩=>⟨he,.inl ⟨_,rfl,hj⟩⟩
 ·refine (abO n hn l Bs b cap kp zs hz hkB hb J Jx hY W hc' (fun j hj=>(hW.cell (p:=⟨b,j,none⟩) (hlt b hb)).trans (hcs j hj)) h0).mono ?_
  rintro e W' ⟨he,⟨ys,rfl,hj⟩ | ⟨pre,hp,hj⟩⟩
  ·exact ⟨he,.inl ⟨_,rfl,hj⟩⟩
  ·exact ⟨he,.inr ⟨_,hp,hj⟩⟩
end Go.Proofs.YtfolanohokflkaaGreatDoor
