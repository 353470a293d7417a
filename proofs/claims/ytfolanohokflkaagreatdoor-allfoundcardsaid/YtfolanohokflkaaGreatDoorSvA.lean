import Derived.RangeFuncNested
import Derived.RangeFuncBound
import Derived.RangeFuncCalls
import Derived.RangeFuncLeaves
import Derived.RangeFuncBox
import Derived.Shelf.Abstract
import Derived.Shelf.RegionOpen
import Derived.WalkKit
import Derived.OwnWalkIn
import Derived.TacticsInMore
import Derived.LoopNIn
import Derived.LoopIn
import Derived.Maps.AppendAt
import Derived.Test.YtfolanohokflkaaGreatDoorProg
namespace Go.Proofs.YtfolanohokflkaaGreatDoor
open Go.RowKit Go.Shelf
attribute [local go_sem] Oper.semAt_some
def ry (x:Int×Int):Value:=.agg #[.int .i32 x.1,.int .i32 x.2]
def vQ (n0:Nat) (W:World) (sv:Value) (zs:List (Int×Int)):Prop:=
 (sv=.slice none 0 0/\zs=[])\/∃ b off cap,sv=.slice (some ⟨b,off,none⟩) zs.length cap/\b<n0/\∀ j (h:j<zs.length),W.cell? ⟨b,off+j*2,none⟩=some (.int .i32 zs[j].1)/\W.cell? ⟨b,off+j*2+1,none⟩=some (.int .i32 zs[j].2)
theorem vQ.below {n0:Nat} {A B:World} (h:Below n0 A B) {sv:Value} {zs:List (Int×Int)}:vQ n0 A sv zs->vQ n0 B sv zs
 | .inl e=>.inl e
 | .inr ⟨b,off,cap,e,hb,hc⟩=>.inr ⟨b,off,cap,e,hb,fun j hj=>⟨(h.cell (p:=⟨b,off+j*2,none⟩) hb).trans (hc j hj).1,(h.cell (p:=⟨b,off+j*2+1,none⟩) hb).trans (hc j hj).2⟩⟩
set_option maxRecDepth 100000 in
set_option maxHeartbeats 2000000 in
theorem Uc (n:Nat) (hn:1<=n) (l Bs n0 b off cap:Nat) (zs:List (Int×Int)) (hz:zs.length<=100000) (hb:b<n0) (J Jx:List (Int×Int)->World->Prop)
  (hY:∀ pre x W,J pre W->pre.length<zs.length->YieldAt Fence.wide (n - 1) Tryz.prog l #[ry x] W fun e W'=>
   (e=.returned (.bool true)/\J (pre++[x]) W'/\Below n0 W W')\/(e=.returned (.bool false)/\Jx (pre++[x]) W'))
  (W:World) (hJ:AbidesFrom W.heap.size J) (hn0:n0<=W.heap.size) (yR:W.cell? ⟨Bs,0,none⟩=some (.slice (some ⟨b,off,none⟩) zs.length cap)) (hc:∀ j (h:j<zs.length),W.cell? ⟨b,off+j*2,none⟩=some (.int .i32 zs[j].1)/\W.cell? ⟨b,off+j*2+1,none⟩=some (.int .i32 zs[j].2)) (h0:J [] W) :
  CallsIn Fence.wide n Tryz.prog 270 #[.func (.yield l) #[] #[],.pointer (some ⟨Bs,0,none⟩)] W fun e W'=>(∃ v,e=.returned v) /\
   ((∃ ys,ys=zs/\J ys W')\/(∃ pre,(∃ k,k<=zs.length/\pre=zs.take k)/\Jx pre W')):=by
 refine callsIn_of_wp Tryz.func270 rfl trivial ?_ rfl
 simp only [Tryz.ntmps270,List.size_toArray,List.length_cons,List.length_nil,Nat.reduceAdd,Nat.reduceSub,Array.replicate_succ,Array.replicate_zero,List.push_toArray,List.append_toArray,List.nil_append,List.cons_append]
 gi_wp2
 gi_loopw [7] (fun i wr=>∃ k:Nat,k<=zs.length/\i=.int .i64 k/\J (zs.take k) wr/\Below n0 W wr) (fun i _=>zs.length - (intOf i).toNat)
 case atStart=>exact ⟨0,Nat.zero_le _,rfl,by simpa using h0,Below.refl _ _⟩
 case round=>
  obtain ⟨k,hk,rfl,hJs,hnx⟩:=hrel
  by_cases hlt:k<zs.length
  ·have hc1:wr.cell? ⟨b,off+k*2,none⟩=some (.int .i32 zs[k].1):=(hnx.cell (p:=⟨b,off+k*2,none⟩) hb).trans (hc k hlt).1
   have hc2:wr.cell? ⟨b,off+k*2+1,none⟩=some (.int .i32 zs[k].2):=(hnx.cell (p:=⟨b,off+k*2+1,none⟩) hb).trans (hc k hlt).2
   have hwz:W.heap.size<=wr.heap.size:=hnx.size
   generalize hx1:zs[k].1=x1 at hc1
   generalize hx2:zs[k].2=x2 at hc2
   have hJa:J (zs.take k) (wr.alloc (.cells #[.int .i32 x1,.int .i32 x2] 248)):=hJ _ wr _ none hJs (World.grownBy_alloc wr _ none) (fun r e=>by cases e)
   obtain ⟨fn,tmps,assign,body,hy,hR⟩:=hY _ (x1,x2) _ hJa (by rw [List.length_take];omega)
   dsimp only [ry] at hy
   have htk:zs.take (k+1)=zs.take k++[(x1,x2)]:=by
    rw [List.take_succ_eq_append_getElem hlt]
    congr 2
    exact Prod.ext hx1 hx2
   gi_wp2
   refine hR.mono ?_
   rintro e W3 (⟨rfl,hJ3,hk3⟩ | ⟨rfl,hJx3⟩)
   ·gi_wp2
    go_roundw
    case rel=>exact ⟨k+1,by omega,by simp,by rw [htk];exact hJ3,(hnx.trans ((Below.refl n0 wr).alloc (Nat.le_trans hn0 hwz) _)).trans hk3⟩
    case measure=>simp [intOf];omega
   ·gi_wp2
    refine bodyPost_ret (results_none rfl _ _ _) rfl ?_
    exact ⟨⟨_,rfl⟩,.inr ⟨_,⟨k+1,by omega,htk.symm⟩,hJx3⟩⟩
  ·obtain rfl:k=zs.length:=by omega
   gi_wp2
   go_end0
   exact ⟨⟨_,rfl⟩,.inl ⟨_,rfl,by simpa using hJs⟩⟩
set_option maxRecDepth 100000 in
set_option maxHeartbeats 1000000 in
theorem FZ (n:Nat) (l Bs:Nat) (J:List (Int×Int)->World->Prop) (W:World) (yR:W.cell? ⟨Bs,0,none⟩=some (.slice none 0 0)) (h0:J [] W) :
  CallsIn Fence.wide n Tryz.prog 270 #[.func (.yield l) #[] #[],.pointer (some ⟨Bs,0,none⟩)] W fun e W'=>(∃ v,e=.returned v)/\J [] W':=by
 refine callsIn_of_wp Tryz.func270 rfl trivial ?_ rfl
 simp only [Tryz.ntmps270,List.size_toArray,List.length_cons,List.length_nil,Nat.reduceAdd,Nat.reduceSub,Array.replicate_succ,Array.replicate_zero,List.push_toArray,List.append_toArray,List.nil_append,List.cons_append]
 gi_wp2
 gi_loopw [7] (fun i wr=>i=.int .i64 0/\J [] wr) (fun _ _=>0)
 case atStart=>exact ⟨rfl,h0⟩
 case round=>
  obtain ⟨rfl,hJs⟩:=hrel
  gi_wp2
  go_end0
  exact ⟨⟨_,rfl⟩,hJs⟩
set_option maxHeartbeats 1000000 in
theorem Yu (n:Nat) (a:Option Addr) (len cap:Nat) (w:World) :
  CallsIn Fence.wide n Tryz.prog 236 #[.slice a len cap] w fun e w'=>e=.returned (.func (.func 270) #[] #[.pointer (some ⟨w.heap.size,0,none⟩)])/\w'=w.alloc (.cells #[.slice a len cap] 237):=by
 refine callsIn_of_wp Tryz.func236 rfl trivial ?_ rfl
 simp only [Tryz.ntmps236,List.size_toArray,List.length_cons,List.length_nil,Nat.reduceAdd,Nat.reduceSub,Array.replicate_succ,Array.replicate_zero,List.push_toArray,List.append_toArray,List.nil_append,List.cons_append]
 gi_wp2
 go_ret
 exact ⟨rfl,rfl⟩
theorem Mk (n:Nat) (hn:1<=n) (Bs n0:Nat) (sv:Value) (zs:List (Int×Int)) (hz:zs.length<=100000) (w:World) (yR:Bs<w.heap.size) (hn0:n0<=w.heap.size)
  (hc:w.cell? ⟨Bs,0,none⟩=some sv) (hI:vQ n0 w sv zs) :
  SeqStopsK Fence.wide n Tryz.prog 270 #[.pointer (some ⟨Bs,0,none⟩)] (fun x:Int×Int=>#[ry x]) (Below n0) (fun ys=>ys=zs) (fun pre=>pre <+: zs) zs.length w:=fun l J Jx W hW hJ _ hY h0=>by
 have hc':=(hW.cell (p:=⟨Bs,0,none⟩) yR).trans hc
 rcases hI.below (hW.mono hn0) with ⟨rfl,rfl⟩ | ⟨b,off,cap,rfl,hb,hcs⟩
 ·exact (FZ n l Bs J W hc' h0).mono fun e W' ⟨he,hj⟩=>⟨he,.inl ⟨_,rfl,hj⟩⟩
 ·refine (Uc n hn l Bs n0 b off cap zs hz hb J Jx hY W hJ (Nat.le_trans hn0 hW.size) hc' hcs h0).mono ?_
  rintro e W' ⟨he,⟨ys,rfl,hj⟩ | ⟨pre,⟨k,hk,rfl⟩,hj⟩⟩
  ·exact ⟨he,.inl ⟨_,rfl,hj⟩⟩
  ·exact ⟨he,.inr ⟨_,List.take_prefix _ _,hj⟩⟩
end Go.Proofs.YtfolanohokflkaaGreatDoor
