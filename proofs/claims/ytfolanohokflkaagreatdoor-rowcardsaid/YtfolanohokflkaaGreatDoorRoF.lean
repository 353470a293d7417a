import Derived.Test.YtfolanohokflkaaGreatDoorNdL
import Derived.Test.YtfolanohokflkaaGreatDoorFdD
import Derived.Test.YtfolanohokflkaaGreatDoorBlD
import Derived.Test.YtfolanohokflkaaGreatDoorPrJ
import Derived.Laws.OwnMore
import Derived.Deep.RegionHeld3
import Derived.Test.YtfolanohokflkaaGreatDoorCards
import Derived.Test.YtfolanohokflkaaGreatDoorTie
import Derived.Test.YtfolanohokflkaaGreatDoorRoE
import Derived.WalkKit
import Derived.ProofKit
import Derived.OpenShut
import Derived.Carry
import Derived.ChangeOld
import Derived.Deep.Slices
import Derived.ChangeMaps5
import Derived.Deep.DeepHandedRow
import Derived.Lib.LaidTab
import Derived.Lib.LaidU8
import Derived.Lay
namespace Go.Proofs.YtfolanohokflkaaGreatDoor
open Go.RowKit
def o9 (N:Nat) (f:Nat->Bool):Array Value:=((List.range N).map fun k=>Value.bool (f k)).toArray
def Bl (w:World) (rb N:Nat) (f:Nat->Bool):Prop:=w.heap[rb]? = some (.cells (o9 N f) 4)
section
variable {w w':World} {rb N:Nat} {f g:Nat->Bool}
theorem Bl.lt (h:Bl w rb N f):rb<w.heap.size:=(Array.getElem?_eq_some_iff.1 h).1
theorem Bl.at (h:Bl w rb N f) {k:Nat} (hk:k<N):w.cell? ⟨rb,k,none⟩=some (.bool (f k)):=by
 unfold World.cell?
 rw [h]
 simp [o9,hk]
theorem Bl.fz (h:Bl w rb N f) (k:Nat):w.frozen? ⟨rb,k,none⟩=false:=by
 unfold World.frozen?
 rw [h]
 simp
theorem Bl.congr (h:Bl w rb N f) (e:∀ k,k<N->f k=g k):Bl w rb N g:=by
 have:o9 N f=o9 N g:=by
  unfold o9
  congr 1
  apply List.map_congr_left
  intro k hk
  rw [e k (List.mem_range.1 hk)]
 unfold Bl
 rw [<-this]
 exact h
theorem Bl.below (h:Hid (Bl w rb N f)) (hb:Hid (Below w.heap.size w w')):Hid (Bl w' rb N f):=((aa hb).block rb (aa h).lt).trans (aa h)
theorem L9 (N j:Nat) (f:Nat->Bool) (b:Bool):(o9 N f).setIfInBounds j (.bool b)=o9 N (fun k=>if k=j then b else f k):=by
 unfold o9
 apply Array.ext
 ·simp
 ·intro i h1 h2
  simp at h2
  simp only [List.setIfInBounds_toArray,List.getElem_toArray,List.getElem_set,List.getElem_map,List.getElem_range]
  by_cases q:j=i
  ·rw [if_pos q,if_pos q.symm]
  ·rw [if_neg q,if_neg (fun x=>q x.symm)]
theorem Bl.set (h:Bl w rb N f) {j:Nat} (b:Bool):Bl (w.setCell ⟨rb,j,none⟩ (.bool b)) rb N (fun k=>if k=j then b else f k):=by
 have e:=heap_setCell_same w rb j _ _ (.bool b) h
 unfold Bl
 rw [e,L9]
end
theorem OB (N:Nat):madeCells #[.bool false] (N*1)=o9 N (fun _=>false):=by
 rw [Nat.mul_one]
 apply Array.ext
 ·simp [madeCells,o9]
 ·intro i h1 h2
  simp [madeCells,o9,Nat.mod_one]
theorem X4:(Tryz.prog.info? 4).map (fun i=>(i.zero,i.size,i.bytes))=some (some (.bool false),1,1):=by kernel_rfl
theorem OC (w:World) {N:Nat} (hN:N<=100):(Instr.makeSlice 58 (.int .i64 (N:Int)) (.int .i64 (N:Int))).run Tryz.prog w=.ok (.slice (some ⟨w.heap.size,0,none⟩) N N) (w.alloc (.cells (o9 N (fun _=>false)) 4)):=by
 obtain ⟨i0,hi,hz0,hz1,hz2⟩:=info_parts X4
 have h:=run_makeSlice w 58 4 i0 (.bool false) Tryz.underlying58 hi hz0 .i64 .i64 (N:Int) (N:Int) (by omega) (by omega) (by rw [hz1];simp;omega) (by rw [hz2];omega) (by omega)
 rw [hz1,Int.toNat_natCast] at h
 have e:madeCells (Value.bool false).cells (N*1)=o9 N (fun _=>false):=OB N
 rw [e] at h
 exact h
end Go.Proofs.YtfolanohokflkaaGreatDoor
namespace Go.Proofs.YtfolanohokflkaaGreatDoor
open Go.RowKit
theorem aaS {N k:Nat} {f:Nat->Bool} (h:k<N):(o9 N f)[k]? = some (.bool (f k)):=by simp [o9,h]
theorem DI {t:ByteArray} {k:Nat} (h:k<(pts t).length):(pts t)[k]=pt t k:=by
 have e:=ZJ t k
 rw [<-e]
 simp [List.getD,h]
theorem aaT {t:ByteArray} {i j:Nat} (hij:i<=j) (hj:j<(pts t).length):pt t i<=pt t j:=by
 by_cases e:i=j
 ·subst e;exact Nat.le_refl _
 ·have h:=H_ t
  rw [List.pairwise_iff_getElem] at h
  have:=h i j (by omega) hj (by omega)
  rw [DI (by omega),DI hj] at this
  omega
theorem Ie {t:ByteArray} {j:Nat} (hj:j<(pts t).length):pt t j<=t.size:=abe (by rw [xn] at hj;omega)
def Ml (P:Pt) (t:ByteArray) (i j:Nat):Bool:=qZ P (((mE t).take j).drop i)
theorem DJ {p t:ByteArray} {P:Pt} (hp:aZ p=.ok P) {i j:Nat} (hij:i<=j) (hj:j<(pts t).length):Mk p (t.extract (pt t i) (pt t j))=if Ml P t i j=true then 1 else 0:=by
 rw [XZ hp,DC,Nn hij (by rw [xn] at hj;omega),<-DC]
 rfl
theorem X5 (p:ByteArray):(((⟨#[40]⟩++p)++⟨#[41,42]⟩:ByteArray)).data.toList=40::(p.data.toList++[41,42]):=by
 simp [ByteArray.data_append]
theorem X6 {p t S:ByteArray} {P:Pt} (hp:aZ p=.ok P) (hS:S.data.toList=40::(p.data.toList++[41,42])):Mk S t=-1\/Mk S t=if rF (Ml P t) (pts t).length ((pts t).length - 1)=true then 1 else 0:=by
 cases hs:aZ S with
 | error x=>exact .inl (X0 hs)
 | ok T=>
  have e:=Sv hp hS hs
  subst e
  refine .inr ?_
  rw [XZ hs,qj]
  have:=OA (pW hp) (L6 t)
  rw [<-this]
  rfl
set_option maxRecDepth 100000 in
set_option maxHeartbeats 16000000 in
theorem L_ {w:World} {p t:ByteArray} {P:Pt} {B g cap:Nat} (hp:aZ p=.ok P) (hs:t.size<=12) (ht:Hid (Lib.Utf8Tabs 4 5 w)) (ho:Hid (w.ownsRow B 3 1 (.slice (some ⟨g,0,none⟩) (pts t).length cap) (pts t).length (ints (ay (pts t))))) :
  Calls Tryz.prog 23 #[.string p,.string t,.slice (some ⟨g,0,none⟩) (pts t).length cap] w fun e w'=>e=.returned (.bool true)/\Hid (Below w.heap.size w w'):=by
 have hps:=Ib hp
 have HST:=hide (fun (W:World) h=>tC (w:=W) (p:=(⟨#[40]⟩++p)++⟨#[41,42]⟩) (u:=t) (by omega) h)
 have X7:=X6 (t:=t) hp (X5 p)
 generalize Mk ((⟨#[40]⟩++p)++⟨#[41,42]⟩) t=st at *
 have ng:=lV t
 have hpos:=uj t
 have HIS:Hid (∀ (W:World) (i j:Nat),Hid (Lib.Utf8Tabs 4 5 W)->i<=j->j<(pts t).length->Calls Tryz.prog 19 #[.string p,.string (t.extract (pt t i) (pt t j))] W fun x w'=>x=.returned (.int .i64 (if Ml P t i j=true then 1 else 0))/\Hid (Below W.heap.size W w')):=fun W i j hW hij hj=>by
  have h:=tC (w:=W) (p:=p) (u:=t.extract (pt t i) (pt t j)) (qL t _ _ (by omega)) hW
  rw [DJ hp hij hj] at h
  exact h
 have Uv:Hid (∀ (W:World) (k:Nat),Hid (Lib.Utf8Tabs 4 5 W)->k<(pts t).length->Calls Tryz.prog 22 #[.string t,.int .i64 ((pt t k:Nat):Int)] W fun e w'=>(∃ b,e=.returned (.bool b))/\Hid (Below W.heap.size W w')):=fun W k hW hk=>sM (Ie hk) (by omega) hW (hide fun u hu=>yO hu)
 have HRW:Hid (∀ (W:World) (k:Nat),Hid (Below w.heap.size w W)->k<(pts t).length->W.cell? ⟨g,k,none⟩=some (.int .i64 ((pt t k:Nat):Int))):=fun W k hb hk=>by
  have h1:=qg (aa ho) hk
  rw [DI hk] at h1
  exact aS hb (World.block_lt_of_cell? _ _ h1) h1
 have HPM:Hid (∀ i j,i<=j->j<(pts t).length->pt t i<=pt t j/\pt t j<=t.size):=fun i j h1 h2=>⟨aaT h1 h2,Ie h2⟩
 have HMK:Hid (∀ W:World,(Instr.makeSlice 58 (.int .i64 ((pts t).length:Int)) (.int .i64 ((pts t).length:Int))).run Tryz.prog W=.ok (.slice (some ⟨W.heap.size,0,none⟩) (pts t).length (pts t).length) (W.alloc (.cells (o9 (pts t).length (fun _=>false)) 4))):=fun W=>OC W (by omega)
 generalize Ml P t=Wd at *
 clear ho hp
 generalize hN:(pts t).length=N at *
 by_cases hneg:st=-1
 ·subst hneg
  clear X7 HIS Uv HRW HPM HMK
  go_enter Tryz.func23,Tryz.ntmps23
  go_wp2_with (go_at_call 19;refine (aa HST w ht).mono ?_;clear HST;rintro x w1 ⟨rfl,HB1⟩)
  go_ret
  exact ⟨rfl,HB1⟩
 ·have hst:st=if rF Wd N (N - 1)=true then 1 else 0:=by
   rcases X7 with h | h
   ·exact absurd h hneg
   ·exact h
  have aft:¬ st<0:=by rw [hst];split<;>omega
  have HSE:Hid ((st==1)=rF Wd N (N - 1)):=by
   show _=_
   rw [hst]
   cases rF Wd N (N - 1)<;>rfl
  clear X7 hneg hst
  have hmk:=aa HMK
  clear HMK
  go_enter Tryz.func23,Tryz.ntmps23
  go_wp2_with (go_at_call 19;refine (aa HST w ht).mono ?_;clear HST;rintro x w1 ⟨rfl,HB1⟩;have q0:(w1.alloc (.cells (o9 N (fun _=>false)) 4)).cell? ⟨w1.heap.size,0,none⟩=some (.bool false):=aA rfl 0 (aaS hpos);have qz:(w1.alloc (.cells (o9 N (fun _=>false)) 4)).frozen? ⟨w1.heap.size,0,none⟩=false:=World.frozen?_alloc_at _ _ _ _ rfl)
  have HBL:Hid (Bl (w1.alloc (.cells ((o9 N (fun _=>false)).setIfInBounds 0 (.bool true)) 4)) w1.heap.size N (rF Wd 0)):=by
   rw [L9]
   exact Bl.congr (f:=fun k=>if k=0 then true else false) (heap_alloc_new _ _) fun k _=>by
    show (if k=0 then true else false)=decide (k=0)
    by_cases e:k=0<;>simp [e]
  have HBB:Hid (Below w.heap.size w (w1.alloc (.cells ((o9 N (fun _=>false)).setIfInBounds 0 (.bool true)) 4))):=(aa HB1).alloc (aa HB1).size _
  have hrb:w.heap.size<=w1.heap.size:=(aa HB1).size
  clear hmk
  generalize w1.alloc (.cells ((o9 N (fun _=>false)).setIfInBounds 0 (.bool true)) 4)=w2 at *
  generalize w1.heap.size=rb at *
  go_loopw [9] (fun v wr=>∃ i:Nat,i<=N/\v=.int .i64 (i:Int)/\Hid (Bl wr rb N (rF Wd i))/\Hid (Below w.heap.size w wr)) (fun v _=>N - (intOf v).toNat)
  case atStart=>exact ⟨0,Nat.zero_le _,rfl,HBL,HBB⟩
  case round=>
   obtain ⟨i,hi,rfl,HL,HB⟩:=hrel
   clear HBL HBB
   by_cases hlt:i<N
   ·have Yf:(i:Int)<(N:Int):=by omega
    go_wp2_with fail
    go_loopw [10] (fun v wx=>∃ j:Nat,i+1<=j/\j<=N/\v=.int .i64 (j:Int)/\Hid (Bl wx rb N (rG Wd i j))/\Hid (Below w.heap.size w wx)) (fun v _=>N - (intOf v).toNat)
    case atStart=>exact ⟨i+1,Nat.le_refl _,by omega,by go_num,hide ((aa HL).congr fun k _=>(X3 i k).symm),HB⟩
    case round=>
     obtain ⟨j,hij,hj,rfl,HLj,HBj⟩:=hrel
     clear HL HB
     by_cases hjlt:j<N
     ·have ZW:(j:Int)<(N:Int):=by omega
      have ci:=(aa HLj).at hlt
      rw [aaQ] at ci
      cases hfi:rF Wd i i with
      | false=>
       rw [hfi] at ci
       go_wp2_with fail
       go_roundw
       case rel=>exact ⟨i+1,by omega,by go_num,hide ((aa HLj).congr fun k _=>by rw [aeo hfi,aep hfi]),HBj⟩
       case measure=>simp [intOf];omega
      | true=>
       rw [hfi] at ci
       have gi:=aa HRW wr i HBj hlt
       have gj:=aa HRW wr j HBj hjlt
       obtain ⟨hm1,hm2⟩:=aa HPM i j (by omega) hjlt
       have afu:((pt t i:Nat):Int)<=((pt t j:Nat):Int):=by omega
       have afv:((pt t j:Nat):Int)<=(t.size:Int):=by omega
       have afw:(0:Int)<=((pt t i:Nat):Int):=by omega
       have HBd:Hid (Below w.heap.size w (wr.drewN 1)):=⟨(aa HBj).os,(aa HBj).tape,(aa HBj).output,(aa HBj).size,(aa HBj).block⟩
       have HLd:Hid (Bl (wr.drewN 1) rb N (rG Wd i j)):=HLj
       have C9:=hide (aa HIS (wr.drewN 1) i j (dB ht HBd) (by omega) hjlt)
       have HSI:=hide (fun (W:World) (hb:Hid (Below w.heap.size w W))=>aa Uv W i (dB ht hb) hlt)
       have HSJ:=hide (fun (W:World) (hb:Hid (Below w.heap.size w W))=>aa Uv W j (dB ht hb) hjlt)
       have HGI:=hide (fun (W:World) (hb:Hid (Below w.heap.size w W))=>aa HRW W i hb hlt)
       have HGJ:=hide (fun (W:World) (hb:Hid (Below w.heap.size w W))=>aa HRW W j hb hjlt)
       have HST:Hid (∀ k,k<N->rG Wd i (j+1) k=if k=j then (rG Wd i j j||Wd i j) else rG Wd i j k):=fun k _=>aaR hfi (by omega) k
       have HCJ:Hid (∀ W:World,Hid (Bl W rb N (rG Wd i j))->W.cell? ⟨rb,j,none⟩=some (.bool (rG Wd i j j))/\W.frozen? ⟨rb,j,none⟩=false):=fun W hW=>⟨(aa hW).at hjlt,(aa hW).fz j⟩
       have Lb:Hid (∀ (W:World) (b:Bool),Hid (Bl W rb N (rG Wd i j))->Hid (Below w.heap.size w W)->b=(rG Wd i j j||Wd i j)->Hid (Bl (W.setCell ⟨rb,j,none⟩ (.bool b)) rb N (rG Wd i (j+1)))/\Hid (Below w.heap.size w (W.setCell ⟨rb,j,none⟩ (.bool b)))):=fun W b hW hB hb=>by
        subst hb
        exact ⟨hide (((aa hW).set _).congr fun k hk=>(aa HST k hk).symm),hide ((aa hB).setCell hrb _)⟩
       clear HIS Uv HRW HPM HST hm1 hm2
       generalize hx1:pt t i=x1 at *
       generalize hx2:pt t j=x2 at *
       cases hw:Wd i j with
       | false=>
        rw [hw] at C9
        have C9:Hid (Calls Tryz.prog 19 #[.string p,.string (t.extract x1 x2)] (wr.drewN 1) fun x w'=>x=.returned (.int .i64 0)/\Hid (Below (wr.drewN 1).heap.size (wr.drewN 1) w')):=C9
        cases hr:rG Wd i j j with
        | false=>
         rw [hr,hw] at Lb
         rw [hr] at HCJ
         go_wp2_with fail
         go_region_held3 (fun w'=>w'.cell? ⟨g,i,none⟩=some (.int .i64 (x1:Int))/\w'.cell? ⟨g,j,none⟩=some (.int .i64 (x2:Int))) (go_keep)
          (first | (go_at_call 19;refine (aa C9).mono ?_;clear C9;rintro x w3 ⟨rfl,hb3⟩;have HB3:=bF HBd hb3;have Yw:=Bl.below HLd hb3;clear hb3 ci gi gj;have gi:=aa HGI w3 HB3;have gj:=aa HGJ w3 HB3))
         go_wp2_with (first
          | (have H':=HSI;clear HSI;go_at_call 22;refine (aa H' w3 HB3).mono ?_;clear H';rintro x w4 ⟨⟨b1,rfl⟩,hb4⟩;have kL:=bF HB3 hb4;have HL4:=Bl.below Yw hb4;clear hb4 gi gj;have gi:=aa HGI w4 kL;have gj:=aa HGJ w4 kL;cases b1)
          | (have H':=HSJ;clear HSJ;go_at_call 22;refine (aa H' w4 kL).mono ?_;clear H';rintro x w5 ⟨⟨b2,rfl⟩,hb5⟩;have jI:=bF kL hb5;have X8:=Bl.below HL4 hb5;clear hb5;obtain ⟨cj,zj⟩:=aa HCJ w5 X8;cases b2))
         all_goals first
          | (go_ret;exact ⟨rfl,jI⟩)
          | (obtain ⟨q1,q2⟩:=aa Lb w5 _ X8 jI rfl;go_roundw;exact ⟨j+1,by omega,by omega,by go_num,q1,q2⟩;simp [intOf];omega)
        | true=>
         rw [hr,hw] at Lb
         rw [hr] at HCJ
         go_wp2_with fail
         go_region_held3 (fun w'=>w'.cell? ⟨g,i,none⟩=some (.int .i64 (x1:Int))/\w'.cell? ⟨g,j,none⟩=some (.int .i64 (x2:Int))) (go_keep)
          (first | (go_at_call 19;refine (aa C9).mono ?_;clear C9;rintro x w3 ⟨rfl,hb3⟩;have HB3:=bF HBd hb3;have Yw:=Bl.below HLd hb3;clear hb3 ci gi gj;have gi:=aa HGI w3 HB3;have gj:=aa HGJ w3 HB3))
         go_wp2_with (first
          | (have H':=HSI;clear HSI;go_at_call 22;refine (aa H' w3 HB3).mono ?_;clear H';rintro x w4 ⟨⟨b1,rfl⟩,hb4⟩;have kL:=bF HB3 hb4;have HL4:=Bl.below Yw hb4;clear hb4 gi gj;have gi:=aa HGI w4 kL;have gj:=aa HGJ w4 kL;cases b1)
          | (have H':=HSJ;clear HSJ;go_at_call 22;refine (aa H' w4 kL).mono ?_;clear H';rintro x w5 ⟨⟨b2,rfl⟩,hb5⟩;have jI:=bF kL hb5;have X8:=Bl.below HL4 hb5;clear hb5;obtain ⟨cj,zj⟩:=aa HCJ w5 X8;cases b2))
         all_goals first
          | (go_ret;exact ⟨rfl,jI⟩)
          | (obtain ⟨q1,q2⟩:=aa Lb w5 _ X8 jI rfl;go_roundw;exact ⟨j+1,by omega,by omega,by go_num,q1,q2⟩;simp [intOf];omega)
       | true=>
        rw [hw] at C9
        have C9:Hid (Calls Tryz.prog 19 #[.string p,.string (t.extract x1 x2)] (wr.drewN 1) fun x w'=>x=.returned (.int .i64 1)/\Hid (Below (wr.drewN 1).heap.size (wr.drewN 1) w')):=C9
        cases hr:rG Wd i j j with
        | false=>
         rw [hr,hw] at Lb
         rw [hr] at HCJ
         go_wp2_with fail
         go_region_held3 (fun w'=>w'.cell? ⟨g,i,none⟩=some (.int .i64 (x1:Int))/\w'.cell? ⟨g,j,none⟩=some (.int .i64 (x2:Int))) (go_keep)
          (first | (go_at_call 19;refine (aa C9).mono ?_;clear C9;rintro x w3 ⟨rfl,hb3⟩;have HB3:=bF HBd hb3;have Yw:=Bl.below HLd hb3;clear hb3 ci gi gj;have gi:=aa HGI w3 HB3;have gj:=aa HGJ w3 HB3))
         go_wp2_with (first
          | (have H':=HSI;clear HSI;go_at_call 22;refine (aa H' w3 HB3).mono ?_;clear H';rintro x w4 ⟨⟨b1,rfl⟩,hb4⟩;have kL:=bF HB3 hb4;have HL4:=Bl.below Yw hb4;clear hb4 gi gj;have gi:=aa HGI w4 kL;have gj:=aa HGJ w4 kL;cases b1)
          | (have H':=HSJ;clear HSJ;go_at_call 22;refine (aa H' w4 kL).mono ?_;clear H';rintro x w5 ⟨⟨b2,rfl⟩,hb5⟩;have jI:=bF kL hb5;have X8:=Bl.below HL4 hb5;clear hb5;obtain ⟨cj,zj⟩:=aa HCJ w5 X8;cases b2))
         all_goals first
          | (go_ret;exact ⟨rfl,jI⟩)
          | (obtain ⟨q1,q2⟩:=aa Lb w5 _ X8 jI rfl;go_roundw;exact ⟨j+1,by omega,by omega,by go_num,q1,q2⟩;simp [intOf];omega)
        | true=>
         rw [hr,hw] at Lb
         rw [hr] at HCJ
         go_wp2_with fail
         go_region_held3 (fun w'=>w'.cell? ⟨g,i,none⟩=some (.int .i64 (x1:Int))/\w'.cell? ⟨g,j,none⟩=some (.int .i64 (x2:Int))) (go_keep)
          (first | (go_at_call 19;refine (aa C9).mono ?_;clear C9;rintro x w3 ⟨rfl,hb3⟩;have HB3:=bF HBd hb3;have Yw:=Bl.below HLd hb3;clear hb3 ci gi gj;have gi:=aa HGI w3 HB3;have gj:=aa HGJ w3 HB3))
         go_wp2_with (first
          | (have H':=HSI;clear HSI;go_at_call 22;refine (aa H' w3 HB3).mono ?_;clear H';rintro x w4 ⟨⟨b1,rfl⟩,hb4⟩;have kL:=bF HB3 hb4;have HL4:=Bl.below Yw hb4;clear hb4 gi gj;have gi:=aa HGI w4 kL;have gj:=aa HGJ w4 kL;cases b1)
          | (have H':=HSJ;clear HSJ;go_at_call 22;refine (aa H' w4 kL).mono ?_;clear H';rintro x w5 ⟨⟨b2,rfl⟩,hb5⟩;have jI:=bF kL hb5;have X8:=Bl.below HL4 hb5;clear hb5;obtain ⟨cj,zj⟩:=aa HCJ w5 X8;cases b2))
         all_goals first
          | (go_ret;exact ⟨rfl,jI⟩)
          | (obtain ⟨q1,q2⟩:=aa Lb w5 _ X8 jI rfl;go_roundw;exact ⟨j+1,by omega,by omega,by go_num,q1,q2⟩;simp [intOf];omega)
     ·have ZW:¬ (j:Int)<(N:Int):=by omega
      go_wp2_with fail
      go_roundw
      case rel=>exact ⟨i+1,by omega,by go_num,hide ((aa HLj).congr fun k hk=>ac2 (by omega)),HBj⟩
      case measure=>simp [intOf];omega
   ·have Yf:¬ (i:Int)<(N:Int):=by omega
    have hiN:i=N:=by omega
    have hN1:N - 1<N:=by omega
    have ci:=(aa HL).at hN1
    rw [hiN] at ci
    rw [<-aa HSE] at ci
    have hNI:((N:Int) - 1)=((N - 1:Nat):Int):=by omega
    clear HSE HIS Uv HRW HPM
    obtain ⟨N',hN'⟩:∃ N',N=N'+1:=⟨N - 1,by omega⟩
    subst hN'
    rw [Nat.add_sub_cancel] at ci hNI
    go_wp2_with fail
    go_ret
    exact ⟨by simp,HB⟩
end Go.Proofs.YtfolanohokflkaaGreatDoor
namespace Go.Proofs.YtfolanohokflkaaGreatDoor
open Go.RowKit
def Yz (P Q:Pt) (t:ByteArray):Nat->Bool
 | 0=>false
 | i+1=>Yz P Q t i||(Ml P t 0 i&&Ml Q t i ((pts t).length - 1))
theorem Q6 {P Q:Pt} {t:ByteArray}:∀ m,Yz P Q t m=true↔∃ i,i<m/\Ml P t 0 i=true/\Ml Q t i ((pts t).length - 1)=true
 | 0=>by simp [Yz]
 | m+1=>by
  rw [Yz,Bool.or_eq_true,Q6 m,Bool.and_eq_true]
  constructor
  ·rintro (⟨i,h1,h2⟩ | h)
   ·exact ⟨i,by omega,h2⟩
   ·exact ⟨m,by omega,h⟩
  ·rintro ⟨i,h1,h2⟩
   by_cases e:i=m
   ·subst e;exact .inr h2
   ·exact .inl ⟨i,by omega,h2⟩
theorem aaU (p q:ByteArray):((((⟨#[40]⟩++p)++⟨#[41,40]⟩)++q++⟨#[41]⟩:ByteArray)).data.toList=40::(p.data.toList++41::40::(q.data.toList++[41])):=by
 simp [ByteArray.data_append]
theorem aaV {p q t S:ByteArray} {P Q:Pt} (hp:aZ p=.ok P) (hq:aZ q=.ok Q) (hS:S.data.toList=40::(p.data.toList++41::40::(q.data.toList++[41]))):Mk S t=-1\/Mk S t=if Yz P Q t (pts t).length=true then 1 else 0:=by
 cases hs:aZ S with
 | error x=>exact .inl (X0 hs)
 | ok T=>
  have e:=VS hp hq hS hs
  subst e
  refine .inr ?_
  rw [XZ hs]
  have key:qZ (.row [P,Q]) (mE t)=Yz P Q t (pts t).length:=by
   rw [Bool.eq_iff_iff,VT (pW hp) (pW hq) (L6 t),Q6]
   have hc:=qj t
   unfold Ml
   rw [hc,Nat.add_sub_cancel,List.take_length]
   constructor
   ·rintro ⟨u,v,e,h1,h2⟩
    refine ⟨u.length,?_,?_,?_⟩
    ·have:=congrArg List.length e
     rw [List.length_append] at this
     omega
    ·rw [e,List.take_left,List.drop_zero];exact h1
    ·rw [e,List.drop_left];exact h2
   ·rintro ⟨i,h0,h1,h2⟩
    exact ⟨(mE t).take i,(mE t).drop i,(List.take_append_drop i _).symm,by rw [List.drop_zero] at h1;exact h1,h2⟩
  rw [key]
theorem X9 (t:ByteArray):pt t 0=0:=xh (Nat.zero_le _)
theorem aaW (t:ByteArray):pt t ((pts t).length - 1)=t.size:=by
 rw [<-DI (by have:=uj t;omega),Kg]
set_option maxRecDepth 100000 in
set_option maxHeartbeats 40000000 in
theorem X_ {w:World} {p q t:ByteArray} {a b:Bool} (ht:Hid (Lib.Utf8Tabs 4 5 w))
  (HA:Hid (Calls Tryz.prog 16 #[] w fun x w'=>x=.returned (.bool true)/\Hid (Below w.heap.size w w')))
  (HR1:Hid (∀ W:World,Hid (Lib.Utf8Tabs 4 5 W)->Calls Tryz.prog 17 #[.string p] W fun x w'=>x=.returned (.bool a)/\Hid (Below W.heap.size W w')))
  (HR2:Hid (∀ W:World,Hid (Lib.Utf8Tabs 4 5 W)->Calls Tryz.prog 17 #[.string q] W fun x w'=>x=.returned (.bool b)/\Hid (Below W.heap.size W w'))) (h:a=false\/b=false) :
  Calls Tryz.prog 7 #[.string p,.string q,.string t] w fun e w'=>e=.returned (.bool true)/\Hid (Below w.heap.size w w'):=by
 cases a
 ·clear h
  go_enter Tryz.func7,Tryz.ntmps7
  go_wp2_with (first
   | (have HA':=HA;clear HA;go_at_call 16;refine (aa HA').mono ?_;clear HA';rintro x w1 ⟨rfl,B1⟩)
   | (have H1':=HR1;clear HR1;go_at_call 17;refine (aa H1' w1 (dB ht B1)).mono ?_;clear H1';rintro x w2 ⟨rfl,hb2⟩;have B2:=bF B1 hb2;clear hb2)
   | (have H2':=HR2;clear HR2;go_at_call 17;refine (aa H2' w2 (dB ht B2)).mono ?_;clear H2';rintro x w3 ⟨rfl,hb3⟩;have B3:=bF B2 hb3;clear hb3))
  go_ret
  exact ⟨rfl,B3⟩
 ·have hb:b=false:=by rcases h with h | h;cases h;exact h
  subst hb
  clear h
  go_enter Tryz.func7,Tryz.ntmps7
  go_wp2_with (first
   | (have HA':=HA;clear HA;go_at_call 16;refine (aa HA').mono ?_;clear HA';rintro x w1 ⟨rfl,B1⟩)
   | (have H1':=HR1;clear HR1;go_at_call 17;refine (aa H1' w1 (dB ht B1)).mono ?_;clear H1';rintro x w2 ⟨rfl,hb2⟩;have B2:=bF B1 hb2;clear hb2)
   | (have H2':=HR2;clear HR2;go_at_call 17;refine (aa H2' w2 (dB ht B2)).mono ?_;clear H2';rintro x w3 ⟨rfl,hb3⟩;have B3:=bF B2 hb3;clear hb3))
  go_ret
  exact ⟨rfl,B3⟩
set_option maxRecDepth 100000 in
set_option maxHeartbeats 40000000 in
theorem Ya {w:World} {p q t u:ByteArray} {P Q:Pt} (hp:aZ p=.ok P) (hq:aZ q=.ok Q) (hu:u.size<=12) (ht:Hid (Lib.Utf8Tabs 4 5 w))
  (HA:Hid (Calls Tryz.prog 16 #[] w fun x w'=>x=.returned (.bool true)/\Hid (Below w.heap.size w w')))
  (HR1:Hid (∀ W:World,Hid (Lib.Utf8Tabs 4 5 W)->Calls Tryz.prog 17 #[.string p] W fun x w'=>x=.returned (.bool true)/\Hid (Below W.heap.size W w')))
  (HR2:Hid (∀ W:World,Hid (Lib.Utf8Tabs 4 5 W)->Calls Tryz.prog 17 #[.string q] W fun x w'=>x=.returned (.bool true)/\Hid (Below W.heap.size W w')))
  (HC:Hid (∀ W:World,Calls Tryz.prog 18 #[.string t,.int .i64 12] W fun x w'=>x=.returned (.string u)/\w'=W)) :
  Calls Tryz.prog 7 #[.string p,.string q,.string t] w fun e w'=>e=.returned (.bool true)/\Hid (Below w.heap.size w w'):=by
 have hps:=Ib hp
 have hqs:=Ib hq
 have HRO:=hide (fun (W:World) h=>tC (w:=W) (p:=((⟨#[40]⟩++p)++⟨#[41,40]⟩)++q++⟨#[41]⟩) (u:=u) (by omega) h)
 have X7:=aaV (t:=u) hp hq (aaU p q)
 generalize Mk (((⟨#[40]⟩++p)++⟨#[41,40]⟩)++q++⟨#[41]⟩) u=rw' at *
 have ac3:=hide (fun (W:World) h=>qK (w:=W) (t:=u) (by omega) h (hide (yO (by omega))))
 have ac4:=hide (fun (W:World) (B g cap:Nat) h ho=>L_ (w:=W) (p:=p) (t:=u) (P:=P) (B:=B) (g:=g) (cap:=cap) hp hu h ho)
 have HI1:Hid (∀ (W:World) (i:Nat),Hid (Lib.Utf8Tabs 4 5 W)->i<(pts u).length->Calls Tryz.prog 19 #[.string p,.string (u.extract 0 (pt u i))] W fun x w'=>x=.returned (.int .i64 (if Ml P u 0 i=true then 1 else 0))/\Hid (Below W.heap.size W w')):=fun W i hW hi=>by
  have h:=tC (w:=W) (p:=p) (u:=u.extract (pt u 0) (pt u i)) (qL u _ _ (by omega)) hW
  rw [DJ hp (Nat.zero_le _) hi,X9] at h
  exact h
 have HI2:Hid (∀ (W:World) (i:Nat),Hid (Lib.Utf8Tabs 4 5 W)->i<(pts u).length->Calls Tryz.prog 19 #[.string q,.string (u.extract (pt u i) u.size)] W fun x w'=>x=.returned (.int .i64 (if Ml Q u i ((pts u).length - 1)=true then 1 else 0))/\Hid (Below W.heap.size W w')):=fun W i hW hi=>by
  have h:=tC (w:=W) (p:=q) (u:=u.extract (pt u i) (pt u ((pts u).length - 1))) (qL u _ _ (by omega)) hW
  rw [DJ hq (by omega) (by omega),aaW] at h
  exact h
 have Uv:Hid (∀ (W:World) (k:Nat),Hid (Lib.Utf8Tabs 4 5 W)->k<(pts u).length->Calls Tryz.prog 22 #[.string u,.int .i64 ((pt u k:Nat):Int)] W fun e w'=>(∃ b,e=.returned (.bool b))/\Hid (Below W.heap.size W w')):=fun W k hW hk=>sM (Ie hk) (by omega) hW (hide fun u hu=>yO hu)
 have HRW:Hid (∀ (w5 W:World) (B g cap k:Nat),Hid (w5.ownsRow B 3 1 (.slice (some ⟨g,0,none⟩) (pts u).length cap) (pts u).length (ints (ay (pts u))))->Hid (Below w5.heap.size w5 W)->k<(pts u).length->W.cell? ⟨g,k,none⟩=some (.int .i64 ((pt u k:Nat):Int))):=fun w5 W B g cap k ho hb hk=>by
  have h1:=qg (aa ho) hk
  rw [DI hk] at h1
  exact aS hb (World.block_lt_of_cell? _ _ h1) h1
 have HPM:Hid (∀ i,i<(pts u).length->pt u i<=u.size):=fun i h=>Ie h
 have Td:Hid (∀ i,Yz P Q u (i+1)=(Yz P Q u i||(Ml P u 0 i&&Ml Q u i ((pts u).length - 1)))):=fun i=>rfl
 have dQ:Hid (Yz P Q u 0=false):=rfl
 have ng:=lV u
 unfold StR at ac3
 clear hp hq
 generalize Yz P Q u=sm at *
 generalize Ml P u 0=wp at *
 generalize hwq:(fun i=>Ml Q u i ((pts u).length - 1))=wq at *
 have HQ:Hid (∀ i,Ml Q u i ((pts u).length - 1)=wq i):=fun i=>by rw [<-hwq]
 clear hwq
 go_enter Tryz.func7,Tryz.ntmps7
 go_wp2_with (first
  | (have HA':=HA;clear HA;go_at_call 16;refine (aa HA').mono ?_;clear HA';rintro x w1 ⟨rfl,B1⟩)
  | (have H1':=HR1;clear HR1;go_at_call 17;refine (aa H1' w1 (dB ht B1)).mono ?_;clear H1';rintro x w2 ⟨rfl,hb2⟩;have B2:=bF B1 hb2;clear hb2)
  | (have H2':=HR2;clear HR2;go_at_call 17;refine (aa H2' w2 (dB ht B2)).mono ?_;clear H2';rintro x w3 ⟨rfl,hb3⟩;have B3:=bF B2 hb3;clear hb3)
  | (go_at_call 18;refine (aa HC w3).mono ?_;clear HC;rintro x w4 ⟨rfl,rfl⟩)
  | (go_at_call 21;refine (aa ac3 _ (dB ht B3)).mono ?_;clear ac3;rintro x w5 ⟨g,cap,rfl,hb5,o_⟩;have B5:=bF B3 hb5;clear hb5)
  | (have H':=HRO;clear HRO;go_at_call 19;refine (aa H' w5 (dB ht B5)).mono ?_;clear H';rintro x w6 ⟨rfl,hb6⟩))
 have pE:=dB ht B5
 have Rh:=hb6
 clear hb6
 generalize hN:(pts u).length=N at *
 go_loopw [14,15,16] (fun so su v wr=>∃ (i:Nat) (sb:Bool),i<=N/\so=.bool (sm i)/\su=.bool sb/\v=.int .i64 (i:Int)/\Hid (Below w5.heap.size w5 wr)) (fun _ _ v _=>N - (intOf v).toNat)
 case atStart=>exact ⟨0,true,Nat.zero_le _,by rw [aa dQ],rfl,rfl,Rh⟩
 case round=>
  obtain ⟨i,sb,hi,rfl,rfl,rfl,HBr⟩:=hrel
  clear Rh
  by_cases hlt:i<N
  ·have Yf:(i:Int)<(N:Int):=by omega
   have hm:=aa HPM i hlt
   have YX:((pt u i:Nat):Int)<=(u.size:Int):=by omega
   have hm0:(0:Int)<=((pt u i:Nat):Int):=by omega
   have HG:=hide (fun (W:World) (hb:Hid (Below w5.heap.size w5 W))=>aa HRW w5 W _ g cap i o_ hb hlt)
   have gi:=aa HG wr HBr
   have HA1:=hide (fun (W:World) (hb:Hid (Below w5.heap.size w5 W))=>aa HI1 W i (dB pE hb) hlt)
   have HA2:=hide (fun (W:World) (hb:Hid (Below w5.heap.size w5 W))=>aa HI2 W i (dB pE hb) hlt)
   have Yt:=hide (fun (W:World) (hb:Hid (Below w5.heap.size w5 W))=>aa Uv W i (dB pE hb) hlt)
   have hsm:=aa Td i
   rw [aa HQ i] at hsm HA2
   have HE:=hide hsm
   clear hsm HI1 HI2 Uv HRW HPM Td ac4 hm
   generalize pt u i=xi at *
   cases hA:wp i<;>cases hB:wq i<;>cases hM:sm i<;>cases sb <;>
   ·rw [hA] at HA1
    rw [hB] at HA2
    rw [hA,hB,hM] at HE
    simp only [Bool.false_eq_true,if_false,if_true] at HA1 HA2
    go_wp2_with (first
     | (have H':=HA1;clear HA1;go_at_call 19;refine (aa H' wr HBr).mono ?_;clear H';rintro x w7 ⟨rfl,FV⟩;have HB7:=bF HBr FV;clear FV gi;have gi:=aa HG w7 HB7)
     | (have H':=HA2;clear HA2;go_at_call 19;refine (aa H' w7 HB7).mono ?_;clear H';rintro x w8 ⟨rfl,hb8⟩;have HB8:=bF HB7 hb8;clear hb8 gi;have gi:=aa HG w8 HB8)
     | (go_at_call 22;refine (aa Yt w8 HB8).mono ?_;clear Yt;rintro x w9 ⟨⟨b1,rfl⟩,hb9⟩;have HB9:=bF HB8 hb9;clear hb9;cases b1))
    all_goals (go_roundw;exact ⟨i+1,_,by omega,by rw [aa HE];rfl,rfl,by go_num,HB9⟩;simp [intOf];omega)
  ·have Yf:¬ (i:Int)<(N:Int):=by omega
   obtain rfl:i=N:=by omega
   have UK:=hide (aa ac4 wr _ g cap (dB pE HBr) (hide (own_below (aa o_) (aa HBr) (Nat.le_refl _))))
   clear ac4 HI1 HI2 Uv HRW HPM Td HQ dQ
   have IY:=bF B5 HBr
   rcases X7 with rfl | hl
   ·cases sb <;>
    ·go_wp2_with (go_at_call 23;refine (aa UK).mono ?_;clear UK;rintro x w7 ⟨rfl,FV⟩)
     go_ret
     exact ⟨rfl,bF IY FV⟩
   ·cases hM:sm i
    ·rw [hM] at hl
     simp only [Bool.false_eq_true,if_false] at hl
     subst hl
     cases sb <;>
     ·go_wp2_with (go_at_call 23;refine (aa UK).mono ?_;clear UK;rintro x w7 ⟨rfl,FV⟩)
      go_ret
      exact ⟨rfl,bF IY FV⟩
    ·rw [hM] at hl
     simp only [if_true] at hl
     subst hl
     cases sb <;>
     ·go_wp2_with (go_at_call 23;refine (aa UK).mono ?_;clear UK;rintro x w7 ⟨rfl,FV⟩)
      go_ret
      exact ⟨rfl,bF IY FV⟩
theorem Yb {w:World} {p q t:ByteArray} (ht:Hid (Lib.Utf8Tabs 4 5 w)) :
  Calls Tryz.prog 7 #[.string p,.string q,.string t] w fun e w'=>e=.returned (.bool true)/\Hid (Below w.heap.size w w'):=by
 by_cases h:ow p=false\/ow q=false
 ·exact X_ ht (hide (FQ ht)) (hide fun W hW=>uq hW) (hide fun W hW=>uq hW) h
 ·have h1:ow p=true:=by
   cases e:ow p with
   | true=>rfl
   | false=>exact absurd (.inl e) h
  have h2:ow q=true:=by
   cases e:ow q with
   | true=>rfl
   | false=>exact absurd (.inr e) h
  obtain ⟨P,hP⟩:=L8 h1
  obtain ⟨Q,hQ⟩:=L8 h2
  refine Ya (u:=XX t 12) hP hQ (XY t 12) ht (hide (FQ ht)) (hide fun W hW=>?_) (hide fun W hW=>?_) (hide fun W=>aaP (n:=12) (by omega))
  ·have:=uq (p:=p) hW;rw [h1] at this;exact this
  ·have:=uq (p:=q) hW;rw [h2] at this;exact this
end Go.Proofs.YtfolanohokflkaaGreatDoor
namespace Go.Proofs.YtfolanohokflkaaGreatDoor
open Go.ChangeShapes Go.WideShapes Go.ChangeAt Go.RowKit Go.ChangeMaps
theorem TV {W:World} (h:laidMetH Tryz.prog Rows.rowRow.laid W):Lib.Utf8Tabs 4 5 W:=by
 have h1:laidMet Tryz.prog Rows.rowRow.laid W:=h
 exact utf8Tabs_of_reads Tryz.YF YH (Lib.laidMet.reads h1 (by rw [<-Ue];simp [Rows.rowRow])) (Lib.laidMet.reads h1 (by rw [<-Q9];simp [Rows.rowRow]))
set_option maxRecDepth 100000 in
theorem contract (H:Type) (enc:TypeId×Value->H) (W:World) (base:Nat) (args:Array Value) (ds gs:List (DataW H)) (before:List MemPlace)
  (hval:∀ (j:Nat) t v,Tryz.f7.params[j]? = some t->args[j]? = some v->Value.okWide Tryz.prog W .any base t v)
  (hW:DataW.Whole enc Tryz.prog Tryz.f7.params.toList Rows.rowSpec.vars false W args.toList ds gs before) (hL:laidMetH Tryz.prog Rows.rowRow.laid W) :
  Calls Tryz.prog 7 args W fun e W'=>∃ v,e=.returned v/\Rows.rowSpec.post enc Tryz.prog Tryz.f7 false true false false W args v W':=by
 have hW':=hW
 obtain ⟨p,q,hA0,hV,rfl,hfz,hnd⟩:=hW
 have hA:DataW.TrodAll enc Tryz.prog W 0 (fun _=>true) true Tryz.f7.params.toList args.toList ds p:=hA0
 rw [Tryz.params7] at hA hval
 obtain ⟨v0,vs0,d0,ds0,p0,q0,hargs,rfl,rfl,h0,r0⟩:=trodAll_cons hA
 obtain ⟨v1,vs1,d1,ds1,p1,q1,ae3,rfl,rfl,h1,r1⟩:=trodAll_cons r0
 obtain ⟨v2,vs2,d2,ds2,p2,q2,ae4,rfl,rfl,h2,r2⟩:=trodAll_cons r1
 obtain ⟨rfl,rfl,rfl⟩:=trodAll_nil r2
 obtain rfl:args=#[v0,v1,v2]:=by cases args;simp_all
 obtain ⟨rfl,rfl⟩:=trodVars_none hV
 obtain ⟨x,rfl,rfl,rfl,hx⟩:=open_string Tryz.underlying9 (hval 0 9 v0 rfl rfl) h0
 obtain ⟨y,rfl,rfl,rfl,hy⟩:=open_string Tryz.underlying9 (hval 1 9 v1 rfl rfl) h1
 obtain ⟨z,rfl,rfl,rfl,hz⟩:=open_string Tryz.underlying9 (hval 2 9 v2 rfl rfl) h2
 clear hA0
 refine (Yb (hide (TV hL))).mono fun e W' ⟨he,hb⟩=>?_
 subst he
 refine ⟨_,rfl,⟨_,_,_,[],[],[],hW',?_,?_,rfl,(aa hb).frame _,fun h=>by cases h⟩⟩
 ·exact trodAll_cons_mk (shut_bool Tryz.underlying4 _) trodAll_mk0
 ·exact trodAll_cons_mk (shut_string Tryz.underlying9 hx) (trodAll_cons_mk (shut_string Tryz.underlying9 hy) (trodAll_cons_mk (shut_string Tryz.underlying9 hz) trodAll_mk0))
noncomputable def yP (os:Os):World:=World.laidAll Tryz.prog os Rows.rowRow.laid
theorem Yc (os:Os):laidMet Tryz.prog Rows.rowRow.laid ((yP os).forCall (fun _ _=>0) ⟨#[],#[.string ⟨#[]⟩,.string ⟨#[]⟩,.string ⟨#[]⟩],[]⟩).memory:=
 laidMet_laidAll #[.string ⟨#[]⟩,.string ⟨#[]⟩,.string ⟨#[]⟩] (by kernel_rfl) (by kernel_rfl)
theorem reads (os:Os) {H:Type} (enc:TypeId×Value->H):∃ places,DataW.whole enc Tryz.prog ((yP os).forCall (fun _ _=>0) ⟨#[],#[.string ⟨#[]⟩,.string ⟨#[]⟩,.string ⟨#[]⟩],[]⟩).memory Tryz.f7.params.toList Rows.rowSpec.vars false #[Value.string ⟨#[]⟩,Value.string ⟨#[]⟩,Value.string ⟨#[]⟩].toList 8=some ([.lit (.string []),.lit (.string []),.lit (.string [])],[],places):=
 ⟨[],by kernel_rfl⟩
set_option maxRecDepth 100000 in
theorem lifted (os:Os) (started:os.Started) (H:Type) (enc:TypeId×Value->H) (F:Stop.Interp) :
  ReturnsInHanded {} Tryz.checked os 7 .any ((OpenSpec.ofChange Rows.rowSpec).preRow enc Tryz.prog Tryz.f7 Rows.rowRow.domain false Rows.rowRow.laid) (((OpenSpec.ofChange Rows.rowSpec).at F).post enc Tryz.prog Tryz.f7 false true false false):=by
 obtain ⟨places,hx⟩:=reads os enc
 refine returnsInHanded_of_row (C:=Tryz.checked) (s:=OpenSpec.ofChange Rows.rowSpec) own started (by kernel_rfl) Tryz.func7
  (witness_row_at (enc:=enc) (C:=Tryz.checked) false (yP os) #[.string ⟨#[]⟩,.string ⟨#[]⟩,.string ⟨#[]⟩] (World.laidAll_os _ _ _) (by kernel_rfl) (by kernel_rfl) (by kernel_rfl)
   (OpenSpec.preRow_of_cond 8 hx (by kernel_rfl) (fun k hk=>by cases hk) (by kernel_rfl) (Yc os))) ?_
 intro W base args ds gs before hval hW _ _ _ hL _ _
 exact contract H enc W base args ds gs before hval hW hL
set_option maxRecDepth 100000 in
theorem said:Rows.RowSaid:=
 OpenClaim.holds_of_cond 7 Tryz.f7 rfl rfl rfl rfl rfl rfl rfl ⟨rfl,rfl,rfl,rfl,rfl⟩ rfl rfl rfl rfl rfl (by kernel_rfl) Tryz.func7 (by exact aeq)
  (of_decide_eq_true (by kernel_rfl)) (by unfold Func.isWrapper;first | (rw [if_pos (by decide +kernel)];kernel_rfl) | (rw [if_neg (by decide +kernel)];exact ⟨rfl,rfl⟩))
  (fun os started H enc _ F=>by rw [OpenClaim.pre_eq_preRow];exact lifted os started H enc F)
theorem row_card:Rows.RowCardSaid:=
 Claim7.holds_tied_plain_at .later [] _ _ _ _ said (fun _ h=>by cases h) YI (fun _ h=>by cases h) row_row_tie rfl ⟨rfl,rfl⟩ Rb rfl plain Rc
#print axioms row_card
end Go.Proofs.YtfolanohokflkaaGreatDoor
