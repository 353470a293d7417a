import Derived.Test.YtfolanohokflkaaGreatDoorSoG
import Derived.Sort.WalkC4
import Derived.Sort.WalkA6
import Derived.Test.YtfolanohokflkaaGreatDoorSvF
import Derived.Sort.Walk7
import Derived.Deep.Cut
import Derived.Sort.LotB
import Derived.Sort.LotC
import Derived.Sort.LotD2
namespace Go.Proofs.YtfolanohokflkaaGreatDoor
open Go.RowKit
set_option maxRecDepth 100000 in
set_option maxHeartbeats 4000000 in
theorem UW (w0 w:World) (g off n cap a b p:Nat) (d:Array Int) (hn:d.size=n) (hN:n<=1000000000) (hap:a<=p) (hpb:p<b) (hb:b<=n) (h:Hid (Rg w0 w g off d)) :
  Calls Tryz.prog 297 #[.slice (some ⟨g,off,none⟩) n cap,.int .i64 a,.int .i64 b,.int .i64 p] w fun e w'=>
   e=.returned (.int .i64 ((Sort.partitionEqual Sort.ltInt d a b p).1:Int))/\Hid (Rg w0 w' g off (Sort.partitionEqual Sort.ltInt d a b p).2):=by
 have HS:Hid (d.size=n):=hn
 clear hn
 have HT:Hid (Sort.partitionEqual Sort.ltInt d a b p=Sort.partEqLoop Sort.ltInt a (a+1) (b - 1) (Sort.swp d a p)):=hide rfl
 obtain ⟨T,hT⟩:∃ T,Sort.partitionEqual Sort.ltInt d a b p=T:=⟨_,rfl⟩
 rw [hT] at HT ⊢
 clear hT
 obtain ⟨G0,HG0,hc,hf⟩:=(aa h).pJ (aa HS)
 have Gq:=Rg.aS (Rg.eH h HS HG0 (i:=a) (j:=p) (by omega) (by omega)) 1
 have dI:=f_ (i:=a) (j:=p) HS
 generalize Sort.swp d a p=d0 at *
 rcases Nat.eq_or_lt_of_le hap with hz | hz
 ·subst hz
  go_enter Tryz.func297,Tryz.ntmps297
  go_wp2_with fail
  go_region
  generalize hw1:((w.setCell _ _).setCell _ _).drew=w1
  have HR1:Hid (Rg w0 w1 g off d0):=by rw [<-hw1];exact Gq
  clear Gq hw1 h hc hf HG0 HS
  go_wp2_with fail
  go_loopw [9,10] (fun v u wr=>∃ (i j:Nat) (d1:Array Int),v=.int .i64 (i:Int)/\u=.int .i64 (j:Int)/\a<i/\i<=j+1/\j<b/\Hid (d1.size=n)/\Hid (Rg w0 wr g off d1)/\Hid (T=Sort.partEqLoop Sort.ltInt a i j d1)) (fun v _ _=>b+1 - (intOf v).toNat)
  case atStart=>exact ⟨a+1,b - 1,d0,by go_num,by go_num,by omega,by omega,by omega,dI,HR1,HT⟩
  case round=>
   obtain ⟨i,j,d1,rfl,rfl,hai,hij,hjb,eO,HR,HO⟩:=hrel
   clear HR1 HT dI
   go_wp2_with fail
   go_loopw [9] (fun v wr=>∃ (i2:Nat),v=.int .i64 (i2:Int)/\i<=i2/\i2<=j+1/\Hid (Rg w0 wr g off d1)/\Hid (Sort.scanUp (fun x=>!Sort.ltInt d1[a]! x) d1 j i2=Sort.scanUp (fun x=>!Sort.ltInt d1[a]! x) d1 j i)) (fun v _=>j+1 - (intOf v).toNat)
   case atStart=>exact ⟨i,rfl,Nat.le_refl _,hij,HR,hide rfl⟩
   case round=>
    obtain ⟨i2,rfl,hi2,hj2,HR2,HU⟩:=hrel
    clear HR
    by_cases hlt:i2<=j
    ·have hI:(i2:Int)<=(j:Int):=by omega
     obtain ⟨G,HG,hc,hf⟩:=(aa HR2).pJ (aa eO)
     go_wp2_with fail
     go_quiet ((go_at_call 221;exact Calls.quiet_of_same (eB _ _ _)))
     have HR3:=Rg.aS HR2 nq
     clear HR2 hc hf
     generalize wr.drewN nq=wq at *
     cases hl:Sort.ltInt (G a) (G i2) with
     | false=>
      go_wp2_with fail
      go_roundw
      case rel=>exact ⟨i2+1,by go_num,by omega,by omega,HR3,hide ((scanUp_go _ d1 j i2 hlt (by rw [<-aa HG,<-aa HG,hl];rfl)).symm.trans (aa HU))⟩
      case measure=>simp [intOf];omega
     | true=>
      have lv:Hid (i2=Sort.scanUp (fun x=>!Sort.ltInt d1[a]! x) d1 j i):=(scanUp_end _ d1 j i2 (.inr (by rw [<-aa HG,<-aa HG,hl];rfl))).symm.trans (aa HU)
      clear HU hl HG
      go_wp2_with fail
      go_loopw [10] (fun v wr=>∃ (j2:Nat),v=.int .i64 (j2:Int)/\j2<=j/\i2<=j2+1/\Hid (Rg w0 wr g off d1)/\Hid (Sort.scanDown (fun x=>Sort.ltInt d1[a]! x) d1 i2 j2=Sort.scanDown (fun x=>Sort.ltInt d1[a]! x) d1 i2 j)) (fun v _=>(intOf v).toNat)
      case atStart=>exact ⟨j,rfl,Nat.le_refl _,hj2,HR3,hide rfl⟩
      case round=>
       obtain ⟨j2,rfl,hjj,hij2,dY,HD⟩:=hrel
       clear HR3
       by_cases iA:i2<=j2
       ·have hI:(i2:Int)<=(j2:Int):=by omega
        obtain ⟨G,HG,hc,hf⟩:=(aa dY).pJ (aa eO)
        go_wp2_with fail
        go_quiet ((go_at_call 221;exact Calls.quiet_of_same (eB _ _ _)))
        have HR4:=Rg.aS dY nq
        clear dY hc hf
        generalize wr.drewN nq=wq at *
        cases hl:Sort.ltInt (G a) (G j2) with
        | true=>
         go_wp2_with fail
         go_roundw
         case rel=>exact ⟨j2 - 1,by go_num,by omega,by omega,HR4,hide ((scanDown_go _ d1 i2 j2 iA (by omega) (by rw [<-aa HG,<-aa HG,hl])).symm.trans (aa HD))⟩
         case measure=>simp [intOf];omega
        | false=>
         have HD2:Hid (j2=Sort.scanDown (fun x=>Sort.ltInt d1[a]! x) d1 i2 j):=(scanDown_end _ d1 i2 j2 (.inr (by rw [<-aa HG,<-aa HG,hl]))).symm.trans (aa HD)
         clear HD hl HG
         have hK:¬ ((j2:Int)<(i2:Int)):=by omega
         have hlt2:=scans_lt Sort.ltInt a i j d1 (by omega) (aa lv) (aa HD2) iA
         obtain ⟨G,HG,hc,hf⟩:=(aa HR4).pJ (aa eO)
         have IJ:=hide (partEq_go Sort.ltInt a i j d1 (aa lv) (aa HD2) (by omega))
         go_wp2_with fail
         go_region
         go_wp2_with fail
         go_roundw
         case rel=>exact ⟨i2+1,j2 - 1,_,by go_num,by go_num,by omega,by omega,by omega,f_ eO,Rg.aS (Rg.eH HR4 eO HG (i:=i2) (j:=j2) (by omega) (by omega)) 1,hide ((aa HO).trans (aa IJ))⟩
         case measure=>simp [intOf];omega
       ·have hI:¬ (i2:Int)<=(j2:Int):=by omega
        have HD2:Hid (j2=Sort.scanDown (fun x=>Sort.ltInt d1[a]! x) d1 i2 j):=(scanDown_end _ d1 i2 j2 (.inl iA)).symm.trans (aa HD)
        go_wp2_with fail
        go_quiet (fail)
        have HR4:=Rg.aS dY nq
        clear dY HD
        generalize wr.drewN nq=wq at *
        have hK:(j2:Int)<(i2:Int):=by omega
        have HE:=hide ((aa HO).trans (partEq_break Sort.ltInt a i j d1 (aa lv) (aa HD2) (by omega)))
        go_wp2_with fail
        go_ret
        rw [aa HE]
        exact ⟨rfl,HR4⟩
    ·have hI:¬ (i2:Int)<=(j:Int):=by omega
     have lv:Hid (i2=Sort.scanUp (fun x=>!Sort.ltInt d1[a]! x) d1 j i):=(scanUp_end _ d1 j i2 (.inl hlt)).symm.trans (aa HU)
     go_wp2_with fail
     go_quiet (fail)
     have HR3:=Rg.aS HR2 nq
     clear HR2 HU
     generalize wr.drewN nq=wq at *
     go_wp2_with fail
     go_loopw [10] (fun v wr=>∃ (j2:Nat),v=.int .i64 (j2:Int)/\j2<=j/\i2<=j2+1/\Hid (Rg w0 wr g off d1)/\Hid (Sort.scanDown (fun x=>Sort.ltInt d1[a]! x) d1 i2 j2=Sort.scanDown (fun x=>Sort.ltInt d1[a]! x) d1 i2 j)) (fun v _=>(intOf v).toNat)
     case atStart=>exact ⟨j,rfl,Nat.le_refl _,hj2,HR3,hide rfl⟩
     case round=>
      obtain ⟨j2,rfl,hjj,hij2,dY,HD⟩:=hrel
      clear HR3
      by_cases iA:i2<=j2
      ·omega
      ·have hI:¬ (i2:Int)<=(j2:Int):=by omega
       have HD2:Hid (j2=Sort.scanDown (fun x=>Sort.ltInt d1[a]! x) d1 i2 j):=(scanDown_end _ d1 i2 j2 (.inl iA)).symm.trans (aa HD)
       go_wp2_with fail
       go_quiet (fail)
       have HR4:=Rg.aS dY nq
       clear dY HD
       generalize wr.drewN nq=wq at *
       have hK:(j2:Int)<(i2:Int):=by omega
       have HE:=hide ((aa HO).trans (partEq_break Sort.ltInt a i j d1 (aa lv) (aa HD2) (by omega)))
       go_wp2_with fail
       go_ret
       rw [aa HE]
       exact ⟨rfl,HR4⟩
 ·go_enter Tryz.func297,Tryz.ntmps297
  go_wp2_with fail
  go_region
  generalize hw1:((w.setCell _ _).setCell _ _).drew=w1
  have HR1:Hid (Rg w0 w1 g off d0):=by rw [<-hw1];exact Gq
  clear Gq hw1 h hc hf HG0 HS
  go_wp2_with fail
  go_loopw [9,10] (fun v u wr=>∃ (i j:Nat) (d1:Array Int),v=.int .i64 (i:Int)/\u=.int .i64 (j:Int)/\a<i/\i<=j+1/\j<b/\Hid (d1.size=n)/\Hid (Rg w0 wr g off d1)/\Hid (T=Sort.partEqLoop Sort.ltInt a i j d1)) (fun v _ _=>b+1 - (intOf v).toNat)
  case atStart=>exact ⟨a+1,b - 1,d0,by go_num,by go_num,by omega,by omega,by omega,dI,HR1,HT⟩
  case round=>
   obtain ⟨i,j,d1,rfl,rfl,hai,hij,hjb,eO,HR,HO⟩:=hrel
   clear HR1 HT dI
   go_wp2_with fail
   go_loopw [9] (fun v wr=>∃ (i2:Nat),v=.int .i64 (i2:Int)/\i<=i2/\i2<=j+1/\Hid (Rg w0 wr g off d1)/\Hid (Sort.scanUp (fun x=>!Sort.ltInt d1[a]! x) d1 j i2=Sort.scanUp (fun x=>!Sort.ltInt d1[a]! x) d1 j i)) (fun v _=>j+1 - (intOf v).toNat)
   case atStart=>exact ⟨i,rfl,Nat.le_refl _,hij,HR,hide rfl⟩
   case round=>
    obtain ⟨i2,rfl,hi2,hj2,HR2,HU⟩:=hrel
    clear HR
    by_cases hlt:i2<=j
    ·have hI:(i2:Int)<=(j:Int):=by omega
     obtain ⟨G,HG,hc,hf⟩:=(aa HR2).pJ (aa eO)
     go_wp2_with fail
     go_quiet ((go_at_call 221;exact Calls.quiet_of_same (eB _ _ _)))
     have HR3:=Rg.aS HR2 nq
     clear HR2 hc hf
     generalize wr.drewN nq=wq at *
     cases hl:Sort.ltInt (G a) (G i2) with
     | false=>
      go_wp2_with fail
      go_roundw
      case rel=>exact ⟨i2+1,by go_num,by omega,by omega,HR3,hide ((scanUp_go _ d1 j i2 hlt (by rw [<-aa HG,<-aa HG,hl];rfl)).symm.trans (aa HU))⟩
      case measure=>simp [intOf];omega
     | true=>
      have lv:Hid (i2=Sort.scanUp (fun x=>!Sort.ltInt d1[a]! x) d1 j i):=(scanUp_end _ d1 j i2 (.inr (by rw [<-aa HG,<-aa HG,hl];rfl))).symm.trans (aa HU)
      clear HU hl HG
      go_wp2_with fail
      go_loopw [10] (fun v wr=>∃ (j2:Nat),v=.int .i64 (j2:Int)/\j2<=j/\i2<=j2+1/\Hid (Rg w0 wr g off d1)/\Hid (Sort.scanDown (fun x=>Sort.ltInt d1[a]! x) d1 i2 j2=Sort.scanDown (fun x=>Sort.ltInt d1[a]! x) d1 i2 j)) (fun v _=>(intOf v).toNat)
      case atStart=>exact ⟨j,rfl,Nat.le_refl _,hj2,HR3,hide rfl⟩
      case round=>
       obtain ⟨j2,rfl,hjj,hij2,dY,HD⟩:=hrel
       clear HR3
       by_cases iA:i2<=j2
       ·have hI:(i2:Int)<=(j2:Int):=by omega
        obtain ⟨G,HG,hc,hf⟩:=(aa dY).pJ (aa eO)
        go_wp2_with fail
        go_quiet ((go_at_call 221;exact Calls.quiet_of_same (eB _ _ _)))
        have HR4:=Rg.aS dY nq
        clear dY hc hf
        generalize wr.drewN nq=wq at *
        cases hl:Sort.ltInt (G a) (G j2) with
        | true=>
         go_wp2_with fail
         go_roundw
         case rel=>exact ⟨j2 - 1,by go_num,by omega,by omega,HR4,hide ((scanDown_go _ d1 i2 j2 iA (by omega) (by rw [<-aa HG,<-aa HG,hl])).symm.trans (aa HD))⟩
         case measure=>simp [intOf];omega
        | false=>
         have HD2:Hid (j2=Sort.scanDown (fun x=>Sort.ltInt d1[a]! x) d1 i2 j):=(scanDown_end _ d1 i2 j2 (.inr (by rw [<-aa HG,<-aa HG,hl]))).symm.trans (aa HD)
         clear HD hl HG
         have hK:¬ ((j2:Int)<(i2:Int)):=by omega
         have hlt2:=scans_lt Sort.ltInt a i j d1 (by omega) (aa lv) (aa HD2) iA
         obtain ⟨G,HG,hc,hf⟩:=(aa HR4).pJ (aa eO)
         have IJ:=hide (partEq_go Sort.ltInt a i j d1 (aa lv) (aa HD2) (by omega))
         go_wp2_with fail
         go_region
         go_wp2_with fail
         go_roundw
         case rel=>exact ⟨i2+1,j2 - 1,_,by go_num,by go_num,by omega,by omega,by omega,f_ eO,Rg.aS (Rg.eH HR4 eO HG (i:=i2) (j:=j2) (by omega) (by omega)) 1,hide ((aa HO).trans (aa IJ))⟩
         case measure=>simp [intOf];omega
       ·have hI:¬ (i2:Int)<=(j2:Int):=by omega
        have HD2:Hid (j2=Sort.scanDown (fun x=>Sort.ltInt d1[a]! x) d1 i2 j):=(scanDown_end _ d1 i2 j2 (.inl iA)).symm.trans (aa HD)
        go_wp2_with fail
        go_quiet (fail)
        have HR4:=Rg.aS dY nq
        clear dY HD
        generalize wr.drewN nq=wq at *
        have hK:(j2:Int)<(i2:Int):=by omega
        have HE:=hide ((aa HO).trans (partEq_break Sort.ltInt a i j d1 (aa lv) (aa HD2) (by omega)))
        go_wp2_with fail
        go_ret
        rw [aa HE]
        exact ⟨rfl,HR4⟩
    ·have hI:¬ (i2:Int)<=(j:Int):=by omega
     have lv:Hid (i2=Sort.scanUp (fun x=>!Sort.ltInt d1[a]! x) d1 j i):=(scanUp_end _ d1 j i2 (.inl hlt)).symm.trans (aa HU)
     go_wp2_with fail
     go_quiet (fail)
     have HR3:=Rg.aS HR2 nq
     clear HR2 HU
     generalize wr.drewN nq=wq at *
     go_wp2_with fail
     go_loopw [10] (fun v wr=>∃ (j2:Nat),v=.int .i64 (j2:Int)/\j2<=j/\i2<=j2+1/\Hid (Rg w0 wr g off d1)/\Hid (Sort.scanDown (fun x=>Sort.ltInt d1[a]! x) d1 i2 j2=Sort.scanDown (fun x=>Sort.ltInt d1[a]! x) d1 i2 j)) (fun v _=>(intOf v).toNat)
     case atStart=>exact ⟨j,rfl,Nat.le_refl _,hj2,HR3,hide rfl⟩
     case round=>
      obtain ⟨j2,rfl,hjj,hij2,dY,HD⟩:=hrel
      clear HR3
      by_cases iA:i2<=j2
      ·omega
      ·have hI:¬ (i2:Int)<=(j2:Int):=by omega
       have HD2:Hid (j2=Sort.scanDown (fun x=>Sort.ltInt d1[a]! x) d1 i2 j):=(scanDown_end _ d1 i2 j2 (.inl iA)).symm.trans (aa HD)
       go_wp2_with fail
       go_quiet (fail)
       have HR4:=Rg.aS dY nq
       clear dY HD
       generalize wr.drewN nq=wq at *
       have hK:(j2:Int)<(i2:Int):=by omega
       have HE:=hide ((aa HO).trans (partEq_break Sort.ltInt a i j d1 (aa lv) (aa HD2) (by omega)))
       go_wp2_with fail
       go_ret
       rw [aa HE]
       exact ⟨rfl,HR4⟩
set_option maxRecDepth 100000 in
set_option maxHeartbeats 8000000 in
theorem abo (w0 w:World) (g off n cap a b p:Nat) (d:Array Int) (hn:d.size=n) (hN:n<=1000000000) (hap:a<=p) (hpb:p<b) (hb:b<=n) (h:Hid (Rg w0 w g off d)) :
  Calls Tryz.prog 298 #[.slice (some ⟨g,off,none⟩) n cap,.int .i64 a,.int .i64 b,.int .i64 p] w fun e w'=>
   e=.returned (.tuple #[.int .i64 ((Sort.partition Sort.ltInt d a b p).1:Int),.bool (Sort.partition Sort.ltInt d a b p).2.1])/\Hid (Rg w0 w' g off (Sort.partition Sort.ltInt d a b p).2.2):=by
 have HS:Hid (d.size=n):=hn
 clear hn
 obtain ⟨j0,hj0⟩:∃ j0:Nat,j0=b - 1:=⟨_,rfl⟩
 have hJ:(b:Int) - 1=(j0:Int):=by omega
 have aeZ:j0<b:=by omega
 have ae0:a<=j0:=by omega
 have HJ:=hide hj0
 have han:a<n:=by omega
 clear hj0
 have HB:Hid (∀ i2 j2,i2=Sort.scanUp (fun x=>Sort.ltInt x (Sort.swp d a p)[a]!) (Sort.swp d a p) j0 (a+1)->j2=Sort.scanDown (fun x=>!Sort.ltInt x (Sort.swp d a p)[a]!) (Sort.swp d a p) i2 j0->j2<i2->Sort.partition Sort.ltInt d a b p=(j2,true,Sort.swp (Sort.swp d a p) j2 a)):=
  fun i2 j2 h1 h2 h3=>part_first_break Sort.ltInt d a b p rfl (aa HJ) rfl h1 h2 h3
 have HC:Hid (∀ i2 j2,i2=Sort.scanUp (fun x=>Sort.ltInt x (Sort.swp d a p)[a]!) (Sort.swp d a p) j0 (a+1)->j2=Sort.scanDown (fun x=>!Sort.ltInt x (Sort.swp d a p)[a]!) (Sort.swp d a p) i2 j0->¬ i2 > j2->Sort.partition Sort.ltInt d a b p=((Sort.partLoop Sort.ltInt a (i2+1) (j2 - 1) (Sort.swp (Sort.swp d a p) i2 j2)).1,false,Sort.swp (Sort.partLoop Sort.ltInt a (i2+1) (j2 - 1) (Sort.swp (Sort.swp d a p) i2 j2)).2 (Sort.partLoop Sort.ltInt a (i2+1) (j2 - 1) (Sort.swp (Sort.swp d a p) i2 j2)).1 a)):=
  fun i2 j2 h1 h2 h3=>part_first_go Sort.ltInt d a b p rfl (aa HJ) rfl h1 h2 h3
 obtain ⟨T,hT⟩:∃ T,Sort.partition Sort.ltInt d a b p=T:=⟨_,rfl⟩
 rw [hT] at HB HC ⊢
 clear hT HJ
 obtain ⟨G0,HG0,hc,hf⟩:=(aa h).pJ (aa HS)
 have Gq:=Rg.aS (Rg.eH h HS HG0 (i:=a) (j:=p) (by omega) (by omega)) 1
 have dI:=f_ (i:=a) (j:=p) HS
 generalize Sort.swp d a p=d0 at *
 rcases Nat.eq_or_lt_of_le hap with hz | hz
 ·subst hz
  go_enter Tryz.func298,Tryz.ntmps298
  go_wp2_with fail
  go_region
  generalize hw1:((w.setCell _ _).setCell _ _).drew=w1
  have HR1:Hid (Rg w0 w1 g off d0):=by rw [<-hw1];exact Gq
  clear Gq hw1 h hc hf HG0 HS
  go_wp2_with fail
  go_loopw [10] (fun v wr=>∃ (i2:Nat),v=.int .i64 (i2:Int)/\a+1<=i2/\i2<=j0+1/\Hid (Rg w0 wr g off d0)/\Hid (Sort.scanUp (fun x=>Sort.ltInt x d0[a]!) d0 j0 i2=Sort.scanUp (fun x=>Sort.ltInt x d0[a]!) d0 j0 (a+1))) (fun v _=>j0+1 - (intOf v).toNat)
  case atStart=>exact ⟨a+1,by go_num,Nat.le_refl _,by omega,HR1,hide rfl⟩
  case round=>
   obtain ⟨i2,rfl,hi2,hj2,HR2,HU⟩:=hrel
   clear HR1
   by_cases hlt:i2<=j0
   ·have hI:(i2:Int)<=(j0:Int):=by omega
    obtain ⟨G,HG,hc,hf⟩:=(aa HR2).pJ (aa dI)
    go_wp2_with fail
    go_quiet ((go_at_call 221;exact Calls.quiet_of_same (eB _ _ _)))
    have HR3:=Rg.aS HR2 nq
    clear HR2 hc hf
    generalize wr.drewN nq=wq at *
    cases hl:Sort.ltInt (G i2) (G a) with
    | true=>
     go_wp2_with fail
     go_roundw
     case rel=>exact ⟨i2+1,by go_num,by omega,by omega,HR3,hide ((scanUp_go _ d0 j0 i2 hlt (by rw [<-aa HG,<-aa HG,hl])).symm.trans (aa HU))⟩
     case measure=>simp [intOf];omega
    | false=>
     have lv:Hid (i2=Sort.scanUp (fun x=>Sort.ltInt x d0[a]!) d0 j0 (a+1)):=(scanUp_end _ d0 j0 i2 (.inr (by rw [<-aa HG,<-aa HG,hl]))).symm.trans (aa HU)
     clear HU hl HG
     go_wp2_with fail
     go_loopw [11] (fun v wr=>∃ (j2:Nat),v=.int .i64 (j2:Int)/\j2<=j0/\i2<=j2+1/\Hid (Rg w0 wr g off d0)/\Hid (Sort.scanDown (fun x=>!Sort.ltInt x d0[a]!) d0 i2 j2=Sort.scanDown (fun x=>!Sort.ltInt x d0[a]!) d0 i2 j0)) (fun v _=>(intOf v).toNat)
     case atStart=>exact ⟨j0,rfl,Nat.le_refl _,hj2,HR3,hide rfl⟩
     case round=>
      obtain ⟨j2,rfl,hjj,hij2,dY,HD⟩:=hrel
      clear HR3
      by_cases iA:i2<=j2
      ·have hI:(i2:Int)<=(j2:Int):=by omega
       obtain ⟨G,HG,hc,hf⟩:=(aa dY).pJ (aa dI)
       go_wp2_with fail
       go_quiet ((go_at_call 221;exact Calls.quiet_of_same (eB _ _ _)))
       have HR4:=Rg.aS dY nq
       clear dY hc hf
       generalize wr.drewN nq=wq at *
       cases hl:Sort.ltInt (G j2) (G a) with
       | false=>
        go_wp2_with fail
        go_roundw
        case rel=>exact ⟨j2 - 1,by go_num,by omega,by omega,HR4,hide ((scanDown_go _ d0 i2 j2 iA (by omega) (by rw [<-aa HG,<-aa HG,hl];rfl)).symm.trans (aa HD))⟩
        case measure=>simp [intOf];omega
       | true=>
        have HD2:Hid (j2=Sort.scanDown (fun x=>!Sort.ltInt x d0[a]!) d0 i2 j0):=(scanDown_end _ d0 i2 j2 (.inr (by rw [<-aa HG,<-aa HG,hl];rfl))).symm.trans (aa HD)
        clear HD hl HG
        have hK:¬ ((j2:Int)<(i2:Int)):=by omega
        have hlt2:=part_scans_lt Sort.ltInt a (a+1) j0 d0 (by omega) (aa lv) (aa HD2) iA
        obtain ⟨G,HG,hc,hf⟩:=(aa HR4).pJ (aa dI)
        have HE:Hid (T=_):=aa HC i2 j2 (aa lv) (aa HD2) (by omega)
        go_wp2_with fail
        go_region
        have oO:=Rg.aS (Rg.eH HR4 dI HG (i:=i2) (j:=j2) (by omega) (by omega)) 1
        have xE:=f_ (i:=i2) (j:=j2) dI
        go_wp2_with fail
        go_loopw [10,11] (fun v u wr=>∃ (i j:Nat) (d1:Array Int),v=.int .i64 (i:Int)/\u=.int .i64 (j:Int)/\a<i/\i<=j+1/\j<b/\Hid (d1.size=n)/\Hid (Rg w0 wr g off d1)/\Hid (T=((Sort.partLoop Sort.ltInt a i j d1).1,false,Sort.swp (Sort.partLoop Sort.ltInt a i j d1).2 (Sort.partLoop Sort.ltInt a i j d1).1 a))) (fun v _ _=>b+1 - (intOf v).toNat)
        case atStart=>exact ⟨i2+1,j2 - 1,_,by go_num,by go_num,by omega,by omega,by omega,xE,oO,HE⟩
        case round=>
         obtain ⟨i,j,d1,rfl,rfl,hai,hij,hjb,eO,HR,HO⟩:=hrel
         clear oO xE HE HR4 hc hf HG lv HD2 HB HC dI
         clear hK hlt2 iA
         go_wp2_with fail
         go_loopw [10] (fun v wr=>∃ (i2:Nat),v=.int .i64 (i2:Int)/\i<=i2/\i2<=j+1/\Hid (Rg w0 wr g off d1)/\Hid (Sort.scanUp (fun x=>Sort.ltInt x d1[a]!) d1 j i2=Sort.scanUp (fun x=>Sort.ltInt x d1[a]!) d1 j (i))) (fun v _=>j+1 - (intOf v).toNat)
         case atStart=>exact ⟨i,by go_num,Nat.le_refl _,by omega,HR,hide rfl⟩
         case round=>
          obtain ⟨i2,rfl,hi2,hj2,HR2,HU⟩:=hrel
          clear HR
          by_cases hlt:i2<=j
          ·have hI:(i2:Int)<=(j:Int):=by omega
           obtain ⟨G,HG,hc,hf⟩:=(aa HR2).pJ (aa eO)
           go_wp2_with fail
           go_quiet ((go_at_call 221;exact Calls.quiet_of_same (eB _ _ _)))
           have HR3:=Rg.aS HR2 nq
           clear HR2 hc hf
           generalize wr.drewN nq=wq at *
           cases hl:Sort.ltInt (G i2) (G a) with
           | true=>
            go_wp2_with fail
            go_roundw
            case rel=>exact ⟨i2+1,by go_num,by omega,by omega,HR3,hide ((scanUp_go _ d1 j i2 hlt (by rw [<-aa HG,<-aa HG,hl])).symm.trans (aa HU))⟩
            case measure=>simp [intOf];omega
           | false=>
            have lv:Hid (i2=Sort.scanUp (fun x=>Sort.ltInt x d1[a]!) d1 j (i)):=(scanUp_end _ d1 j i2 (.inr (by rw [<-aa HG,<-aa HG,hl]))).symm.trans (aa HU)
            clear HU hl HG
            go_wp2_with fail
            go_loopw [11] (fun v wr=>∃ (j2:Nat),v=.int .i64 (j2:Int)/\j2<=j/\i2<=j2+1/\Hid (Rg w0 wr g off d1)/\Hid (Sort.scanDown (fun x=>!Sort.ltInt x d1[a]!) d1 i2 j2=Sort.scanDown (fun x=>!Sort.ltInt x d1[a]!) d1 i2 j)) (fun v _=>(intOf v).toNat)
            case atStart=>exact ⟨j,rfl,Nat.le_refl _,hj2,HR3,hide rfl⟩
            case round=>
             obtain ⟨j2,rfl,hjj,hij2,dY,HD⟩:=hrel
             clear HR3
             by_cases iA:i2<=j2
             ·have hI:(i2:Int)<=(j2:Int):=by omega
              obtain ⟨G,HG,hc,hf⟩:=(aa dY).pJ (aa eO)
              go_wp2_with fail
              go_quiet ((go_at_call 221;exact Calls.quiet_of_same (eB _ _ _)))
              have HR4:=Rg.aS dY nq
              clear dY hc hf
              generalize wr.drewN nq=wq at *
              cases hl:Sort.ltInt (G j2) (G a) with
              | false=>
               go_wp2_with fail
               go_roundw
               case rel=>exact ⟨j2 - 1,by go_num,by omega,by omega,HR4,hide ((scanDown_go _ d1 i2 j2 iA (by omega) (by rw [<-aa HG,<-aa HG,hl];rfl)).symm.trans (aa HD))⟩
               case measure=>simp [intOf];omega
              | true=>
               have HD2:Hid (j2=Sort.scanDown (fun x=>!Sort.ltInt x d1[a]!) d1 i2 j):=(scanDown_end _ d1 i2 j2 (.inr (by rw [<-aa HG,<-aa HG,hl];rfl))).symm.trans (aa HD)
               clear HD hl HG
               have hK:¬ ((j2:Int)<(i2:Int)):=by omega
               have hlt2:=part_scans_lt Sort.ltInt a i j d1 (by omega) (aa lv) (aa HD2) iA
               obtain ⟨G,HG,hc,hf⟩:=(aa HR4).pJ (aa eO)
               have IJ:=hide (part_go Sort.ltInt a i j d1 (aa lv) (aa HD2) (by omega))
               go_wp2_with fail
               go_region
               go_wp2_with fail
               go_roundw
               case rel=>exact ⟨i2+1,j2 - 1,_,by go_num,by go_num,by omega,by omega,by omega,f_ eO,Rg.aS (Rg.eH HR4 eO HG (i:=i2) (j:=j2) (by omega) (by omega)) 1,by rw [aa HO,aa IJ];exact hide rfl⟩
               case measure=>simp [intOf];omega
             ·have hI:¬ (i2:Int)<=(j2:Int):=by omega
              have HD2:Hid (j2=Sort.scanDown (fun x=>!Sort.ltInt x d1[a]!) d1 i2 j):=(scanDown_end _ d1 i2 j2 (.inl iA)).symm.trans (aa HD)
              go_wp2_with fail
              go_quiet (fail)
              have HR4:=Rg.aS dY nq
              clear dY HD
              generalize wr.drewN nq=wq at *
              have hK:(j2:Int)<(i2:Int):=by omega
              have HE:Hid (T=(j2,false,Sort.swp d1 j2 a)):=by rw [aa HO,part_break Sort.ltInt a i j d1 (aa lv) (aa HD2) (by omega)];exact hide rfl
              obtain ⟨G,HG,hc,hf⟩:=(aa HR4).pJ (aa eO)
              have oO:=Rg.aS (Rg.eH HR4 eO HG (i:=j2) (j:=a) (by omega) (by omega)) 1
              by_cases hja:j2=a
              ·subst hja
               first
               | omega
               |
                go_wp2_with fail
                go_region
                go_wp2_with fail
                go_ret2
                rw [aa HE]
                exact ⟨rfl,oO⟩
              ·have MX:a<j2:=by omega
               go_wp2_with fail
               go_region
               go_wp2_with fail
               go_ret2
               rw [aa HE]
               exact ⟨rfl,oO⟩
          ·have hI:¬ (i2:Int)<=(j:Int):=by omega
           have lv:Hid (i2=Sort.scanUp (fun x=>Sort.ltInt x d1[a]!) d1 j (i)):=(scanUp_end _ d1 j i2 (.inl hlt)).symm.trans (aa HU)
           go_wp2_with fail
           go_quiet (fail)
           have HR3:=Rg.aS HR2 nq
           clear HR2 HU
           generalize wr.drewN nq=wq at *
           go_wp2_with fail
           go_loopw [11] (fun v wr=>∃ (j2:Nat),v=.int .i64 (j2:Int)/\j2<=j/\i2<=j2+1/\Hid (Rg w0 wr g off d1)/\Hid (Sort.scanDown (fun x=>!Sort.ltInt x d1[a]!) d1 i2 j2=Sort.scanDown (fun x=>!Sort.ltInt x d1[a]!) d1 i2 j)) (fun v _=>(intOf v).toNat)
           case atStart=>exact ⟨j,rfl,Nat.le_refl _,hj2,HR3,hide rfl⟩
           case round=>
            obtain ⟨j2,rfl,hjj,hij2,dY,HD⟩:=hrel
            clear HR3
            by_cases iA:i2<=j2
            ·omega
            ·have hI:¬ (i2:Int)<=(j2:Int):=by omega
             have HD2:Hid (j2=Sort.scanDown (fun x=>!Sort.ltInt x d1[a]!) d1 i2 j):=(scanDown_end _ d1 i2 j2 (.inl iA)).symm.trans (aa HD)
             go_wp2_with fail
             go_quiet (fail)
             have HR4:=Rg.aS dY nq
             clear dY HD
             generalize wr.drewN nq=wq at *
             have hK:(j2:Int)<(i2:Int):=by omega
             have HE:Hid (T=(j2,false,Sort.swp d1 j2 a)):=by rw [aa HO,part_break Sort.ltInt a i j d1 (aa lv) (aa HD2) (by omega)];exact hide rfl
             obtain ⟨G,HG,hc,hf⟩:=(aa HR4).pJ (aa eO)
             have oO:=Rg.aS (Rg.eH HR4 eO HG (i:=j2) (j:=a) (by omega) (by omega)) 1
             by_cases hja:j2=a
             ·subst hja
              first
              | omega
              |
               go_wp2_with fail
               go_region
               go_wp2_with fail
               go_ret2
               rw [aa HE]
               exact ⟨rfl,oO⟩
             ·have MX:a<j2:=by omega
              go_wp2_with fail
              go_region
              go_wp2_with fail
              go_ret2
              rw [aa HE]
              exact ⟨rfl,oO⟩
      ·have hI:¬ (i2:Int)<=(j2:Int):=by omega
       have HD2:Hid (j2=Sort.scanDown (fun x=>!Sort.ltInt x d0[a]!) d0 i2 j0):=(scanDown_end _ d0 i2 j2 (.inl iA)).symm.trans (aa HD)
       go_wp2_with fail
       go_quiet (fail)
       have HR4:=Rg.aS dY nq
       clear dY HD
       generalize wr.drewN nq=wq at *
       have hK:(j2:Int)<(i2:Int):=by omega
       have HE:Hid (T=(j2,true,Sort.swp d0 j2 a)):=aa HB i2 j2 (aa lv) (aa HD2) (by omega)
       obtain ⟨G,HG,hc,hf⟩:=(aa HR4).pJ (aa dI)
       have oO:=Rg.aS (Rg.eH HR4 dI HG (i:=j2) (j:=a) (by omega) (by omega)) 1
       by_cases hja:j2=a
       ·subst hja
        first
        | omega
        |
         go_wp2_with fail
         go_region
         go_wp2_with fail
         go_ret2
         rw [aa HE]
         exact ⟨rfl,oO⟩
       ·have MX:a<j2:=by omega
        go_wp2_with fail
        go_region
        go_wp2_with fail
        go_ret2
        rw [aa HE]
        exact ⟨rfl,oO⟩
   ·have hI:¬ (i2:Int)<=(j0:Int):=by omega
    have lv:Hid (i2=Sort.scanUp (fun x=>Sort.ltInt x d0[a]!) d0 j0 (a+1)):=(scanUp_end _ d0 j0 i2 (.inl hlt)).symm.trans (aa HU)
    go_wp2_with fail
    go_quiet (fail)
    have HR3:=Rg.aS HR2 nq
    clear HR2 HU
    generalize wr.drewN nq=wq at *
    go_wp2_with fail
    go_loopw [11] (fun v wr=>∃ (j2:Nat),v=.int .i64 (j2:Int)/\j2<=j0/\i2<=j2+1/\Hid (Rg w0 wr g off d0)/\Hid (Sort.scanDown (fun x=>!Sort.ltInt x d0[a]!) d0 i2 j2=Sort.scanDown (fun x=>!Sort.ltInt x d0[a]!) d0 i2 j0)) (fun v _=>(intOf v).toNat)
    case atStart=>exact ⟨j0,rfl,Nat.le_refl _,hj2,HR3,hide rfl⟩
    case round=>
     obtain ⟨j2,rfl,hjj,hij2,dY,HD⟩:=hrel
     clear HR3
     by_cases iA:i2<=j2
     ·omega
     ·have hI:¬ (i2:Int)<=(j2:Int):=by omega
      have HD2:Hid (j2=Sort.scanDown (fun x=>!Sort.ltInt x d0[a]!) d0 i2 j0):=(scanDown_end _ d0 i2 j2 (.inl iA)).symm.trans (aa HD)
      go_wp2_with fail
      go_quiet (fail)
      have HR4:=Rg.aS dY nq
      clear dY HD
      generalize wr.drewN nq=wq at *
      have hK:(j2:Int)<(i2:Int):=by omega
      have HE:Hid (T=(j2,true,Sort.swp d0 j2 a)):=aa HB i2 j2 (aa lv) (aa HD2) (by omega)
      obtain ⟨G,HG,hc,hf⟩:=(aa HR4).pJ (aa dI)
      have oO:=Rg.aS (Rg.eH HR4 dI HG (i:=j2) (j:=a) (by omega) (by omega)) 1
      by_cases hja:j2=a
      ·subst hja
       first
       | omega
       |
        go_wp2_with fail
        go_region
        go_wp2_with fail
        go_ret2
        rw [aa HE]
        exact ⟨rfl,oO⟩
      ·have MX:a<j2:=by omega
       go_wp2_with fail
       go_region
       go_wp2_with fail
       go_ret2
       rw [aa HE]
       exact ⟨rfl,oO⟩
 ·go_enter Tryz.func298,Tryz.ntmps298
  go_wp2_with fail
  go_region
  generalize hw1:((w.setCell _ _).setCell _ _).drew=w1
  have HR1:Hid (Rg w0 w1 g off d0):=by rw [<-hw1];exact Gq
  clear Gq hw1 h hc hf HG0 HS
  go_wp2_with fail
  go_loopw [10] (fun v wr=>∃ (i2:Nat),v=.int .i64 (i2:Int)/\a+1<=i2/\i2<=j0+1/\Hid (Rg w0 wr g off d0)/\Hid (Sort.scanUp (fun x=>Sort.ltInt x d0[a]!) d0 j0 i2=Sort.scanUp (fun x=>Sort.ltInt x d0[a]!) d0 j0 (a+1))) (fun v _=>j0+1 - (intOf v).toNat)
  case atStart=>exact ⟨a+1,by go_num,Nat.le_refl _,by omega,HR1,hide rfl⟩
  case round=>
   obtain ⟨i2,rfl,hi2,hj2,HR2,HU⟩:=hrel
   clear HR1
   by_cases hlt:i2<=j0
   ·have hI:(i2:Int)<=(j0:Int):=by omega
    obtain ⟨G,HG,hc,hf⟩:=(aa HR2).pJ (aa dI)
    go_wp2_with fail
    go_quiet ((go_at_call 221;exact Calls.quiet_of_same (eB _ _ _)))
    have HR3:=Rg.aS HR2 nq
    clear HR2 hc hf
    generalize wr.drewN nq=wq at *
    cases hl:Sort.ltInt (G i2) (G a) with
    | true=>
     go_wp2_with fail
     go_roundw
     case rel=>exact ⟨i2+1,by go_num,by omega,by omega,HR3,hide ((scanUp_go _ d0 j0 i2 hlt (by rw [<-aa HG,<-aa HG,hl])).symm.trans (aa HU))⟩
     case measure=>simp [intOf];omega
    | false=>
     have lv:Hid (i2=Sort.scanUp (fun x=>Sort.ltInt x d0[a]!) d0 j0 (a+1)):=(scanUp_end _ d0 j0 i2 (.inr (by rw [<-aa HG,<-aa HG,hl]))).symm.trans (aa HU)
     clear HU hl HG
     go_wp2_with fail
     go_loopw [11] (fun v wr=>∃ (j2:Nat),v=.int .i64 (j2:Int)/\j2<=j0/\i2<=j2+1/\Hid (Rg w0 wr g off d0)/\Hid (Sort.scanDown (fun x=>!Sort.ltInt x d0[a]!) d0 i2 j2=Sort.scanDown (fun x=>!Sort.ltInt x d0[a]!) d0 i2 j0)) (fun v _=>(intOf v).toNat)
     case atStart=>exact ⟨j0,rfl,Nat.le_refl _,hj2,HR3,hide rfl⟩
     case round=>
      obtain ⟨j2,rfl,hjj,hij2,dY,HD⟩:=hrel
      clear HR3
      by_cases iA:i2<=j2
      ·have hI:(i2:Int)<=(j2:Int):=by omega
       obtain ⟨G,HG,hc,hf⟩:=(aa dY).pJ (aa dI)
       go_wp2_with fail
       go_quiet ((go_at_call 221;exact Calls.quiet_of_same (eB _ _ _)))
       have HR4:=Rg.aS dY nq
       clear dY hc hf
       generalize wr.drewN nq=wq at *
       cases hl:Sort.ltInt (G j2) (G a) with
       | false=>
        go_wp2_with fail
        go_roundw
        case rel=>exact ⟨j2 - 1,by go_num,by omega,by omega,HR4,hide ((scanDown_go _ d0 i2 j2 iA (by omega) (by rw [<-aa HG,<-aa HG,hl];rfl)).symm.trans (aa HD))⟩
        case measure=>simp [intOf];omega
       | true=>
        have HD2:Hid (j2=Sort.scanDown (fun x=>!Sort.ltInt x d0[a]!) d0 i2 j0):=(scanDown_end _ d0 i2 j2 (.inr (by rw [<-aa HG,<-aa HG,hl];rfl))).symm.trans (aa HD)
        clear HD hl HG
        have hK:¬ ((j2:Int)<(i2:Int)):=by omega
        have hlt2:=part_scans_lt Sort.ltInt a (a+1) j0 d0 (by omega) (aa lv) (aa HD2) iA
        obtain ⟨G,HG,hc,hf⟩:=(aa HR4).pJ (aa dI)
        have HE:Hid (T=_):=aa HC i2 j2 (aa lv) (aa HD2) (by omega)
        go_wp2_with fail
        go_region
        have oO:=Rg.aS (Rg.eH HR4 dI HG (i:=i2) (j:=j2) (by omega) (by omega)) 1
        have xE:=f_ (i:=i2) (j:=j2) dI
        go_wp2_with fail
        go_loopw [10,11] (fun v u wr=>∃ (i j:Nat) (d1:Array Int),v=.int .i64 (i:Int)/\u=.int .i64 (j:Int)/\a<i/\i<=j+1/\j<b/\Hid (d1.size=n)/\Hid (Rg w0 wr g off d1)/\Hid (T=((Sort.partLoop Sort.ltInt a i j d1).1,false,Sort.swp (Sort.partLoop Sort.ltInt a i j d1).2 (Sort.partLoop Sort.ltInt a i j d1).1 a))) (fun v _ _=>b+1 - (intOf v).toNat)
        case atStart=>exact ⟨i2+1,j2 - 1,_,by go_num,by go_num,by omega,by omega,by omega,xE,oO,HE⟩
        case round=>
         obtain ⟨i,j,d1,rfl,rfl,hai,hij,hjb,eO,HR,HO⟩:=hrel
         clear oO xE HE HR4 hc hf HG lv HD2 HB HC dI
         clear hK hlt2 iA
         go_wp2_with fail
         go_loopw [10] (fun v wr=>∃ (i2:Nat),v=.int .i64 (i2:Int)/\i<=i2/\i2<=j+1/\Hid (Rg w0 wr g off d1)/\Hid (Sort.scanUp (fun x=>Sort.ltInt x d1[a]!) d1 j i2=Sort.scanUp (fun x=>Sort.ltInt x d1[a]!) d1 j (i))) (fun v _=>j+1 - (intOf v).toNat)
         case atStart=>exact ⟨i,by go_num,Nat.le_refl _,by omega,HR,hide rfl⟩
         case round=>
          obtain ⟨i2,rfl,hi2,hj2,HR2,HU⟩:=hrel
          clear HR
          by_cases hlt:i2<=j
          ·have hI:(i2:Int)<=(j:Int):=by omega
           obtain ⟨G,HG,hc,hf⟩:=(aa HR2).pJ (aa eO)
           go_wp2_with fail
           go_quiet ((go_at_call 221;exact Calls.quiet_of_same (eB _ _ _)))
           have HR3:=Rg.aS HR2 nq
           clear HR2 hc hf
           generalize wr.drewN nq=wq at *
           cases hl:Sort.ltInt (G i2) (G a) with
           | true=>
            go_wp2_with fail
            go_roundw
            case rel=>exact ⟨i2+1,by go_num,by omega,by omega,HR3,hide ((scanUp_go _ d1 j i2 hlt (by rw [<-aa HG,<-aa HG,hl])).symm.trans (aa HU))⟩
            case measure=>simp [intOf];omega
           | false=>
            have lv:Hid (i2=Sort.scanUp (fun x=>Sort.ltInt x d1[a]!) d1 j (i)):=(scanUp_end _ d1 j i2 (.inr (by rw [<-aa HG,<-aa HG,hl]))).symm.trans (aa HU)
            clear HU hl HG
            go_wp2_with fail
            go_loopw [11] (fun v wr=>∃ (j2:Nat),v=.int .i64 (j2:Int)/\j2<=j/\i2<=j2+1/\Hid (Rg w0 wr g off d1)/\Hid (Sort.scanDown (fun x=>!Sort.ltInt x d1[a]!) d1 i2 j2=Sort.scanDown (fun x=>!Sort.ltInt x d1[a]!) d1 i2 j)) (fun v _=>(intOf v).toNat)
            case atStart=>exact ⟨j,rfl,Nat.le_refl _,hj2,HR3,hide rfl⟩
            case round=>
             obtain ⟨j2,rfl,hjj,hij2,dY,HD⟩:=hrel
             clear HR3
             by_cases iA:i2<=j2
             ·have hI:(i2:Int)<=(j2:Int):=by omega
              obtain ⟨G,HG,hc,hf⟩:=(aa dY).pJ (aa eO)
              go_wp2_with fail
              go_quiet ((go_at_call 221;exact Calls.quiet_of_same (eB _ _ _)))
              have HR4:=Rg.aS dY nq
              clear dY hc hf
              generalize wr.drewN nq=wq at *
              cases hl:Sort.ltInt (G j2) (G a) with
              | false=>
               go_wp2_with fail
               go_roundw
               case rel=>exact ⟨j2 - 1,by go_num,by omega,by omega,HR4,hide ((scanDown_go _ d1 i2 j2 iA (by omega) (by rw [<-aa HG,<-aa HG,hl];rfl)).symm.trans (aa HD))⟩
               case measure=>simp [intOf];omega
              | true=>
               have HD2:Hid (j2=Sort.scanDown (fun x=>!Sort.ltInt x d1[a]!) d1 i2 j):=(scanDown_end _ d1 i2 j2 (.inr (by rw [<-aa HG,<-aa HG,hl];rfl))).symm.trans (aa HD)
               clear HD hl HG
               have hK:¬ ((j2:Int)<(i2:Int)):=by omega
               have hlt2:=part_scans_lt Sort.ltInt a i j d1 (by omega) (aa lv) (aa HD2) iA
               obtain ⟨G,HG,hc,hf⟩:=(aa HR4).pJ (aa eO)
               have IJ:=hide (part_go Sort.ltInt a i j d1 (aa lv) (aa HD2) (by omega))
               go_wp2_with fail
               go_region
               go_wp2_with fail
               go_roundw
               case rel=>exact ⟨i2+1,j2 - 1,_,by go_num,by go_num,by omega,by omega,by omega,f_ eO,Rg.aS (Rg.eH HR4 eO HG (i:=i2) (j:=j2) (by omega) (by omega)) 1,by rw [aa HO,aa IJ];exact hide rfl⟩
               case measure=>simp [intOf];omega
             ·have hI:¬ (i2:Int)<=(j2:Int):=by omega
              have HD2:Hid (j2=Sort.scanDown (fun x=>!Sort.ltInt x d1[a]!) d1 i2 j):=(scanDown_end _ d1 i2 j2 (.inl iA)).symm.trans (aa HD)
              go_wp2_with fail
              go_quiet (fail)
              have HR4:=Rg.aS dY nq
              clear dY HD
              generalize wr.drewN nq=wq at *
              have hK:(j2:Int)<(i2:Int):=by omega
              have HE:Hid (T=(j2,false,Sort.swp d1 j2 a)):=by rw [aa HO,part_break Sort.ltInt a i j d1 (aa lv) (aa HD2) (by omega)];exact hide rfl
              obtain ⟨G,HG,hc,hf⟩:=(aa HR4).pJ (aa eO)
              have oO:=Rg.aS (Rg.eH HR4 eO HG (i:=j2) (j:=a) (by omega) (by omega)) 1
              by_cases hja:j2=a
              ·subst hja
               first
               | omega
               |
                go_wp2_with fail
                go_region
                go_wp2_with fail
                go_ret2
                rw [aa HE]
                exact ⟨rfl,oO⟩
              ·have MX:a<j2:=by omega
               go_wp2_with fail
               go_region
               go_wp2_with fail
               go_ret2
               rw [aa HE]
               exact ⟨rfl,oO⟩
          ·have hI:¬ (i2:Int)<=(j:Int):=by omega
           have lv:Hid (i2=Sort.scanUp (fun x=>Sort.ltInt x d1[a]!) d1 j (i)):=(scanUp_end _ d1 j i2 (.inl hlt)).symm.trans (aa HU)
           go_wp2_with fail
           go_quiet (fail)
           have HR3:=Rg.aS HR2 nq
           clear HR2 HU
           generalize wr.drewN nq=wq at *
           go_wp2_with fail
           go_loopw [11] (fun v wr=>∃ (j2:Nat),v=.int .i64 (j2:Int)/\j2<=j/\i2<=j2+1/\Hid (Rg w0 wr g off d1)/\Hid (Sort.scanDown (fun x=>!Sort.ltInt x d1[a]!) d1 i2 j2=Sort.scanDown (fun x=>!Sort.ltInt x d1[a]!) d1 i2 j)) (fun v _=>(intOf v).toNat)
           case atStart=>exact ⟨j,rfl,Nat.le_refl _,hj2,HR3,hide rfl⟩
           case round=>
            obtain ⟨j2,rfl,hjj,hij2,dY,HD⟩:=hrel
            clear HR3
            by_cases iA:i2<=j2
            ·omega
            ·have hI:¬ (i2:Int)<=(j2:Int):=by omega
             have HD2:Hid (j2=Sort.scanDown (fun x=>!Sort.ltInt x d1[a]!) d1 i2 j):=(scanDown_end _ d1 i2 j2 (.inl iA)).symm.trans (aa HD)
             go_wp2_with fail
             go_quiet (fail)
             have HR4:=Rg.aS dY nq
             clear dY HD
             generalize wr.drewN nq=wq at *
             have hK:(j2:Int)<(i2:Int):=by omega
             have HE:Hid (T=(j2,false,Sort.swp d1 j2 a)):=by rw [aa HO,part_break Sort.ltInt a i j d1 (aa lv) (aa HD2) (by omega)];exact hide rfl
             obtain ⟨G,HG,hc,hf⟩:=(aa HR4).pJ (aa eO)
             have oO:=Rg.aS (Rg.eH HR4 eO HG (i:=j2) (j:=a) (by omega) (by omega)) 1
             by_cases hja:j2=a
             ·subst hja
              first
              | omega
              |
               go_wp2_with fail
               go_region
               go_wp2_with fail
               go_ret2
               rw [aa HE]
               exact ⟨rfl,oO⟩
             ·have MX:a<j2:=by omega
              go_wp2_with fail
              go_region
              go_wp2_with fail
              go_ret2
              rw [aa HE]
              exact ⟨rfl,oO⟩
      ·have hI:¬ (i2:Int)<=(j2:Int):=by omega
       have HD2:Hid (j2=Sort.scanDown (fun x=>!Sort.ltInt x d0[a]!) d0 i2 j0):=(scanDown_end _ d0 i2 j2 (.inl iA)).symm.trans (aa HD)
       go_wp2_with fail
       go_quiet (fail)
       have HR4:=Rg.aS dY nq
       clear dY HD
       generalize wr.drewN nq=wq at *
       have hK:(j2:Int)<(i2:Int):=by omega
       have HE:Hid (T=(j2,true,Sort.swp d0 j2 a)):=aa HB i2 j2 (aa lv) (aa HD2) (by omega)
       obtain ⟨G,HG,hc,hf⟩:=(aa HR4).pJ (aa dI)
       have oO:=Rg.aS (Rg.eH HR4 dI HG (i:=j2) (j:=a) (by omega) (by omega)) 1
       by_cases hja:j2=a
       ·subst hja
        first
        | omega
        |
         go_wp2_with fail
         go_region
         go_wp2_with fail
         go_ret2
         rw [aa HE]
         exact ⟨rfl,oO⟩
       ·have MX:a<j2:=by omega
        go_wp2_with fail
        go_region
        go_wp2_with fail
        go_ret2
        rw [aa HE]
        exact ⟨rfl,oO⟩
   ·have hI:¬ (i2:Int)<=(j0:Int):=by omega
    have lv:Hid (i2=Sort.scanUp (fun x=>Sort.ltInt x d0[a]!) d0 j0 (a+1)):=(scanUp_end _ d0 j0 i2 (.inl hlt)).symm.trans (aa HU)
    go_wp2_with fail
    go_quiet (fail)
    have HR3:=Rg.aS HR2 nq
    clear HR2 HU
    generalize wr.drewN nq=wq at *
    go_wp2_with fail
    go_loopw [11] (fun v wr=>∃ (j2:Nat),v=.int .i64 (j2:Int)/\j2<=j0/\i2<=j2+1/\Hid (Rg w0 wr g off d0)/\Hid (Sort.scanDown (fun x=>!Sort.ltInt x d0[a]!) d0 i2 j2=Sort.scanDown (fun x=>!Sort.ltInt x d0[a]!) d0 i2 j0)) (fun v _=>(intOf v).toNat)
    case atStart=>exact ⟨j0,rfl,Nat.le_refl _,hj2,HR3,hide rfl⟩
    case round=>
     obtain ⟨j2,rfl,hjj,hij2,dY,HD⟩:=hrel
     clear HR3
     by_cases iA:i2<=j2
     ·omega
     ·have hI:¬ (i2:Int)<=(j2:Int):=by omega
      have HD2:Hid (j2=Sort.scanDown (fun x=>!Sort.ltInt x d0[a]!) d0 i2 j0):=(scanDown_end _ d0 i2 j2 (.inl iA)).symm.trans (aa HD)
      go_wp2_with fail
      go_quiet (fail)
      have HR4:=Rg.aS dY nq
      clear dY HD
      generalize wr.drewN nq=wq at *
      have hK:(j2:Int)<(i2:Int):=by omega
      have HE:Hid (T=(j2,true,Sort.swp d0 j2 a)):=aa HB i2 j2 (aa lv) (aa HD2) (by omega)
      obtain ⟨G,HG,hc,hf⟩:=(aa HR4).pJ (aa dI)
      have oO:=Rg.aS (Rg.eH HR4 dI HG (i:=j2) (j:=a) (by omega) (by omega)) 1
      by_cases hja:j2=a
      ·subst hja
       first
       | omega
       |
        go_wp2_with fail
        go_region
        go_wp2_with fail
        go_ret2
        rw [aa HE]
        exact ⟨rfl,oO⟩
      ·have MX:a<j2:=by omega
       go_wp2_with fail
       go_region
       go_wp2_with fail
       go_ret2
       rw [aa HE]
       exact ⟨rfl,oO⟩
set_option maxRecDepth 100000 in
set_option maxHeartbeats 8000000 in
theorem abp (w0 w:World) (g off n cap a b:Nat) (d:Array Int) (hn:d.size=n) (hN:n<=1000000000) (hab:a<b) (hb:b<=n) (h:Hid (Rg w0 w g off d)) :
  Calls Tryz.prog 296 #[.slice (some ⟨g,off,none⟩) n cap,.int .i64 a,.int .i64 b] w fun e w'=>
   e=.returned (.bool (Sort.partialInsertionSort Sort.ltInt d a b).2)/\Hid (Rg w0 w' g off (Sort.partialInsertionSort Sort.ltInt d a b).1):=by
 have HS:Hid (d.size=n):=hn
 clear hn
 have HT:Hid (Sort.partialInsertionSort Sort.ltInt d a b=Sort.partialIns Sort.ltInt a b (5 - 0) (a+1) d):=hide rfl
 obtain ⟨T,hT⟩:∃ T,Sort.partialInsertionSort Sort.ltInt d a b=T:=⟨_,rfl⟩
 rw [hT] at HT ⊢
 clear hT
 go_enter Tryz.func296,Tryz.ntmps296
 go_wp2_with fail
 go_loopw [7,8] (fun v u wr=>∃ (i s:Nat) (d1:Array Int),v=.int .i64 (i:Int)/\u=.int .i64 (s:Int)/\a<i/\i<=b/\s<=5/\Hid (d1.size=n)/\Hid (Rg w0 wr g off d1)/\Hid (T=Sort.partialIns Sort.ltInt a b (5 - s) i d1)) (fun _ u _=>5 - (intOf u).toNat)
 case atStart=>exact ⟨a+1,0,d,by go_num,rfl,by omega,by omega,by omega,HS,h,HT⟩
 case round=>
  obtain ⟨i,s,d1,rfl,rfl,hai,hib,hs,eO,HR,HO⟩:=hrel
  clear h HT HS
  by_cases hs5:s<5
  ·have aem:(s:Int)<5:=by omega
   go_wp2_with fail
   go_loopw [7] (fun v wr=>∃ (i2:Nat),v=.int .i64 (i2:Int)/\a<i2/\i2<=b/\Hid (Rg w0 wr g off d1)/\Hid (Sort.scanSorted Sort.ltInt d1 b i=Sort.scanSorted Sort.ltInt d1 b i2)) (fun v _=>b - (intOf v).toNat)
   case atStart=>exact ⟨i,rfl,hai,hib,HR,hide rfl⟩
   case round=>
    obtain ⟨k,rfl,hak,hkb,HR2,HU⟩:=hrel
    clear HR
    by_cases hlt:k<b
    ·have hI:(k:Int)<(b:Int):=by omega
     obtain ⟨G,HG,hc,hf⟩:=(aa HR2).pJ (aa eO)
     go_wp2_with fail
     go_quiet ((go_at_call 221;exact Calls.quiet_of_same (eB _ _ _)))
     have HR3:=Rg.aS HR2 nq
     clear HR2 hc hf
     generalize wr.drewN nq=wq at *
     have hc:=Rg.rT HR3 eO HG
     have hf:=Rg.rU HR3 eO
     cases hl:Sort.ltInt (G k) (G (k - 1)) with
     | false=>
      go_wp2_with fail
      go_roundw
      case rel=>exact ⟨k+1,by go_num,by omega,by omega,HR3,hide ((aa HU).trans (scanSorted_go Sort.ltInt d1 b k hlt (by rw [<-aa HG,<-aa HG,hl])))⟩
      case measure=>simp [intOf];omega
     | true=>
      have lv:Hid (Sort.scanSorted Sort.ltInt d1 b i=k):=(aa HU).trans (scanSorted_stop Sort.ltInt d1 b k (.inr (by rw [<-aa HG,<-aa HG,hl])))
      clear HU
      have hkb2:¬ (k:Int)=(b:Int):=by omega
      by_cases h50:b - a<50
      ·have aen:(b:Int) - (a:Int)<50:=by omega
       have HE:Hid (T=(d1,false)):=(aa HO).trans (pi_short Sort.ltInt a b s i d1 hs5 (by rw [aa lv];omega) h50)
       go_wp2_with fail
       go_ret
       rw [aa HE]
       exact ⟨rfl,HR3⟩
      ·have aen:¬ (b:Int) - (a:Int)<50:=by omega
       have IJ:Hid (T=Sort.partialIns Sort.ltInt a b (5 - (s+1)) k (Sort.fixUp Sort.ltInt b k (Sort.fixDown Sort.ltInt a k (Sort.swp d1 k (k - 1))))):=(aa HO).trans (pi_go Sort.ltInt a b s i k d1 hs5 (aa lv) (by omega) h50)
       clear HO lv
       have HR4:=Rg.aS (Rg.eH HR3 eO HG (i:=k) (j:=k - 1) (by omega) (by omega)) 1
       have Tv:=f_ (i:=k) (j:=k - 1) eO
       generalize Sort.swp d1 k (k - 1)=d4 at *
       go_wp2_with fail
       go_region
       generalize hw4:((wq.setCell _ _).setCell _ _).drew=w4
       have oO:Hid (Rg w0 w4 g off d4):=by rw [<-hw4];exact HR4
       clear HR4 hw4 hc hf HG HR3
       by_cases hd:k - a ≥ 2
       ·have hdI:(2:Int)<=(k:Int) - (a:Int):=by omega
        have HFD:Hid (Sort.fixDown Sort.ltInt a k d4=Sort.shiftDown Sort.ltInt (k - 1) d4):=if_pos hd
        go_wp2_with fail
        go_loopw [9] (fun v wr=>∃ (j:Nat) (d6:Array Int),v=.int .i64 (j:Int)/\j<k/\Hid (d6.size=n)/\Hid (Rg w0 wr g off d6)/\Hid (Sort.fixDown Sort.ltInt a k d4=Sort.shiftDown Sort.ltInt j d6)) (fun v _=>(intOf v).toNat)
        case atStart=>exact ⟨k - 1,d4,by go_num,by omega,Tv,oO,HFD⟩
        case round=>
         obtain ⟨j',d6,rfl,hjk,Jk,UX,HV6⟩:=hrel
         clear oO HFD
         by_cases hj1:1<=j'
         ·have hjI:(1:Int)<=(j':Int):=by omega
          obtain ⟨G2,HG2,hc,hf⟩:=(aa UX).pJ (aa Jk)
          go_wp2_with fail
          go_quiet ((go_at_call 221;exact Calls.quiet_of_same (eB _ _ _)))
          have O0:=Rg.aS UX nq
          clear UX hc hf
          generalize wr.drewN nq=wp6 at *
          have hc:=Rg.rT O0 Jk HG2
          have hf:=Rg.rU O0 Jk
          have hd6:=hd
          cases hl6:Sort.ltInt (G2 j') (G2 (j' - 1)) with
          | false=>
           have HF:Hid (T=Sort.partialIns Sort.ltInt a b (5 - (s+1)) k (Sort.fixUp Sort.ltInt b k d6)):=by
            rw [aa IJ,aa HV6,shiftDown_stop Sort.ltInt j' d6 (.inr (by rw [<-aa HG2,<-aa HG2,hl6]))]
            exact hide rfl
           clear IJ HV6 hc hf
           by_cases hu:b - k ≥ 2
           ·have huI:(2:Int)<=(b:Int) - (k:Int):=by omega
            have HFU:Hid (Sort.fixUp Sort.ltInt b k d6=Sort.shiftUp Sort.ltInt b (k+1) d6):=if_pos hu
            go_wp2_with fail
            go_loopw [10] (fun v wr=>∃ (j:Nat) (d7:Array Int),v=.int .i64 (j:Int)/\k<j/\j<=b/\Hid (d7.size=n)/\Hid (Rg w0 wr g off d7)/\Hid (Sort.fixUp Sort.ltInt b k d6=Sort.shiftUp Sort.ltInt b j d7)) (fun v _=>b - (intOf v).toNat)
            case atStart=>exact ⟨k+1,d6,by go_num,by omega,by omega,Jk,O0,HFU⟩
            case round=>
             obtain ⟨j,d7,rfl,hkj,hjb,wO,BV,HV⟩:=hrel
             clear O0 HFU
             by_cases hjb2:j<b
             ·have hjI:(j:Int)<(b:Int):=by omega
              obtain ⟨G,HG,hc,hf⟩:=(aa BV).pJ (aa wO)
              go_wp2_with fail
              go_quiet ((go_at_call 221;exact Calls.quiet_of_same (eB _ _ _)))
              have Hr:=Rg.aS BV nq
              clear BV hc hf
              generalize wr.drewN nq=wp at *
              have hc:=Rg.rT Hr wO HG
              have hf:=Rg.rU Hr wO
              go_wp2_with fail
              ·have hl:Sort.ltInt (G j) (G (j - 1))=false:=by
                have hl:(!Sort.ltInt (G j) (G (j - 1)))=true:=by assumption
                simpa using hl
               have Js:Hid (T=Sort.partialIns Sort.ltInt a b (5 - (s+1)) k d7):=by
                rw [aa HF,aa HV,shiftUp_stop Sort.ltInt b j d7 (.inr (by rw [<-aa HG,<-aa HG,hl]))]
                exact hide rfl
               go_wp2_with fail
               go_roundw
               case rel=>exact ⟨k,s+1,d7,rfl,by go_num,by omega,by omega,by omega,wO,Hr,Js⟩
               case measure=>simp [intOf];omega
              ·have hl:Sort.ltInt (G j) (G (j - 1))=true:=by
                have hl:(!Sort.ltInt (G j) (G (j - 1)))=false:=by assumption
                simpa using hl
               go_region
               go_wp2_with fail
               go_roundw
               case rel=>exact ⟨j+1,_,by go_num,by omega,by omega,f_ wO,Rg.aS (Rg.eH Hr wO HG (i:=j) (j:=j - 1) (by omega) (by omega)) 1,hide ((aa HV).trans (shiftUp_go Sort.ltInt b j d7 hjb2 (by rw [<-aa HG,<-aa HG,hl])))⟩
               case measure=>simp [intOf];omega
             ·have hjI:¬ (j:Int)<(b:Int):=by omega
              have Js:Hid (T=Sort.partialIns Sort.ltInt a b (5 - (s+1)) k d7):=by
               rw [aa HF,aa HV,shiftUp_stop Sort.ltInt b j d7 (.inl hjb2)]
               exact hide rfl
              go_wp2_with fail
              go_roundw
              case rel=>exact ⟨k,s+1,d7,rfl,by go_num,by omega,by omega,by omega,wO,BV,Js⟩
              case measure=>simp [intOf];omega
           ·have huI:¬ (2:Int)<=(b:Int) - (k:Int):=by omega
            have Js:Hid (T=Sort.partialIns Sort.ltInt a b (5 - (s+1)) k d6):=by
             rw [aa HF,show Sort.fixUp Sort.ltInt b k d6=d6 from if_neg hu]
             exact hide rfl
            have wO:=Jk
            go_wp2_with fail
            go_roundw
            case rel=>exact ⟨k,s+1,d6,rfl,by go_num,by omega,by omega,by omega,wO,O0,Js⟩
            case measure=>simp [intOf];omega
          | true=>
           go_wp2_with fail
           go_region
           go_wp2_with fail
           go_roundw
           case rel=>exact ⟨j' - 1,_,by go_num,by omega,f_ Jk,Rg.aS (Rg.eH O0 Jk HG2 (i:=j') (j:=j' - 1) (by omega) (by omega)) 1,hide ((aa HV6).trans (shiftDown_go Sort.ltInt j' d6 hj1 (by rw [<-aa HG2,<-aa HG2,hl6])))⟩
           case measure=>simp [intOf];omega
         ·have hjI:¬ (1:Int)<=(j':Int):=by omega
          have O0:=UX
          have HF:Hid (T=Sort.partialIns Sort.ltInt a b (5 - (s+1)) k (Sort.fixUp Sort.ltInt b k d6)):=by
           rw [aa IJ,aa HV6,shiftDown_stop Sort.ltInt j' d6 (.inl (by omega))]
           exact hide rfl
          clear IJ HV6 UX
          by_cases hu:b - k ≥ 2
          ·have huI:(2:Int)<=(b:Int) - (k:Int):=by omega
           have HFU:Hid (Sort.fixUp Sort.ltInt b k d6=Sort.shiftUp Sort.ltInt b (k+1) d6):=if_pos hu
           go_wp2_with fail
           go_loopw [10] (fun v wr=>∃ (j:Nat) (d7:Array Int),v=.int .i64 (j:Int)/\k<j/\j<=b/\Hid (d7.size=n)/\Hid (Rg w0 wr g off d7)/\Hid (Sort.fixUp Sort.ltInt b k d6=Sort.shiftUp Sort.ltInt b j d7)) (fun v _=>b - (intOf v).toNat)
           case atStart=>exact ⟨k+1,d6,by go_num,by omega,by omega,Jk,O0,HFU⟩
           case round=>
            obtain ⟨j,d7,rfl,hkj,hjb,wO,BV,HV⟩:=hrel
            clear O0 HFU
            by_cases hjb2:j<b
            ·have hjI:(j:Int)<(b:Int):=by omega
             obtain ⟨G,HG,hc,hf⟩:=(aa BV).pJ (aa wO)
             go_wp2_with fail
             go_quiet ((go_at_call 221;exact Calls.quiet_of_same (eB _ _ _)))
             have Hr:=Rg.aS BV nq
             clear BV hc hf
             generalize wr.drewN nq=wp at *
             have hc:=Rg.rT Hr wO HG
             have hf:=Rg.rU Hr wO
             go_wp2_with fail
             ·have hl:Sort.ltInt (G j) (G (j - 1))=false:=by
               have hl:(!Sort.ltInt (G j) (G (j - 1)))=true:=by assumption
               simpa using hl
              have Js:Hid (T=Sort.partialIns Sort.ltInt a b (5 - (s+1)) k d7):=by
               rw [aa HF,aa HV,shiftUp_stop Sort.ltInt b j d7 (.inr (by rw [<-aa HG,<-aa HG,hl]))]
               exact hide rfl
              go_wp2_with fail
              go_roundw
              case rel=>exact ⟨k,s+1,d7,rfl,by go_num,by omega,by omega,by omega,wO,Hr,Js⟩
              case measure=>simp [intOf];omega
             ·have hl:Sort.ltInt (G j) (G (j - 1))=true:=by
               have hl:(!Sort.ltInt (G j) (G (j - 1)))=false:=by assumption
               simpa using hl
              go_region
              go_wp2_with fail
              go_roundw
              case rel=>exact ⟨j+1,_,by go_num,by omega,by omega,f_ wO,Rg.aS (Rg.eH Hr wO HG (i:=j) (j:=j - 1) (by omega) (by omega)) 1,hide ((aa HV).trans (shiftUp_go Sort.ltInt b j d7 hjb2 (by rw [<-aa HG,<-aa HG,hl])))⟩
              case measure=>simp [intOf];omega
            ·have hjI:¬ (j:Int)<(b:Int):=by omega
             have Js:Hid (T=Sort.partialIns Sort.ltInt a b (5 - (s+1)) k d7):=by
              rw [aa HF,aa HV,shiftUp_stop Sort.ltInt b j d7 (.inl hjb2)]
              exact hide rfl
             go_wp2_with fail
             go_roundw
             case rel=>exact ⟨k,s+1,d7,rfl,by go_num,by omega,by omega,by omega,wO,BV,Js⟩
             case measure=>simp [intOf];omega
          ·have huI:¬ (2:Int)<=(b:Int) - (k:Int):=by omega
           have Js:Hid (T=Sort.partialIns Sort.ltInt a b (5 - (s+1)) k d6):=by
            rw [aa HF,show Sort.fixUp Sort.ltInt b k d6=d6 from if_neg hu]
            exact hide rfl
           have wO:=Jk
           go_wp2_with fail
           go_roundw
           case rel=>exact ⟨k,s+1,d6,rfl,by go_num,by omega,by omega,by omega,wO,O0,Js⟩
           case measure=>simp [intOf];omega
       ·have hdI:¬ (2:Int)<=(k:Int) - (a:Int):=by omega
        have HF:Hid (T=Sort.partialIns Sort.ltInt a b (5 - (s+1)) k (Sort.fixUp Sort.ltInt b k d4)):=by
         rw [aa IJ,show Sort.fixDown Sort.ltInt a k d4=d4 from if_neg hd]
         exact hide rfl
        have O0:=oO
        have Jk:=Tv
        clear IJ oO
        generalize d4=d6 at *
        by_cases hu:b - k ≥ 2
        ·have huI:(2:Int)<=(b:Int) - (k:Int):=by omega
         have HFU:Hid (Sort.fixUp Sort.ltInt b k d6=Sort.shiftUp Sort.ltInt b (k+1) d6):=if_pos hu
         go_wp2_with fail
         go_loopw [10] (fun v wr=>∃ (j:Nat) (d7:Array Int),v=.int .i64 (j:Int)/\k<j/\j<=b/\Hid (d7.size=n)/\Hid (Rg w0 wr g off d7)/\Hid (Sort.fixUp Sort.ltInt b k d6=Sort.shiftUp Sort.ltInt b j d7)) (fun v _=>b - (intOf v).toNat)
         case atStart=>exact ⟨k+1,d6,by go_num,by omega,by omega,Jk,O0,HFU⟩
         case round=>
          obtain ⟨j,d7,rfl,hkj,hjb,wO,BV,HV⟩:=hrel
          clear O0 HFU
          by_cases hjb2:j<b
          ·have hjI:(j:Int)<(b:Int):=by omega
           obtain ⟨G,HG,hc,hf⟩:=(aa BV).pJ (aa wO)
           go_wp2_with fail
           go_quiet ((go_at_call 221;exact Calls.quiet_of_same (eB _ _ _)))
           have Hr:=Rg.aS BV nq
           clear BV hc hf
           generalize wr.drewN nq=wp at *
           have hc:=Rg.rT Hr wO HG
           have hf:=Rg.rU Hr wO
           go_wp2_with fail
           ·have hl:Sort.ltInt (G j) (G (j - 1))=false:=by
             have hl:(!Sort.ltInt (G j) (G (j - 1)))=true:=by assumption
             simpa using hl
            have Js:Hid (T=Sort.partialIns Sort.ltInt a b (5 - (s+1)) k d7):=by
             rw [aa HF,aa HV,shiftUp_stop Sort.ltInt b j d7 (.inr (by rw [<-aa HG,<-aa HG,hl]))]
             exact hide rfl
            go_wp2_with fail
            go_roundw
            case rel=>exact ⟨k,s+1,d7,rfl,by go_num,by omega,by omega,by omega,wO,Hr,Js⟩
            case measure=>simp [intOf];omega
           ·have hl:Sort.ltInt (G j) (G (j - 1))=true:=by
             have hl:(!Sort.ltInt (G j) (G (j - 1)))=false:=by assumption
             simpa using hl
            go_region
            go_wp2_with fail
            go_roundw
            case rel=>exact ⟨j+1,_,by go_num,by omega,by omega,f_ wO,Rg.aS (Rg.eH Hr wO HG (i:=j) (j:=j - 1) (by omega) (by omega)) 1,hide ((aa HV).trans (shiftUp_go Sort.ltInt b j d7 hjb2 (by rw [<-aa HG,<-aa HG,hl])))⟩
            case measure=>simp [intOf];omega
          ·have hjI:¬ (j:Int)<(b:Int):=by omega
           have Js:Hid (T=Sort.partialIns Sort.ltInt a b (5 - (s+1)) k d7):=by
            rw [aa HF,aa HV,shiftUp_stop Sort.ltInt b j d7 (.inl hjb2)]
            exact hide rfl
           go_wp2_with fail
           go_roundw
           case rel=>exact ⟨k,s+1,d7,rfl,by go_num,by omega,by omega,by omega,wO,BV,Js⟩
           case measure=>simp [intOf];omega
        ·have huI:¬ (2:Int)<=(b:Int) - (k:Int):=by omega
         have Js:Hid (T=Sort.partialIns Sort.ltInt a b (5 - (s+1)) k d6):=by
          rw [aa HF,show Sort.fixUp Sort.ltInt b k d6=d6 from if_neg hu]
          exact hide rfl
         have wO:=Jk
         go_wp2_with fail
         go_roundw
         case rel=>exact ⟨k,s+1,d6,rfl,by go_num,by omega,by omega,by omega,wO,O0,Js⟩
         case measure=>simp [intOf];omega
    ·have aeo:k=b:=by omega
     subst aeo
     have lv:Hid (Sort.scanSorted Sort.ltInt d1 k i=k):=(aa HU).trans (scanSorted_stop Sort.ltInt d1 k k (.inl hlt))
     have HE:Hid (T=(d1,true)):=(aa HO).trans (pi_true Sort.ltInt a k s i d1 hs5 (aa lv))
     go_wp2_with fail
     go_quiet (fail)
     have HR3:=Rg.aS HR2 nq
     go_wp2_with fail
     go_ret
     rw [aa HE]
     exact ⟨rfl,HR3⟩
  ·have aem:¬ (s:Int)<5:=by omega
   have hs6:s=5:=by omega
   subst hs6
   have HE:Hid (T=(d1,false)):=aa HO
   go_wp2_with fail
   go_ret
   rw [aa HE]
   exact ⟨rfl,HR⟩
structure Su (w0 w:World) (g off:Nat) (d:Array Int) (k R:Nat):Prop where
 rg:Rg w0 w g off d
 new:w0.heap.size<=k
 at':w.cell? ⟨k,0,none⟩=some (.int .u64 (R:Int))
 fr:w.frozen? ⟨k,0,none⟩=false
theorem Su.make {w0 w:World} {g off:Nat} {d:Array Int} (h:Hid (Rg w0 w g off d)) (e:TypeId) (R:Nat):Hid (Su w0 (w.alloc (.cells #[.int .u64 (R:Int)] e)) g off d w.heap.size R):=by
 have hg:(w.alloc (.cells #[.int .u64 (R:Int)] e)).heap[w.heap.size]? = some (.cells #[.int .u64 (R:Int)] e):=by
  rw [Sort.alloc_eq_grow]
  unfold Sort.grow
  rw [Array.getElem?_append_right (Nat.le_refl _),Nat.sub_self]
  rfl
 refine ⟨(aa h).alloc _,(aa h).size,?_,?_⟩
 ·unfold World.cell?
  rw [hg]
  rfl
 ·unfold World.frozen?
  rw [hg]
  rfl
theorem Su.next {w0 w:World} {g off:Nat} {d:Array Int} {k R:Nat} (h:Hid (Su w0 w g off d k R)) (S q:Nat):Hid (Su w0 ((w.setCell ⟨k,0,none⟩ (.int .u64 (S:Int))).drewN q) g off d k S):=by
 refine ⟨((aa h).rg.mr (aa h).new _).drew q,(aa h).new,?_,?_⟩
 ·show (w.setCell ⟨k,0,none⟩ (.int .u64 (S:Int))).cell? ⟨k,0,none⟩=_
  obtain ⟨c,e,fr,hb,hc⟩:=Sort.cells_of_cell? (aa h).at'
  rw [Sort.setCell_eq,Sort.cell?_mapBlock w k 0 _ hb]
  obtain ⟨h0,_⟩:=Array.getElem?_eq_some_iff.1 hc
  simp [h0]
 ·show (w.setCell ⟨k,0,none⟩ (.int .u64 (S:Int))).frozen? ⟨k,0,none⟩=_
  rw [Sort.setCell_eq,Sort.frozen?_mapBlock]
  exact (aa h).fr
theorem Su.eH {w0 w:World} {g off n k R:Nat} {d:Array Int} (h:Hid (Su w0 w g off d k R)) (hn:Hid (d.size=n)) {G:Nat->Int} (HG:Hid (∀ t,G t=d[t]!)) {i j:Nat} (hi:i<n) (hj:j<n) :
  Hid (Su w0 ((w.setCell ⟨g,off+i,none⟩ (.int .i32 (G j))).setCell ⟨g,off+j,none⟩ (.int .i32 (G i))).drew g off (Sort.swp d i j) k R):=by
 have hgk:k≠g:=by
  have:=(aa h).new
  have:=(aa h).rg.blk
  omega
 refine ⟨aa (Rg.aS (Rg.eH (aa h).rg hn HG hi hj) 1),(aa h).new,?_,?_⟩
 ·show ((w.setCell ⟨g,off+i,none⟩ (.int .i32 (G j))).setCell ⟨g,off+j,none⟩ (.int .i32 (G i))).cell? ⟨k,0,none⟩=_
  unfold World.cell?
  rw [Below.heap_setCell _ _ _ _ (by simpa using hgk),Below.heap_setCell _ _ _ _ (by simpa using hgk)]
  exact (aa h).at'
 ·show ((w.setCell ⟨g,off+i,none⟩ (.int .i32 (G j))).setCell ⟨g,off+j,none⟩ (.int .i32 (G i))).frozen? ⟨k,0,none⟩=_
  unfold World.frozen?
  rw [Below.heap_setCell _ _ _ _ (by simpa using hgk),Below.heap_setCell _ _ _ _ (by simpa using hgk)]
  exact (aa h).fr
theorem abq {w0 w:World} {g off:Nat} {d:Array Int} {k R:Nat} (h:Hid (Su w0 w g off d k R)) (hR:R<18446744073709551616) :
  Calls Tryz.prog 286 #[.pointer (some ⟨k,0,none⟩)] w fun e w'=>e=.returned (.int .u64 (Sort.xorNextN R:Nat))/\Hid (Su w0 w' g off d k (Sort.xorNextN R)):=
 (AnyF.xorshift_Next { Tryz.F7 with } k 0 R hR w (aa h).at' (aa h).fr).mono fun e w' hh=>⟨hh.1,by rw [hh.2];exact Su.next h _ 3⟩
theorem abr (L:Nat) (hL:L<4611686018427387904) (w:World):Calls Tryz.prog 285 #[.int .i64 L] w fun e w'=>e=.returned (.int .u64 ((1 <<< Sort.bitsLen L:Nat):Int))/\w'=w:=
 AnyF.nextPowerOfTwo { Tryz.F7 with } L hL w
set_option maxRecDepth 100000 in
set_option maxHeartbeats 4000000 in
theorem YO (w0 w:World) (g off n cap a b:Nat) (d:Array Int) (hn:d.size=n) (hN:n<=1000000000) (hab:a+8<=b) (hb:b<=n) (h:Hid (Rg w0 w g off d)) :
  Calls Tryz.prog 293 #[.slice (some ⟨g,off,none⟩) n cap,.int .i64 a,.int .i64 b] w fun e w'=>e=.returned (.tuple #[])/\Hid (Rg w0 w' g off (Sort.breakPatterns d a b)):=by
 have HS:Hid (d.size=n):=hn
 clear hn
 obtain ⟨L,hL⟩:∃ L:Nat,b=a+L:=⟨b - a,by omega⟩
 have h0:(b:Int) - (a:Int)=(L:Int):=by omega
 obtain ⟨q,hq⟩:∃ q:Nat,q=L / 4:=⟨_,rfl⟩
 obtain ⟨M,hM⟩:∃ M:Nat,M=1 <<< Sort.bitsLen L:=⟨_,rfl⟩
 obtain ⟨i0,hi0⟩:∃ i0:Nat,i0=a+q*2 - 1:=⟨_,rfl⟩
 have HT:Hid (Sort.breakPatterns d a b=bpRest a L M i0 (3 - 0) 0 (UInt64.ofNat L,d)):=by
  rw [hL,breakPatterns_eq d a L (by omega),<-hM,<-hq,<-hi0]
  exact hide rfl
 obtain ⟨T,hT⟩:∃ T,Sort.breakPatterns d a b=T:=⟨_,rfl⟩
 rw [hT] at HT ⊢
 clear hT
 have h4:(L:Int).tdiv 4=(q:Int):=by rw [Int.tdiv_eq_ediv_of_nonneg (by omega)];omega
 have hq4:4*q<=L:=by omega
 have hq5:2<=q:=by omega
 have hLn:a+L<=n:=by omega
 have hL8:(8:Int)<=(L:Int):=by omega
 have hI0:(a:Int)+(q:Int)*2 - 1=(i0:Int):=by omega
 have hI1:(a:Int)+(q:Int)*2+1=(i0:Int)+2:=by omega
 have hi1:a<=i0:=by omega
 have hi2:i0+3<=a+L:=by omega
 have hM1:1<=M:=by rw [hM,Nat.one_shiftLeft];exact Nat.two_pow_pos _
 have hM2:M<=2*L:=by rw [hM,Nat.one_shiftLeft];exact Sort.two_pow_bitsLen_le (by omega)
 have HP:Hid (∀ w,Calls Tryz.prog 285 #[.int .i64 (L:Int)] w fun e w'=>e=.returned (.int .u64 (M:Int))/\w'=w):=by rw [hM];exact fun w=>abr L (by omega) w
 have hwL:IntKind.u64.wrap (L:Int)=L:=by simp [IntKind.wrap,IntKind.bits,IntKind.signed];omega
 have Gq:(UInt64.ofNat L).toNat=L:=by simp;omega
 have HU:=Su.make h 326 L
 clear hL hq hM hi0
 go_enter Tryz.func293,Tryz.ntmps293
 go_wp2_with (go_at_call 285;refine (aa HP _).mono ?_;rintro e w1 ⟨rfl,rfl⟩)
 go_loopw [9] (fun v wr=>∃ (t:Nat) (r:UInt64) (d1:Array Int),v=.int .i64 ((i0+t:Nat):Int)/\t<=3/\Hid (d1.size=n)/\Hid (Su w0 wr g off d1 w.heap.size r.toNat)/\Hid (T=bpRest a L M i0 (3 - t) t (r,d1))) (fun v _=>i0+3 - (intOf v).toNat)
 case atStart=>exact ⟨0,UInt64.ofNat L,d,by go_num,by omega,HS,by rw [Gq];exact HU,HT⟩
 case round=>
  obtain ⟨t,r,d1,rfl,ht,eO,HV,HO⟩:=hrel
  clear HU HT HS h
  by_cases ht3:t<3
  ·have hI:((i0+t:Nat):Int)<=(i0:Int)+2:=by omega
   obtain ⟨R,hR⟩:∃ R,R=r.toNat:=⟨_,rfl⟩
   have lR:R<18446744073709551616:=by rw [hR];exact r.toNat_lt
   obtain ⟨S,hS⟩:∃ S,S=Sort.xorNextN R:=⟨_,rfl⟩
   have lS:S<18446744073709551616:=by rw [hS];exact Sort.xorNextN_lt R lR
   obtain ⟨O,hO⟩:∃ O,O=S &&& (M - 1):=⟨_,rfl⟩
   have lO:O<=M - 1:=by rw [hO];exact Nat.and_le_right
   have eA:bits .and .u64 (S:Int) ((M:Int) - 1)=(O:Int):=by
    rw [show ((M:Int) - 1)=((M - 1:Nat):Int) by omega,bits_and_u64_nat _ _ lS (by omega),hO]
   rw [<-hR] at HV
   have HX:Hid (S=(Sort.xorNext r).toNat):=by rw [hS,hR,Sort.xorNext_toNat];exact hide rfl
   have HC:Hid (Calls Tryz.prog 286 #[.pointer (some ⟨w.heap.size,0,none⟩)] wr fun e w'=>e=.returned (.int .u64 (S:Int))/\Hid (Su w0 w' g off d1 w.heap.size S)):=by
    rw [hS]
    exact abq HV lR
   have jh:Hid (O=(Sort.xorNext r).toNat &&& (M - 1)):=by rw [<-aa HX];exact hide hO
   have aaE:Hid (∀ o,(if O ≥ L then O - L else O)=o->bpRest a L M i0 (3 - t) t (r,d1)=bpRest a L M i0 (3 - (t+1)) (t+1) (Sort.xorNext r,Sort.swp d1 (i0+t) (a+o))):=fun o ho=>
    bp_step a L M i0 t r d1 o ht3 (by rw [<-aa jh];exact ho)
   clear hS hO hR jh
   have hwO:IntKind.i64.wrap (O:Int)=O:=by simp [IntKind.wrap,IntKind.bits,IntKind.signed];omega
   go_wp2_with (go_at_call 286;refine (aa HC).mono ?_;rintro e w2 ⟨rfl,HV2⟩)
   ·have hLO:L<=O:=by assumption
    obtain ⟨o,ho⟩:∃ o,o=O - L:=⟨_,rfl⟩
    have HE:=hide (aa aaE o (by rw [if_pos hLO,ho]))
    have hoL:o<L:=by omega
    rw [show (O:Int) - (L:Int)=(o:Int) from by omega]
    clear ho
    obtain ⟨G,HG,hc,hf⟩:=(aa HV2).rg.pJ (aa eO)
    have UY:=Su.eH HV2 eO HG (i:=i0+t) (j:=a+o) (by omega) (by omega)
    rcases Nat.lt_trichotomy (i0+t) (a+o) with hx | hx | hx
    ·go_region
     go_wp2_with fail
     go_roundw
     case rel=>
      refine ⟨t+1,Sort.xorNext r,_,by go_num,by omega,f_ eO,?_,hide ((aa HO).trans (aa HE))⟩
      rw [<-aa HX]
      exact UY
     case measure=>simp [intOf];omega
    ·have hx2:a+o=i0+t:=hx.symm
     rw [hx2] at UY
     rw [hx2] at HE
     have hx3:(a:Int)+(o:Int)=((i0+t:Nat):Int):=by omega
     rw [show (i0:Int)+(t:Int)=((i0+t:Nat):Int) from by omega]
     obtain ⟨x,hxx⟩:∃ x,x=i0+t:=⟨_,rfl⟩
     have hxn:x<n:=by omega
     have HXX:=hide hxx
     rw [<-hxx] at UY HE hx3 ⊢
     clear hx hx2 hxx
     go_region
     go_wp2_with fail
     go_roundw
     case rel=>
      refine ⟨t+1,Sort.xorNext r,_,(by have:=aa HXX;go_num),by omega,f_ eO,?_,hide ((aa HO).trans (aa HE))⟩
      rw [<-aa HX]
      exact UY
     case measure=>have:=aa HXX;simp [intOf];omega
    ·go_region
     go_wp2_with fail
     go_roundw
     case rel=>
      refine ⟨t+1,Sort.xorNext r,_,by go_num,by omega,f_ eO,?_,hide ((aa HO).trans (aa HE))⟩
      rw [<-aa HX]
      exact UY
     case measure=>simp [intOf];omega
   ·have hLO:¬ L<=O:=by omega
    obtain ⟨o,ho⟩:∃ o,o=O:=⟨_,rfl⟩
    have HE:=hide (aa aaE o (by rw [if_neg hLO,ho]))
    subst ho
    have hoL:o<L:=by omega
    obtain ⟨G,HG,hc,hf⟩:=(aa HV2).rg.pJ (aa eO)
    have UY:=Su.eH HV2 eO HG (i:=i0+t) (j:=a+o) (by omega) (by omega)
    rcases Nat.lt_trichotomy (i0+t) (a+o) with hx | hx | hx
    ·go_region
     go_wp2_with fail
     go_roundw
     case rel=>
      refine ⟨t+1,Sort.xorNext r,_,by go_num,by omega,f_ eO,?_,hide ((aa HO).trans (aa HE))⟩
      rw [<-aa HX]
      exact UY
     case measure=>simp [intOf];omega
    ·have hx2:a+o=i0+t:=hx.symm
     rw [hx2] at UY
     rw [hx2] at HE
     have hx3:(a:Int)+(o:Int)=((i0+t:Nat):Int):=by omega
     rw [show (i0:Int)+(t:Int)=((i0+t:Nat):Int) from by omega]
     obtain ⟨x,hxx⟩:∃ x,x=i0+t:=⟨_,rfl⟩
     have hxn:x<n:=by omega
     have HXX:=hide hxx
     rw [<-hxx] at UY HE hx3 ⊢
     clear hx hx2 hxx
     go_region
     go_wp2_with fail
     go_roundw
     case rel=>
      refine ⟨t+1,Sort.xorNext r,_,(by have:=aa HXX;go_num),by omega,f_ eO,?_,hide ((aa HO).trans (aa HE))⟩
      rw [<-aa HX]
      exact UY
     case measure=>have:=aa HXX;simp [intOf];omega
    ·go_region
     go_wp2_with fail
     go_roundw
     case rel=>
      refine ⟨t+1,Sort.xorNext r,_,by go_num,by omega,f_ eO,?_,hide ((aa HO).trans (aa HE))⟩
      rw [<-aa HX]
      exact UY
     case measure=>simp [intOf];omega
  ·have hI:¬ ((i0+t:Nat):Int)<=(i0:Int)+2:=by omega
   have ht4:t=3:=by omega
   subst ht4
   go_wp2_with fail
   go_end0
   exact ⟨rfl,by rw [aa HO];exact (aa HV).rg⟩
structure Pb (w0 w:World) (g off n a b:Nat) (d0 d:Array Int):Prop where
 sz:d.size=n
 rg:Rg w0 w g off d
 bel:Sort.Below Sort.ltInt a b d
 per:Sort.PermIn a b d0 d
theorem Pb.step {w0 w w':World} {g off n a b:Nat} {d0 d d':Array Int} (h:Hid (Pb w0 w g off n a b d0 d)) (hb:b<=n) (hp:Sort.PermIn a b d d') (hr:Hid (Rg w0 w' g off d')):Hid (Pb w0 w' g off n a b d0 d'):=
 ⟨hp.1.trans (aa h).sz,aa hr,(aa h).bel.perm (by rw [(aa h).sz];exact hb) hp,Sort.permIn_trans _ _ _ a b (aa h).per hp⟩
set_option maxRecDepth 1000000 in
set_option maxHeartbeats 8000000 in
theorem ac7:∀ (N:Nat) (w0 w:World) (g off n cap a b limit:Nat) (d:Array Int),b - a<N->d.size=n->n<=1000000000->a<=b->b<=n->limit<=1000->Sort.Below Sort.ltInt a b d->Hid (Rg w0 w g off d) ->
  Calls Tryz.prog 271 #[.slice (some ⟨g,off,none⟩) n cap,.int .i64 a,.int .i64 b,.int .i64 limit] w fun e w'=>e=.returned (.tuple #[])/\Hid (∃ R,Rg w0 w' g off R/\Sort.PermIn a b d R/\Sort.SortedIn Sort.ltInt a b R):=by
 intro N
 induction N with
 | zero=>intro _ _ _ _ _ _ _ _ _ _ h;exact absurd h (Nat.not_lt_zero _)
 | succ N ih=>
  intro w0 w g off n cap a0 b0 limit d hN hsz hn aep hb0 hlimit hBel h
  have IH:=hide ih
  clear ih
  have HF0:Hid (∀ R,Sort.PermIn a0 b0 d R->Sort.SortedIn Sort.ltInt a0 b0 R->Sort.PermIn a0 b0 d R/\Sort.SortedIn Sort.ltInt a0 b0 R):=fun _ h1 h2=>⟨h1,h2⟩
  have HP0:Hid (Pb w0 w g off n a0 b0 d d):=⟨hsz,aa h,hBel,Sort.permIn_refl _ _ _⟩
  clear hsz hBel h
  go_enter Tryz.func271,Tryz.ntmps271
  go_wp2_with fail
  go_loopw [1,2,3,8,9] (fun s1 s2 s3 s8 s9 wr=>∃ (a b lim:Nat) (wb wp:Bool) (d1:Array Int),s1=.int .i64 (a:Int)/\s2=.int .i64 (b:Int)/\s3=.int .i64 (lim:Int)/\s8=.bool wb/\s9=.bool wp/\a<=b/\b<=n/\b - a<=b0 - a0/\lim<=1000/\Hid (Pb w0 wr g off n a b d1 d1) /\
   Hid (∀ R,Sort.PermIn a b d1 R->Sort.SortedIn Sort.ltInt a b R->Sort.PermIn a0 b0 d R/\Sort.SortedIn Sort.ltInt a0 b0 R)) (fun s1 s2 _ _ _ _=>(intOf s2).toNat - (intOf s1).toNat)
  case atStart=>exact ⟨a0,b0,limit,true,true,d,rfl,rfl,rfl,rfl,rfl,aep,hb0,Nat.le_refl _,hlimit,HP0,HF0⟩
  case round=>
   obtain ⟨a,b,lim,wb,wp,d1,rfl,rfl,rfl,rfl,rfl,hab,hb,hlen,hlim,HP,HF⟩:=hrel
   clear HP0 HF0
   by_cases h12:b - a<=12
   ·have hI:(b:Int) - (a:Int)<=12:=by omega
    have HC:=hide (ac5 w0 wr g off n cap a b d1 (aa HP).sz hn hab hb (aa HP).rg)
    go_wp2_with (go_at_call 291;refine (aa HC).mono ?_;rintro e w1 ⟨rfl,HR⟩)
    refine bodyPost_ret (results_none rfl _ _ _) rfl ⟨rfl,?_⟩
    have hh:=Sort.insertionSort_holds Sort.swo_ltInt d1 a b hab (by rw [(aa HP).sz];exact hb)
    exact ⟨_,aa HR,aa HF _ hh.1 hh.2⟩
   ·have hI:¬ (b:Int) - (a:Int)<=12:=by omega
    by_cases hl0:lim=0
    ·subst hl0
     have HC:=hide (abm w0 wr g off n cap a b d1 (aa HP).sz hn hab hb (aa HP).rg)
     go_wp2_with (go_at_call 292;refine (aa HC).mono ?_;rintro e w1 ⟨rfl,HR⟩)
     refine bodyPost_ret (results_none rfl _ _ _) rfl ⟨rfl,?_⟩
     have hh:=Sort.heapSort_holds Sort.swo_ltInt d1 a b hab (by rw [(aa HP).sz];exact hb)
     exact ⟨_,aa HR,aa HF _ hh.1 hh.2⟩
    ·have ae2:¬ (lim:Int)=0:=by omega
     have ac8:a+8<=b:=by omega
     go_upto_if 35 with fail
     go_cut [3] from 19 (fun s3 wc=>∃ (Jt:Nat) (d2:Array Int),s3=.int .i64 (Jt:Int)/\Jt<=1000/\Hid (Pb w0 wc g off n a b d1 d2))
     case first=>
      cases wb with
      | false=>
       have HC:=hide (YO w0 wr g off n cap a b d1 (aa HP).sz hn ac8 hb (aa HP).rg)
       go_wp2_with (go_at_call 293;refine (aa HC).mono ?_;rintro e w1 ⟨rfl,HR⟩)
       go_meet
       case rel=>exact ⟨lim - 1,_,by go_num,by omega,Pb.step HP hb (Sort.breakPatterns_holds d1 a b hab (by rw [(aa HP).sz];exact hb)) HR⟩
      | true=>
       go_wp2_with fail
       go_meet
       case rel=>exact ⟨lim,d1,rfl,hlim,HP⟩
     case rest=>
      obtain ⟨Jt,d2,rfl,Ju,OT⟩:=hcut
      clear HP
      have hpv:=Sort.choosePivot_holds Sort.ltInt d2 a b (by omega)
      have HC:=hide (UU w0 wc g off n cap a b d2 (aa OT).sz hn ac8 hb (aa OT).rg)
      generalize y9 (Sort.choosePivot Sort.ltInt d2 a b).2=hv at HC
      generalize (Sort.choosePivot Sort.ltInt d2 a b).1=pv at HC hpv
      obtain ⟨hp1,hp2⟩:=hpv
      go_upto_if 50 with (go_at_call 294;refine (aa HC).mono ?_;rintro e w2 ⟨rfl,HR2⟩)
      have HP3:=Pb.step OT hb (Sort.permIn_refl d2 a b) HR2
      go_cut [11,12] from 19 (fun s11 s12 wc=>∃ (p:Nat) (hh:Int) (d3:Array Int),s11=.int .i64 (p:Int)/\s12=.int .i64 hh/\a<=p/\p<b/\Hid (Pb w0 wc g off n a b d1 d3))
      case first=>
       have MZ:=hide (ac6 w0 w2 g off n cap a b d2 (aa HP3).sz hn (by omega) hb (aa HP3).rg)
       go_wp2_with (go_at_call 295;refine (aa MZ).mono ?_;rintro e w3 ⟨rfl,HR3⟩)
       ·go_meet
        case rel=>exact ⟨b - 1 - (pv - a),1,_,by go_num,rfl,by omega,by omega,Pb.step HP3 hb (Sort.reverseRange_holds d2 a b hab (by rw [(aa HP3).sz];exact hb)) HR3⟩
       ·go_meet
        case rel=>exact ⟨pv,hv,d2,rfl,rfl,hp1,hp2,HP3⟩
      case rest=>
       obtain ⟨p,hh,d3,rfl,rfl,hap,hpb,HP4⟩:=hcut
       clear HP3 OT HR2 HC
       go_upto_region 15 with fail
       go_cut [12,68] from 19 (fun s12 s68 wx=>∃ (h2:Int) (c:Bool),s12=.int .i64 h2/\s68=.bool c/\wx=wc)
       case first=>
        cases wb<;>cases wp<;>by_cases hh1:hh=1 <;>
         (go_wp2_with fail;go_meet;exact ⟨_,_,rfl,rfl,rfl⟩)
       case rest=>
        obtain ⟨h2,c,rfl,rfl,rfl⟩:=hcut
        go_upto_if 68 with fail
        go_cut [] from 19 (fun wx=>∃ d4,Hid (Pb w0 wx g off n a b d1 d4))
        case first=>
         have hpi:=Sort.partialInsertionSort_holds Sort.swo_ltInt d3 a b (by omega) (by rw [(aa HP4).sz];exact hb) (aa HP4).bel
         have HC:=hide (abp w0 wc g off n cap a b d3 (aa HP4).sz hn (by omega) hb (aa HP4).rg)
         obtain ⟨x,hx⟩:∃ x,Sort.partialInsertionSort Sort.ltInt d3 a b=x:=⟨_,rfl⟩
         rw [hx] at hpi HC
         clear hx
         obtain ⟨dx,bx⟩:=x
         have HI:=hide hpi
         clear hpi
         cases c with
         | false=>
          go_wp2_with fail
          go_meet
          case rel=>exact ⟨d3,HP4⟩
         | true=>
          cases bx with
          | false=>
           go_wp2_with (go_at_call 296;refine (aa HC).mono ?_;rintro e w4 ⟨rfl,HR4⟩)
           go_meet
           case rel=>exact ⟨dx,Pb.step HP4 hb (aa HI).1 HR4⟩
          | true=>
           go_wp2_with (go_at_call 296;refine (aa HC).mono ?_;rintro e w4 ⟨rfl,HR4⟩)
           refine bodyPost_ret (results_none rfl _ _ _) rfl ⟨rfl,?_⟩
           exact ⟨dx,aa HR4,aa HF _ (Sort.permIn_trans _ _ _ a b (aa HP4).per (aa HI).1) ((aa HI).2 trivial)⟩
        case rest=>
         obtain ⟨d4,HP5⟩:=hcut
         clear HP4
         have xE:Hid (d4.size=n):=(aa HP5).sz
         obtain ⟨G,HG,hc,hf⟩:=(aa HP5).rg.pJ (aa xE)
         go_upto_region 17 with fail
         go_cut [87] from 19 (fun s87 wx=>∃ c:Bool,s87=.bool c/\Hid (c=true->0<a/\Sort.ltInt d4[a - 1]! d4[p]! = false)/\Hid (Pb w0 wx g off n a b d1 d4))
         case first=>
          rcases Nat.eq_zero_or_pos a with ha0 | ha0
          ·have hI0:decide ((a:Int) > 0)=false:=decide_eq_false (by omega)
           go_quiet (fail)
           go_wp2_with fail
           go_meet
           case rel=>exact ⟨false,rfl,hide (fun e=>by cases e),Pb.step HP5 hb (Sort.permIn_refl d4 a b) (Rg.aS (aa HP5).rg nq)⟩
          ·have hI0:(a:Int) > 0:=by omega
           go_quiet ((go_at_call 221;exact Calls.quiet_of_same (eB _ _ _)))
           go_wp2_with fail
           go_meet
           case rel=>exact ⟨_,rfl,hide (fun e=>⟨ha0,by rw [<-aa HG,<-aa HG];simpa using e⟩),Pb.step HP5 hb (Sort.permIn_refl d4 a b) (Rg.aS (aa HP5).rg nq)⟩
         case rest=>
          obtain ⟨c2,rfl,xD,Rt⟩:=hcut
          clear HP5 hc hf HG
          cases c2 with
          | true=>
           obtain ⟨ha0,hle⟩:=aa xD rfl
           have HC:=hide (UW w0 wc g off n cap a b p d4 (aa Rt).sz hn hap hpb hb (aa Rt).rg)
           obtain ⟨x,hx⟩:∃ x,Sort.partitionEqual Sort.ltInt d4 a b p=x:=⟨_,rfl⟩
           rw [hx] at HC
           obtain ⟨mid,d5⟩:=x
           obtain ⟨hm1,hm2,hm3,hm4,hm5⟩:=Sort.round_eq Sort.swo_ltInt (Sort.partitionEqual_holds Sort.ltInt) ha0 hap hpb (by rw [(aa Rt).sz];exact hb) (aa Rt).bel hle hx
           have HM:=hide hm5
           have kz:=hide hm4
           have HZ5:Hid (d5.size=n):=hm3.trans (aa Rt).sz
           clear hx hm5 hm4 hm3 hle xD
           go_wp2_with (go_at_call 297;refine (aa HC).mono ?_;rintro e w7 ⟨rfl,BV⟩)
           go_roundw
           case rel=>
            exact ⟨mid,b,Jt,wb,wp,d5,rfl,rfl,rfl,rfl,rfl,hm2,hb,by omega,Ju,⟨aa HZ5,aa BV,aa kz,Sort.permIn_refl _ _ _⟩,hide (fun R h1 h2=>aa HF R (Sort.permIn_trans _ _ _ a b (aa Rt).per (aa HM R h1 h2).1) (aa HM R h1 h2).2)⟩
           case measure=>simp [intOf];omega
          | false=>
           have HC:=hide (abo w0 wc g off n cap a b p d4 (aa Rt).sz hn hap hpb hb (aa Rt).rg)
           obtain ⟨x,hx⟩:∃ x,Sort.partition Sort.ltInt d4 a b p=x:=⟨_,rfl⟩
           rw [hx] at HC
           obtain ⟨mid,ap,d5⟩:=x
           obtain ⟨hm1,hm2,hm3,hm4,hm5,hm6,hm7⟩:=Sort.round_part Sort.swo_ltInt (Sort.partition_holds Sort.ltInt) hap hpb (by rw [(aa Rt).sz];exact hb) (aa Rt).bel hx
           have HZ5:Hid (d5.size=n):=hm3.trans (aa Rt).sz
           have HL:=hide hm4
           have HRt:=hide hm5
           have H6:=hide hm6
           have H7:=hide hm7
           clear hx hm7 hm6 hm5 hm4 hm3 xD
           by_cases hlr:mid - a<b - mid
           ·have hI2:(mid:Int) - (a:Int)<(b:Int) - (mid:Int):=by omega
            go_wp2_with (first
             | (go_at_call 298;refine (aa HC).mono ?_;rintro e w7 ⟨rfl,BV⟩)
             | (go_at_call 271;refine (aa IH w0 _ g off n cap a mid Jt d5 (by omega) (aa HZ5) hn hm1 (by omega) Ju (aa HL) BV).mono ?_;rintro e w8 ⟨rfl,Hr⟩))
            go_roundw
            case rel=>
             obtain ⟨d6,hr6,hp6,hs6⟩:=aa Hr
             obtain ⟨hb6,hf6⟩:=aa H6 d6 hp6 hs6
             exact ⟨mid+1,b,Jt,_,_,d6,by go_num,rfl,rfl,rfl,rfl,by omega,hb,by omega,Ju,⟨hp6.1.trans (aa HZ5),hr6,hb6,Sort.permIn_refl _ _ _⟩,hide (fun R h1 h2=>aa HF R (Sort.permIn_trans _ _ _ a b (aa Rt).per (hf6 R h1 h2).1) (hf6 R h1 h2).2)⟩
            case measure=>simp [intOf];omega
           ·have hI2:¬ (mid:Int) - (a:Int)<(b:Int) - (mid:Int):=by omega
            go_wp2_with (first
             | (go_at_call 298;refine (aa HC).mono ?_;rintro e w7 ⟨rfl,BV⟩)
             | (go_at_call 271;refine (aa IH w0 _ g off n cap (mid+1) b Jt d5 (by omega) (aa HZ5) hn (by omega) hb Ju (aa HRt) BV).mono ?_;rintro e w8 ⟨rfl,Hr⟩))
            go_roundw
            case rel=>
             obtain ⟨d6,hr6,hp6,hs6⟩:=aa Hr
             obtain ⟨hb6,hf6⟩:=aa H7 d6 hp6 hs6
             exact ⟨a,mid,Jt,_,_,d6,rfl,rfl,rfl,rfl,rfl,hm1,by omega,by omega,Ju,⟨hp6.1.trans (aa HZ5),hr6,hb6,Sort.permIn_refl _ _ _⟩,hide (fun R h1 h2=>aa HF R (Sort.permIn_trans _ _ _ a b (aa Rt).per (hf6 R h1 h2).1) (hf6 R h1 h2).2)⟩
            case measure=>simp [intOf];omega
def ji (l:List Int):List Int:=l.mergeSort (fun x y=>!Sort.ltInt y x)
set_option maxRecDepth 100000 in
set_option maxHeartbeats 4000000 in
theorem YP (w0 w:World) (g off n cap:Nat) (d:Array Int) (hsz:d.size=n) (hN:n<=1000000000) (h:Hid (Rg w0 w g off d)) :
  Calls Tryz.prog 239 #[.slice (some ⟨g,off,none⟩) n cap] w fun e w'=>e=.returned (.tuple #[])/\Hid (Rg w0 w' g off (ji d.toList).toArray):=by
 have hbl:Sort.bitsLen n<=62:=(Sort.bitsLen_le_iff _ _).2 (by omega)
 have HL:Hid (Calls Tryz.prog 230 #[.int .u64 (n:Int)] w fun e w'=>e=.returned (.int .i64 ((Sort.bitsLen n:Nat):Int))/\w'=w):=by
  have:=Tryz.bits_Len (n:Int) w (by omega) (by omega)
  rw [Int.toNat_natCast,bitLen_eq _ (by omega)] at this
  exact hide this
 have HP:=hide (ac7 (n+1) w0 w g off n cap 0 n (Sort.bitsLen n) d (by omega) hsz hN (Nat.zero_le _) (Nat.le_refl _) (by omega) (Or.inl rfl) h)
 have HU:Hid (∀ R,Sort.PermIn 0 n d R->Sort.SortedIn Sort.ltInt 0 n R->R=(ji d.toList).toArray):=fun R h1 h2=>by
  rw [<-hsz] at h1 h2
  have:=Sort.sorted_unique_holds (lt:=Sort.ltInt) Sort.swo_ltInt (fun x y hx hy=>by simp [Sort.ltInt] at hx hy;omega) d R h1 h2
  unfold ji
  rw [<-this]
 have hw:IntKind.u64.wrap (n:Int)=(n:Int):=by simp [IntKind.wrap,IntKind.bits,IntKind.signed];omega
 clear h hsz
 go_enter Tryz.func239,Tryz.ntmps239
 go_wp2_with (first
  | (go_at_call 230;refine (aa HL).mono ?_;rintro e w1 ⟨rfl,rfl⟩)
  | (go_at_call 271;refine (aa HP).mono ?_;rintro e w1 ⟨rfl,HR⟩))
 go_end0
 obtain ⟨R,h1,h2,h3⟩:=aa HR
 exact ⟨rfl,by rw [<-aa HU R h2 h3];exact h1⟩
theorem take_putCells (d:Array Int) (cur:Array Value) (h:d.size<=cur.size):(Sort.putCells encR 0 d cur).toList.take d.size=runeCells d.toList:=by
 apply List.ext_getElem?
 intro k
 by_cases hk:k<d.size
 ·rw [List.getElem?_take_of_lt hk,Array.getElem?_toList]
  unfold Sort.putCells runeCells
  rw [Array.getElem?_mapIdx,Array.getElem?_eq_getElem (show k<cur.size by omega),List.getElem?_map,Array.getElem?_toList,Array.getElem?_eq_getElem hk]
  simp [hk]
 ·rw [List.getElem?_take_eq_none (by omega)]
  unfold runeCells
  rw [List.getElem?_eq_none (by simp;omega)]
theorem ES {w:World} {g n cap:Nat} {l:List Int} (hl:l.length=n) (h:w.ownsRow 0 21 1 (.slice (some ⟨g,0,none⟩) n cap) n (runeCells l)):Sort.Holds encR w g 0 l.toArray:=by
 intro j hj
 have hj2:j<n:=by simpa [hl] using hj
 obtain ⟨ao,cap',e,hh⟩:=aN h
 injection e with e1 e2 e3
 obtain ⟨g',e4,_,_,hc,hf⟩:=hh (by omega)
 rw [e4] at e1
 injection e1 with e1
 injection e1 with e1
 subst e1
 rw [Nat.zero_add]
 refine ⟨?_,hf j⟩
 rw [hc j (by omega)]
 simp [runeCells,List.getElem?_eq_getElem (show j<l.length by omega)]
theorem Jv (w:World) (g n cap:Nat) (l:List Int) (hl:l.length=n) (h0:0<n) (hN:n<=1000000000) (h:Hid (w.ownsRow 0 21 1 (.slice (some ⟨g,0,none⟩) n cap) n (runeCells l))) :
  Calls Tryz.prog 239 #[.slice (some ⟨g,0,none⟩) n cap] w fun e w'=>e=.returned (.tuple #[])/\Hid (w'.ownsRow 0 21 1 (.slice (some ⟨g,0,none⟩) n cap) n (runeCells (ji l))/\w.grownBy w' (some g)):=by
 have hH:=ES hl (aa h)
 have hg:g<w.heap.size:=by
  obtain ⟨ao,cap',e,hh⟩:=aN (aa h)
  injection e with e1 e2 e3
  obtain ⟨g',e4,_,hlt,_,_⟩:=hh h0
  rw [e4] at e1
  injection e1 with e1
  injection e1 with e1
  subst e1
  exact hlt
 refine (YP w w g 0 n cap l.toArray (by simpa using hl) hN (Rg.start hg hH)).mono ?_
 rintro e w' ⟨rfl,HR⟩
 refine ⟨rfl,?_⟩
 obtain ⟨_,d0,m,os,hd0,hsz,rfl⟩:=aa HR
 have hsl:(ji l).length=n:=by unfold ji;rw [List.length_mergeSort];exact hl
 obtain ⟨hlen,⟨hv,_⟩ | ⟨g',cap',cur,hv,hb,hgr,hn',hm,hs,ht⟩⟩:=aa h
 ·cases hv
 ·injection hv with e1 e2 e3
  injection e1 with e1
  injection e1 with e1
  subst e1
  subst e3
  refine ⟨⟨by simpa [runeCells] using hsl,.inr ⟨g,cap,Sort.putCells encR 0 (ji l).toArray cur,rfl,hb,?_,hn',hm,?_,?_⟩⟩,?_⟩
  ·rw [Sort.heap_grow_old _ _ (by simpa using hg)]
   show (w.heap.modify g _)[g]? = _
   rw [Array.getElem?_modify,if_pos rfl,hgr]
   rfl
  ·simpa [Sort.putCells] using hs
  ·have hcs:(ji l).toArray.size<=cur.size:=by
    have:=congrArg List.length ht
    simp [runeCells] at this
    simp [hsl]
    omega
   have:=take_putCells (ji l).toArray cur hcs
   simp only [List.size_toArray,hsl] at this
   simpa using this
  ·refine ⟨rfl,rfl,rfl,by simp,fun k hk hne=>?_⟩
   rw [Sort.heap_grow_old _ _ (by simpa using hk)]
   show (w.heap.modify g _)[k]? = _
   rw [Array.getElem?_modify,if_neg (fun e=>hne (by rw [e]))]
end Go.Proofs.YtfolanohokflkaaGreatDoor
