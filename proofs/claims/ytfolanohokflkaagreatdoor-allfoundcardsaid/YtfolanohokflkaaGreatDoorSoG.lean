import Derived.Test.YtfolanohokflkaaGreatDoorBsA
import Derived.CellFam
import Derived.Sort.LotD3
import Derived.Sort.LotD4
import Derived.Sort.Grow
import Derived.Sort.WalkA
import Derived.Sort.WalkB3
namespace Go.Proofs.YtfolanohokflkaaGreatDoor
open Go.RowKit
abbrev encR:Int->Value:=Value.int .i32
structure Rg (w0 w:World) (g off:Nat) (d:Array Int):Prop where
 blk:g<w0.heap.size
 ex:∃ (d0:Array Int) (m:Nat) (os:Array Obj),Sort.Holds encR w0 g off d0/\d.size=d0.size/\w=Sort.grow (Sort.putRow encR (Sort.ahead w0 m) g off d) os
theorem Rg.start {w:World} {g off:Nat} {d:Array Int} (hg:g<w.heap.size) (h:Sort.Holds encR w g off d):Rg w w g off d:=
 ⟨hg,d,0,#[],h,rfl,by rw [Sort.grow_empty];exact (Sort.putRow_self encR w g off d h).symm⟩
theorem Rg.cell {w0 w:World} {g off:Nat} {d:Array Int} (h:Rg w0 w g off d) {t:Nat} (ht:t<d.size):w.cell? ⟨g,off+t,none⟩=some (encR d[t]!):=by
 obtain ⟨hb,d0,m,os,hh,hs,rfl⟩:=h
 rw [Sort.cell?_grow _ _ _ (by simpa using hb)]
 exact Sort.cell?_putRow encR _ g off d0 d hh hs t ht
theorem Rg.ac4 {w0 w:World} {g off:Nat} {d:Array Int} (h:Rg w0 w g off d) {t:Nat} (ht:t<d.size):w.frozen? ⟨g,off+t,none⟩=false:=by
 obtain ⟨hb,d0,m,os,hh,hs,rfl⟩:=h
 rw [Sort.frozen?_grow _ _ _ (by simpa using hb),Sort.putRow,Sort.frozen?_mapBlock]
 exact (hh t (by omega)).2
theorem Rg.drew {w0 w:World} {g off:Nat} {d:Array Int} (h:Rg w0 w g off d) (q:Nat):Rg w0 (w.drewN q) g off d:=by
 obtain ⟨hb,d0,m,os,hh,hs,rfl⟩:=h
 exact ⟨hb,d0,m+q,os,hh,hs,by show Sort.ahead _ q=_;rw [Sort.ahead_grow,Sort.putRow_ahead,Sort.ahead_ahead,<-Sort.putRow_ahead]⟩
theorem Rg.swap {w0 w:World} {g off:Nat} {d:Array Int} (h:Rg w0 w g off d) {i j:Nat} (hi:i<d.size) (hj:j<d.size) :
  Rg w0 ((w.setCell ⟨g,off+i,none⟩ (encR d[j]!)).setCell ⟨g,off+j,none⟩ (encR d[i]!)) g off (Sort.swp d i j):=by
 obtain ⟨hb,d0,m,os,hh,hs,rfl⟩:=h
 refine ⟨hb,d0,m,os,hh,by rw [Sort.size_swp,hs],?_⟩
 rw [Sort.setCell_eq,Sort.setCell_eq,Sort.mapBlock_grow _ _ _ _ (by simpa using hb),Sort.mapBlock_grow _ _ _ _ (by simpa [Sort.mapBlock] using hb),<-Sort.setCell_eq,<-Sort.setCell_eq,Sort.putRow_swp encR _ g off d i j hi hj]
theorem Rg.alloc {w0 w:World} {g off:Nat} {d:Array Int} (h:Rg w0 w g off d) (o:Obj):Rg w0 (w.alloc o) g off d:=by
 obtain ⟨hb,d0,m,os,hh,hs,rfl⟩:=h
 exact ⟨hb,d0,m,os++#[o],hh,hs,by rw [Sort.alloc_eq_grow,Sort.grow_grow]⟩
theorem Rg.size {w0 w:World} {g off:Nat} {d:Array Int} (h:Rg w0 w g off d):w0.heap.size<=w.heap.size:=by
 obtain ⟨hb,d0,m,os,hh,hs,rfl⟩:=h
 simp
theorem Rg.mr {w0 w:World} {g off:Nat} {d:Array Int} (h:Rg w0 w g off d) {k o:Nat} (hk:w0.heap.size<=k) (v:Value):Rg w0 (w.setCell ⟨k,o,none⟩ v) g off d:=by
 obtain ⟨hb,d0,m,os,hh,hs,rfl⟩:=h
 exact ⟨hb,d0,m,_,hh,hs,by rw [Sort.setCell_eq,Sort.mapBlock_grow_new _ _ _ _ (by simpa using hk)]⟩
theorem Rg.pJ {w0 w:World} {g off n:Nat} {d:Array Int} (h:Rg w0 w g off d) (hn:d.size=n) :
  ∃ G:Nat->Int,Hid (∀ t,G t=d[t]!)/\(∀ t,t<n->w.cell? ⟨g,off+t,none⟩=some (.int .i32 (G t)))/\(∀ t,t<n->w.frozen? ⟨g,off+t,none⟩=false):=
 ⟨fun t=>d[t]!,fun _=>rfl,fun _ ht=>h.cell (by omega),fun _ ht=>h.ac4 (by omega)⟩
theorem Rg.eH {w0 w:World} {g off n:Nat} {d:Array Int} (h:Hid (Rg w0 w g off d)) (hn:Hid (d.size=n)) {G:Nat->Int} (HG:Hid (∀ t,G t=d[t]!)) {i j:Nat} (hi:i<n) (hj:j<n) :
  Hid (Rg w0 ((w.setCell ⟨g,off+i,none⟩ (.int .i32 (G j))).setCell ⟨g,off+j,none⟩ (.int .i32 (G i))) g off (Sort.swp d i j)):=by
 rw [aa HG,aa HG]
 exact (aa h).swap (by rw [aa hn];exact hi) (by rw [aa hn];exact hj)
theorem Rg.rT {w0 w:World} {g off n:Nat} {d:Array Int} (h:Hid (Rg w0 w g off d)) (hn:Hid (d.size=n)) {G:Nat->Int} (HG:Hid (∀ t,G t=d[t]!)):∀ t,t<n->w.cell? ⟨g,off+t,none⟩=some (.int .i32 (G t)):=
 fun t ht=>by rw [aa HG];exact (aa h).cell (by rw [aa hn];exact ht)
theorem Rg.rU {w0 w:World} {g off n:Nat} {d:Array Int} (h:Hid (Rg w0 w g off d)) (hn:Hid (d.size=n)):∀ t,t<n->w.frozen? ⟨g,off+t,none⟩=false:=
 fun t ht=>(aa h).ac4 (by rw [aa hn];exact ht)
theorem f_ {d:Array Int} {n i j:Nat} (hn:Hid (d.size=n)):Hid ((Sort.swp d i j).size=n):=by rw [Sort.size_swp];exact hn
theorem Rg.aS {w0 w:World} {g off:Nat} {d:Array Int} (h:Hid (Rg w0 w g off d)) (q:Nat):Hid (Rg w0 (w.drewN q) g off d):=(aa h).drew q
theorem eB (x y:Int) (w:World):Calls Tryz.prog 221 #[.int .i32 x,.int .i32 y] w fun e w'=>e=.returned (.bool (Sort.ltInt x y))/\w'=w:=
 (x9 x y w).mono fun _ _ hh=>⟨hh.1,hh.2.symm⟩
set_option maxRecDepth 100000 in
set_option maxHeartbeats 4000000 in
theorem ac5 (w0 w:World) (g off n cap a b:Nat) (d:Array Int) (hn:d.size=n) (hN:n<=1000000000) (hab:a<=b) (hb:b<=n) (h:Hid (Rg w0 w g off d)) :
  Calls Tryz.prog 291 #[.slice (some ⟨g,off,none⟩) n cap,.int .i64 a,.int .i64 b] w fun e w'=>e=.returned (.tuple #[])/\Hid (Rg w0 w' g off (Sort.insertionSort Sort.ltInt d a b)):=by
 have HS:Hid (d.size=n):=hn
 clear hn
 go_enter Tryz.func291,Tryz.ntmps291
 go_wp2_with fail
 go_loopw [6] (fun v wr=>∃ (i:Nat) (d1:Array Int),v=.int .i64 (i:Int)/\a<i/\i<=b+1/\Hid (d1.size=n)/\Hid (Rg w0 wr g off d1)/\Hid (Sort.insOuter Sort.ltInt a b i d1=Sort.insertionSort Sort.ltInt d a b)) (fun v _=>b+1 - (intOf v).toNat)
 case atStart=>exact ⟨a+1,d,by go_num,by omega,by omega,HS,h,hide rfl⟩
 case round=>
  obtain ⟨i,d1,rfl,hai,hib,eO,HR,HO⟩:=hrel
  by_cases hlt:i<b
  ·have hI:(i:Int)<(b:Int):=by omega
   go_wp2_with fail
   go_loopw [7] (fun v wr=>∃ (j:Nat) (d2:Array Int),v=.int .i64 (j:Int)/\a<=j/\j<=i/\Hid (d2.size=n)/\Hid (Rg w0 wr g off d2)/\Hid (Sort.insInner Sort.ltInt a j d2=Sort.insInner Sort.ltInt a i d1)) (fun v _=>(intOf v).toNat)
   case atStart=>exact ⟨i,d1,rfl,by omega,Nat.le_refl _,eO,HR,hide rfl⟩
   case round=>
    obtain ⟨j,d2,rfl,haj,hji,HS2,HR2,HI⟩:=hrel
    clear HR
    obtain ⟨G,HG,hc,hf⟩:=(aa HR2).pJ (aa HS2)
    have OUT:Hid (j<=a\/Sort.ltInt d2[j]! d2[j - 1]! = false->Sort.insOuter Sort.ltInt a b (i+1) d2=Sort.insertionSort Sort.ltInt d a b):=fun hs=>by
     rw [<-aa HO,insOuter_go _ _ _ _ _ hlt,<-aa HI,insInner_stop _ _ _ _ hs]
    by_cases hja:a<j
    ·cases hl:Sort.ltInt (G j) (G (j - 1)) with
     | true=>
      go_wp2_with fail
      go_quiet ((go_at_call 221;exact Calls.quiet_of_same (eB _ _ _)))
      have HR3:=Rg.aS HR2 nq
      clear HR2 hc hf
      generalize wr.drewN nq=wq at *
      have hc:=Rg.rT HR3 HS2 HG
      have hf:=Rg.rU HR3 HS2
      go_wp2_with fail
      go_region
      go_wp2_with fail
      go_roundw
      case rel=>
       refine ⟨j - 1,Sort.swp d2 j (j - 1),by go_num,by omega,by omega,f_ HS2,Rg.aS (Rg.eH HR3 HS2 HG (by omega) (by omega)) 1,hide ?_⟩
       rw [<-aa HI,insInner_go Sort.ltInt a j d2 hja (by rw [<-aa HG,<-aa HG];exact hl)]
      case measure=>simp [intOf];omega
     | false=>
      go_wp2_with fail
      go_quiet ((go_at_call 221;exact Calls.quiet_of_same (eB _ _ _)))
      have HR3:=Rg.aS HR2 nq
      go_wp2_with fail
      go_roundw
      case rel=>exact ⟨i+1,d2,by go_num,by omega,by omega,HS2,HR3,hide (aa OUT (.inr (by rw [<-aa HG,<-aa HG];exact hl)))⟩
      case measure=>simp [intOf];omega
    ·go_wp2_with fail
     go_quiet (fail)
     have HR3:=Rg.aS HR2 nq
     go_wp2_with fail
     go_roundw
     case rel=>exact ⟨i+1,d2,by go_num,by omega,by omega,HS2,HR3,hide (aa OUT (.inl (by omega)))⟩
     case measure=>simp [intOf];omega
  ·have hI:¬ (i:Int)<(b:Int):=by omega
   go_wp2_with fail
   go_end0
   exact ⟨rfl,by rw [<-aa HO,insOuter_stop _ _ _ _ _ hlt];exact HR⟩
set_option maxRecDepth 100000 in
set_option maxHeartbeats 4000000 in
theorem MU (w0 w:World) (g off n cap lo hi first:Nat) (d:Array Int) (hn:d.size=n) (hN:n<=1000000000) (hlo:lo<=hi) (hb:first+hi<=n) (h:Hid (Rg w0 w g off d)) :
  Calls Tryz.prog 317 #[.slice (some ⟨g,off,none⟩) n cap,.int .i64 lo,.int .i64 hi,.int .i64 first] w fun e w'=>e=.returned (.tuple #[])/\Hid (Rg w0 w' g off (Sort.siftDown Sort.ltInt hi first lo d)):=by
 have HS:Hid (d.size=n):=hn
 clear hn
 go_enter Tryz.func317,Tryz.ntmps317
 go_wp2_with fail
 go_loopw [8] (fun v wr=>∃ (i:Nat) (d1:Array Int),v=.int .i64 (i:Int)/\i<=hi/\Hid (d1.size=n)/\Hid (Rg w0 wr g off d1)/\Hid (Sort.siftDown Sort.ltInt hi first i d1=Sort.siftDown Sort.ltInt hi first lo d)) (fun v _=>hi - (intOf v).toNat)
 case atStart=>exact ⟨lo,d,rfl,by omega,HS,h,hide rfl⟩
 case round=>
  obtain ⟨i,d1,rfl,hih,eO,HR,HO⟩:=hrel
  obtain ⟨G,HG,hc,hf⟩:=(aa HR).pJ (aa eO)
  by_cases h1:2*i+1<hi
  ·have hI:¬ ((hi:Int)<=2*(i:Int)+1):=by omega
   by_cases h2:2*i+2<hi
   ·have hJ:2*(i:Int)+1+1<(hi:Int):=by omega
    go_wp2_with fail
    go_quiet ((go_at_call 221;exact Calls.quiet_of_same (eB _ _ _)))
    have HR2:=Rg.aS HR nq
    clear HR hc hf
    generalize wr.drewN nq=wq at *
    have hc:=Rg.rT HR2 eO HG
    have hf:=Rg.rU HR2 eO
    go_wp2_with fail
    ·have hl:Sort.ltInt (G (first+2*i+1)) (G (first+2*i+2))=true:=by assumption
     rw [aa HG,aa HG] at hl
     go_quiet ((go_at_call 221;exact Calls.quiet_of_same (eB _ _ _)))
     have HR3:=Rg.aS HR2 nq
     clear HR2 hc hf
     generalize wq.drewN nq=wp at *
     have hc:=Rg.rT HR3 eO HG
     have hf:=Rg.rU HR3 eO
     go_wp2_with fail
     ·have hs:Sort.ltInt (G (first+i)) (G (first+2*i+2))=false:=by
       have hs:(!Sort.ltInt (G (first+i)) (G (first+2*i+2)))=true:=by assumption
       simpa using hs
      refine bodyPost_ret (results_none rfl _ _ _) rfl ⟨rfl,?_⟩
      rw [aa HG,aa HG] at hs
      rw [<-aa HO,Sort.sd_right_stop Sort.ltInt d1 h2 hl hs]
      exact HR3
     ·have hs:Sort.ltInt (G (first+i)) (G (first+2*i+2))=true:=by
       have hs:(!Sort.ltInt (G (first+i)) (G (first+2*i+2)))=false:=by assumption
       simpa using hs
      go_region
      go_wp2_with fail
      go_roundw
      case rel=>
       refine ⟨2*i+2,Sort.swp d1 (first+i) (first+(2*i+2)),by go_num,by omega,f_ eO,Rg.aS (Rg.eH HR3 eO HG (by omega) (by omega)) 1,hide ?_⟩
       rw [aa HG,aa HG] at hs
       rw [<-aa HO,Sort.sd_right_go Sort.ltInt d1 h2 hl hs]
      case measure=>simp [intOf];omega
    ·have hl:Sort.ltInt (G (first+2*i+1)) (G (first+2*i+2))=false:=by assumption
     rw [aa HG,aa HG] at hl
     go_quiet ((go_at_call 221;exact Calls.quiet_of_same (eB _ _ _)))
     have HR3:=Rg.aS HR2 nq
     clear HR2 hc hf
     generalize wq.drewN nq=wp at *
     have hc:=Rg.rT HR3 eO HG
     have hf:=Rg.rU HR3 eO
     go_wp2_with fail
     ·have hs:Sort.ltInt (G (first+i)) (G (first+2*i+1))=false:=by
       have hs:(!Sort.ltInt (G (first+i)) (G (first+2*i+1)))=true:=by assumption
       simpa using hs
      refine bodyPost_ret (results_none rfl _ _ _) rfl ⟨rfl,?_⟩
      rw [aa HG,aa HG] at hs
      rw [<-aa HO,Sort.sd_left_stop Sort.ltInt d1 h1 (fun _=>hl) hs]
      exact HR3
     ·have hs:Sort.ltInt (G (first+i)) (G (first+2*i+1))=true:=by
       have hs:(!Sort.ltInt (G (first+i)) (G (first+2*i+1)))=false:=by assumption
       simpa using hs
      go_region
      go_wp2_with fail
      go_roundw
      case rel=>
       refine ⟨2*i+1,Sort.swp d1 (first+i) (first+(2*i+1)),by go_num,by omega,f_ eO,Rg.aS (Rg.eH HR3 eO HG (by omega) (by omega)) 1,hide ?_⟩
       rw [aa HG,aa HG] at hs
       rw [<-aa HO,Sort.sd_left_go Sort.ltInt d1 h1 (fun _=>hl) hs]
      case measure=>simp [intOf];omega
   ·have hJ:decide (2*(i:Int)+1+1<(hi:Int))=false:=decide_eq_false (by omega)
    have hw:IntKind.i64.wrap (2*(i:Int)+1+1)=2*(i:Int)+1+1:=by simp [IntKind.wrap,IntKind.bits,IntKind.signed];omega
    go_wp2_with fail
    go_quiet (fail)
    have HR2:=Rg.aS HR nq
    clear HR hc hf
    generalize wr.drewN nq=wq at *
    have hc:=Rg.rT HR2 eO HG
    have hf:=Rg.rU HR2 eO
    go_wp2_with fail
    go_quiet ((go_at_call 221;exact Calls.quiet_of_same (eB _ _ _)))
    have HR3:=Rg.aS HR2 nq
    clear HR2 hc hf
    generalize wq.drewN nq=wp at *
    have hc:=Rg.rT HR3 eO HG
    have hf:=Rg.rU HR3 eO
    go_wp2_with fail
    ·have hs:Sort.ltInt (G (first+i)) (G (first+2*i+1))=false:=by
      have hs:(!Sort.ltInt (G (first+i)) (G (first+2*i+1)))=true:=by assumption
      simpa using hs
     refine bodyPost_ret (results_none rfl _ _ _) rfl ⟨rfl,?_⟩
     rw [aa HG,aa HG] at hs
     rw [<-aa HO,Sort.sd_left_stop Sort.ltInt d1 h1 (fun hh=>absurd hh h2) hs]
     exact HR3
    ·have hs:Sort.ltInt (G (first+i)) (G (first+2*i+1))=true:=by
      have hs:(!Sort.ltInt (G (first+i)) (G (first+2*i+1)))=false:=by assumption
      simpa using hs
     go_region
     go_wp2_with fail
     go_roundw
     case rel=>
      refine ⟨2*i+1,Sort.swp d1 (first+i) (first+(2*i+1)),by go_num,by omega,f_ eO,Rg.aS (Rg.eH HR3 eO HG (by omega) (by omega)) 1,hide ?_⟩
      rw [aa HG,aa HG] at hs
      rw [<-aa HO,Sort.sd_left_go Sort.ltInt d1 h1 (fun hh=>absurd hh h2) hs]
     case measure=>simp [intOf];omega
  ·have hI:(hi:Int)<=2*(i:Int)+1:=by omega
   go_wp2_with fail
   go_end0
   exact ⟨rfl,by rw [<-aa HO,Sort.sd_end Sort.ltInt d1 (by omega)];exact HR⟩
theorem MV {d:Array Int} {n hi first lo:Nat} (hn:Hid (d.size=n)):Hid ((Sort.siftDown Sort.ltInt hi first lo d).size=n):=by
 rw [Sort.size_siftDown Sort.ltInt hi first _ lo d (Nat.le_refl _)]
 exact hn
set_option maxRecDepth 100000 in
set_option maxHeartbeats 4000000 in
theorem abm (w0 w:World) (g off n cap a b:Nat) (d:Array Int) (hn:d.size=n) (hN:n<=1000000000) (hab:a<=b) (hb:b<=n) (h:Hid (Rg w0 w g off d)) :
  Calls Tryz.prog 292 #[.slice (some ⟨g,off,none⟩) n cap,.int .i64 a,.int .i64 b] w fun e w'=>e=.returned (.tuple #[])/\Hid (Rg w0 w' g off (Sort.heapSort Sort.ltInt d a b)):=by
 have HS:Hid (d.size=n):=hn
 clear hn
 obtain ⟨L,hL⟩:∃ L:Nat,L=b - a:=⟨b - a,rfl⟩
 have HH:Hid (Sort.heapSort Sort.ltInt d a b=Sort.heapPop Sort.ltInt a L (Sort.heapBuild Sort.ltInt L a ((L - 1) / 2+1) d)):=by
  unfold Sort.heapSort
  rw [hL]
  exact hide rfl
 have h0:(b:Int) - (a:Int)=(L:Int):=by omega
 obtain ⟨M,hM⟩:∃ M:Nat,M=(L - 1) / 2+1:=⟨_,rfl⟩
 have h1:((L:Int) - 1).tdiv 2=(M:Int) - 1:=by
  have:=half_start (a:=0) (b:=L) (by omega)
  rw [hM]
  simpa using this
 rw [<-hM] at HH
 have hML:M<=L+1:=by omega
 have hL1:a+L<=n:=by omega
 clear hM hL
 go_enter Tryz.func292,Tryz.ntmps292
 go_wp2_with fail
 go_loopw [9] (fun v wr=>∃ (k:Nat) (d1:Array Int),v=.int .i64 ((k:Int) - 1)/\k<=M/\Hid (d1.size=n)/\Hid (Rg w0 wr g off d1)/\Hid (Sort.heapBuild Sort.ltInt L a k d1=Sort.heapBuild Sort.ltInt L a M d)) (fun v _=>(intOf v+1).toNat)
 case atStart=>
  exact ⟨M,d,by go_num,Nat.le_refl _,HS,h,hide rfl⟩
 case round=>
  obtain ⟨k,d1,rfl,hk,eO,HR,HO⟩:=hrel
  cases k with
  | succ k=>
   have h2:(((k+1:Nat):Int) - 1)=(k:Int):=by omega
   have hk0:(0:Int)<=(k:Int):=by omega
   have hkL:k<=L:=by omega
   rw [h2]
   go_wp2_with (go_at_call 317;refine (MU w0 _ g off n _ k L a d1 (aa eO) hN hkL hL1 HR).mono ?_;rintro e w1 ⟨rfl,HR2⟩)
   go_roundw
   case rel=>exact ⟨k,_,by go_num,by omega,MV eO,HR2,by rw [<-aa HO];exact hide rfl⟩
   case measure=>simp [intOf]
  | zero=>
   rw [show ((0:Nat):Int) - 1=-1 from rfl]
   go_wp2_with fail
   have HB:Hid (d1=Sort.heapBuild Sort.ltInt L a M d):=aa HO
   rw [<-aa HB] at HH
   clear HO HB
   go_loopw [10] (fun v wr=>∃ (k:Nat) (d2:Array Int),v=.int .i64 ((k:Int) - 1)/\k<=L/\Hid (d2.size=n)/\Hid (Rg w0 wr g off d2)/\Hid (Sort.heapPop Sort.ltInt a k d2=Sort.heapSort Sort.ltInt d a b)) (fun v _=>(intOf v+1).toNat)
   case atStart=>exact ⟨L,d1,by go_num,Nat.le_refl _,eO,HR,hide (aa HH).symm⟩
   case round=>
    obtain ⟨k,d2,rfl,hk,HS2,HR2,HO⟩:=hrel
    clear HR
    cases k with
    | succ k=>
     have h2:(((k+1:Nat):Int) - 1)=(k:Int):=by omega
     have hk0:(0:Int)<=(k:Int):=by omega
     rw [h2]
     obtain ⟨G,HG,hc,hf⟩:=(aa HR2).pJ (aa HS2)
     rcases Nat.eq_zero_or_pos k with hz | hz
     ·subst hz
      go_wp2_with fail
      go_region
      have HR3:=Rg.aS (Rg.eH HR2 HS2 HG (i:=a) (j:=a+0) (by omega) (by omega)) 1
      go_wp2_with (go_at_call 317;refine (MU w0 _ g off n _ 0 0 a (Sort.swp d2 a (a+0)) (aa (f_ HS2)) hN (Nat.le_refl _) (by omega) HR3).mono ?_;rintro e w1 ⟨rfl,HR4⟩)
      go_roundw
      case rel=>exact ⟨0,_,by go_num,by omega,MV (f_ HS2),HR4,by rw [<-aa HO];exact hide rfl⟩
      case measure=>simp [intOf]
     ·go_wp2_with fail
      go_region
      have HR3:=Rg.aS (Rg.eH HR2 HS2 HG (i:=a) (j:=a+k) (by omega) (by omega)) 1
      go_wp2_with (go_at_call 317;refine (MU w0 _ g off n _ 0 k a (Sort.swp d2 a (a+k)) (aa (f_ HS2)) hN (Nat.zero_le _) (by omega) HR3).mono ?_;rintro e w1 ⟨rfl,HR4⟩)
      go_roundw
      case rel=>exact ⟨k,_,by go_num,by omega,MV (f_ HS2),HR4,by rw [<-aa HO];exact hide rfl⟩
      case measure=>simp [intOf]
    | zero=>
     go_wp2_with fail
     go_end0
     exact ⟨rfl,by rw [<-aa HO];exact HR2⟩
theorem abn {i j:Nat} (d:Array Int) (h:i<j):Sort.reverseLoop i j d=Sort.reverseLoop (i+1) (j - 1) (Sort.swp d i j):=by rw [Sort.reverseLoop,if_pos h]
theorem UO {i j:Nat} (d:Array Int) (h:¬ i<j):Sort.reverseLoop i j d=d:=by rw [Sort.reverseLoop,if_neg h]
set_option maxRecDepth 100000 in
set_option maxHeartbeats 4000000 in
theorem ac6 (w0 w:World) (g off n cap a b:Nat) (d:Array Int) (hn:d.size=n) (hN:n<=1000000000) (hab:a<b) (hb:b<=n) (h:Hid (Rg w0 w g off d)) :
  Calls Tryz.prog 295 #[.slice (some ⟨g,off,none⟩) n cap,.int .i64 a,.int .i64 b] w fun e w'=>e=.returned (.tuple #[])/\Hid (Rg w0 w' g off (Sort.reverseRange d a b)):=by
 have HS:Hid (d.size=n):=hn
 clear hn
 go_enter Tryz.func295,Tryz.ntmps295
 go_wp2_with fail
 go_loopw [6,7] (fun v u wr=>∃ (i j:Nat) (d1:Array Int),v=.int .i64 (i:Int)/\u=.int .i64 (j:Int)/\i<=b/\j<b/\Hid (d1.size=n)/\Hid (Rg w0 wr g off d1)/\Hid (Sort.reverseLoop i j d1=Sort.reverseRange d a b)) (fun v _ _=>b - (intOf v).toNat)
 case atStart=>exact ⟨a,b - 1,d,rfl,by go_num,by omega,by omega,HS,h,hide rfl⟩
 case round=>
  obtain ⟨i,j,d1,rfl,rfl,hi,hj,eO,HR,HO⟩:=hrel
  by_cases hij:i<j
  ·have hI:(i:Int)<(j:Int):=by omega
   obtain ⟨G,HG,hc,hf⟩:=(aa HR).pJ (aa eO)
   go_wp2_with fail
   go_region
   go_wp2_with fail
   go_roundw
   case rel=>exact ⟨i+1,j - 1,_,by go_num,by go_num,by omega,by omega,f_ eO,Rg.aS (Rg.eH HR eO HG (i:=i) (j:=j) (by omega) (by omega)) 1,hide ((abn d1 hij).symm.trans (aa HO))⟩
   case measure=>simp [intOf];omega
  ·have hI:¬ (i:Int)<(j:Int):=by omega
   go_wp2_with fail
   go_end0
   exact ⟨rfl,by rw [<-aa HO,UO d1 hij];exact HR⟩
structure Sw (w0 w:World) (g off:Nat) (d:Array Int) (k s:Nat):Prop where
 rg:Rg w0 w g off d
 new:w0.heap.size<=k
 at':w.cell? ⟨k,0,none⟩=some (.int .i64 (s:Int))
 fr:w.frozen? ⟨k,0,none⟩=false
theorem Sw.drew {w0 w:World} {g off:Nat} {d:Array Int} {k s:Nat} (h:Hid (Sw w0 w g off d k s)) (q:Nat):Hid (Sw w0 (w.drewN q) g off d k s):=⟨(aa h).rg.drew q,(aa h).new,(aa h).at',(aa h).fr⟩
theorem Sw.put {w0 w:World} {g off:Nat} {d:Array Int} {k s:Nat} (h:Hid (Sw w0 w g off d k s)) (t:Nat):Hid (Sw w0 (w.setCell ⟨k,0,none⟩ (.int .i64 (t:Int))) g off d k t):=by
 refine ⟨(aa h).rg.mr (aa h).new _,(aa h).new,?_,?_⟩
 ·obtain ⟨c,e,fr,hb,hc⟩:=Sort.cells_of_cell? (aa h).at'
  rw [Sort.setCell_eq,Sort.cell?_mapBlock w k 0 _ hb]
  obtain ⟨h0,_⟩:=Array.getElem?_eq_some_iff.1 hc
  simp [h0]
 ·rw [Sort.setCell_eq,Sort.frozen?_mapBlock]
  exact (aa h).fr
set_option maxRecDepth 100000 in
set_option maxHeartbeats 4000000 in
theorem UQ (w0 w:World) (g off n cap a b k s:Nat) (d:Array Int) (hn:d.size=n) (_hN:n<=1000000000) (ha:a<n) (hb:b<n) (hs:s<=1000) (h:Hid (Sw w0 w g off d k s)) :
  Calls Tryz.prog 327 #[.slice (some ⟨g,off,none⟩) n cap,.int .i64 a,.int .i64 b,.pointer (some ⟨k,0,none⟩)] w fun e w'=>
   e=.returned (.tuple #[.int .i64 ((Sort.order2 Sort.ltInt d a b s).1:Int),.int .i64 ((Sort.order2 Sort.ltInt d a b s).2.1:Int)])/\Hid (Sw w0 w' g off d k (Sort.order2 Sort.ltInt d a b s).2.2):=by
 have HS:Hid (d.size=n):=hn
 clear hn
 obtain ⟨G,HG,hc,hf⟩:=(aa h).rg.pJ (aa HS)
 have hc1:=(aa h).at'
 have hf1:=(aa h).fr
 go_enter Tryz.func327,Tryz.ntmps327
 go_wp2_with fail
 go_quiet ((go_at_call 221;exact Calls.quiet_of_same (eB _ _ _)))
 have H1:=Sw.drew h nq
 go_wp2_with fail
 ·have hl:Sort.ltInt (G b) (G a)=true:=by assumption
  have HO:Hid (Sort.order2 Sort.ltInt d a b s=(b,a,s+1)):=by
   unfold Sort.order2
   rw [<-aa HG,<-aa HG,hl]
   exact hide rfl
  have H2:=Sw.put H1 (s+1)
  rw [aa HO]
  go_ret2
  exact ⟨rfl,H2⟩
 ·have hl:Sort.ltInt (G b) (G a)=false:=by assumption
  have HO:Hid (Sort.order2 Sort.ltInt d a b s=(a,b,s)):=by
   unfold Sort.order2
   rw [<-aa HG,<-aa HG,hl]
   exact hide rfl
  rw [aa HO]
  go_ret2
  exact ⟨rfl,H1⟩
theorem ER {d:Array Int} {a b n s:Nat} (ha:a<n) (hb:b<n):(Sort.order2 Sort.ltInt d a b s).1<n/\(Sort.order2 Sort.ltInt d a b s).2.1<n:=by
 rcases Sort.order2_mem Sort.ltInt d a b s with ⟨h1,h2⟩ | ⟨h1,h2⟩<;>omega
theorem Rs {d:Array Int} {a b c s x1 y1 z1 x2 y2 z2 x3 y3 z3:Nat} (h1:Sort.order2 Sort.ltInt d a b s=(x1,y1,z1)) (h2:Sort.order2 Sort.ltInt d y1 c z1=(x2,y2,z2)) (h3:Sort.order2 Sort.ltInt d x1 x2 z2=(x3,y3,z3)) :
  Sort.median Sort.ltInt d a b c s=(y3,z3):=by
 unfold Sort.median
 simp only [h1,h2,h3]
theorem BU (w0 w:World) (g off n cap a b k s:Nat) (d:Array Int) (hn:d.size=n) (hN:n<=1000000000) (ha:a<n) (hb:b<n) (hs:s<=1000) {x y z:Nat} (hr:Sort.order2 Sort.ltInt d a b s=(x,y,z)) (h:Hid (Sw w0 w g off d k s)) :
  Calls Tryz.prog 327 #[.slice (some ⟨g,off,none⟩) n cap,.int .i64 a,.int .i64 b,.pointer (some ⟨k,0,none⟩)] w fun e w'=>
   e=.returned (.tuple #[.int .i64 (x:Int),.int .i64 (y:Int)])/\Hid (Sw w0 w' g off d k z):=by
 have:=UQ w0 w g off n cap a b k s d hn hN ha hb hs h
 rw [hr] at this
 exact this
set_option maxRecDepth 100000 in
set_option maxHeartbeats 4000000 in
theorem UR (w0 w:World) (g off n cap a b c k s x1 y1 z1 x2 y2 z2 x3 y3 z3:Nat) (d:Array Int) (HS:Hid (d.size=n)) (hN:n<=1000000000) (ha:a<n) (hb:b<n) (hc:c<n) (h1:x1<n) (h2:y1<n) (h3:x2<n)
  (hs:s<=1000) (hz1:z1<=1000) (hz2:z2<=1000) (H1:Hid (Sort.order2 Sort.ltInt d a b s=(x1,y1,z1))) (H2:Hid (Sort.order2 Sort.ltInt d y1 c z1=(x2,y2,z2))) (H3:Hid (Sort.order2 Sort.ltInt d x1 x2 z2=(x3,y3,z3))) (h:Hid (Sw w0 w g off d k s)) :
  Calls Tryz.prog 319 #[.slice (some ⟨g,off,none⟩) n cap,.int .i64 a,.int .i64 b,.int .i64 c,.pointer (some ⟨k,0,none⟩)] w fun e w'=>
   e=.returned (.int .i64 (y3:Int))/\Hid (Sw w0 w' g off d k z3):=by
 go_enter Tryz.func319,Tryz.ntmps319
 go_wp2_with fail
 refine (BU w0 _ g off n _ a b k s d (aa HS) hN ha hb hs (aa H1) h).mono ?_
 rintro e w1 ⟨rfl,HA⟩
 go_wp2_with fail
 refine (BU w0 _ g off n _ y1 c k z1 d (aa HS) hN h2 hc hz1 (aa H2) HA).mono ?_
 rintro e w2 ⟨rfl,HB⟩
 go_wp2_with fail
 refine (BU w0 _ g off n _ x1 x2 k z2 d (aa HS) hN h1 h3 hz2 (aa H3) HB).mono ?_
 rintro e w3 ⟨rfl,HC⟩
 go_wp2_with fail
 go_ret
 exact ⟨rfl,HC⟩
theorem Jp (w0 w:World) (g off n cap a b c k s:Nat) (d:Array Int) (hn:d.size=n) (hN:n<=1000000000) (ha:a<n) (hb:b<n) (hc:c<n) (hs:s<=100) (h:Hid (Sw w0 w g off d k s)) :
  Calls Tryz.prog 319 #[.slice (some ⟨g,off,none⟩) n cap,.int .i64 a,.int .i64 b,.int .i64 c,.pointer (some ⟨k,0,none⟩)] w fun e w'=>
   e=.returned (.int .i64 ((Sort.median Sort.ltInt d a b c s).1:Int))/\Hid (Sw w0 w' g off d k (Sort.median Sort.ltInt d a b c s).2):=by
 obtain ⟨x1,y1,z1,h1⟩:∃ x y z,Sort.order2 Sort.ltInt d a b s=(x,y,z):=⟨_,_,_,rfl⟩
 obtain ⟨x2,y2,z2,h2⟩:∃ x y z,Sort.order2 Sort.ltInt d y1 c z1=(x,y,z):=⟨_,_,_,rfl⟩
 obtain ⟨x3,y3,z3,h3⟩:∃ x y z,Sort.order2 Sort.ltInt d x1 x2 z2=(x,y,z):=⟨_,_,_,rfl⟩
 have i1:=ER (d:=d) (s:=s) ha hb
 have s1:=Sort.order2_count Sort.ltInt d a b s
 rw [h1] at i1 s1
 have i2:=ER (d:=d) (s:=z1) i1.2 hc
 have s2:=Sort.order2_count Sort.ltInt d y1 c z1
 rw [h2] at i2 s2
 dsimp only at i1 i2 s1 s2
 rw [Rs h1 h2 h3]
 exact UR w0 w g off n cap a b c k s x1 y1 z1 x2 y2 z2 x3 y3 z3 d hn hN ha hb hc i1.1 i1.2 i2.1 (by omega) (by omega) (by omega) h1 h2 h3 h
theorem Jq (w0 w:World) (g off n cap a k s:Nat) (d:Array Int) (hn:d.size=n) (hN:n<=1000000000) (h0:1<=a) (ha:a+1<n) (hs:s<=100) (h:Hid (Sw w0 w g off d k s)) :
  Calls Tryz.prog 318 #[.slice (some ⟨g,off,none⟩) n cap,.int .i64 a,.pointer (some ⟨k,0,none⟩)] w fun e w'=>
   e=.returned (.int .i64 ((Sort.medianAdjacent Sort.ltInt d a s).1:Int))/\Hid (Sw w0 w' g off d k (Sort.medianAdjacent Sort.ltInt d a s).2):=by
 have HS:Hid (d.size=n):=hn
 clear hn
 have C:=Jp w0 w g off n cap (a - 1) a (a+1) k s d (aa HS) hN (by omega) (by omega) ha hs h
 rw [show ((a - 1:Nat):Int)=(a:Int) - 1 from by omega,show ((a+1:Nat):Int)=(a:Int)+1 from by omega] at C
 have HC:=hide C
 clear C
 unfold Sort.medianAdjacent
 go_enter Tryz.func318,Tryz.ntmps318
 go_wp2_with (go_at_call 319;refine (aa HC).mono ?_;rintro e w1 ⟨rfl,H1⟩)
 go_ret
 exact ⟨rfl,H1⟩
def y9:Sort.Hint->Int
 | .unknown=>0
 | .increasing=>1
 | .decreasing=>2
theorem z_ {x y:Int} (h:(x==y)=true):x=y:=by simpa using h
theorem Aa {x y:Int} (h:(x==y)=false):x≠y:=by simpa using h
theorem Sw.make {w0 w:World} {g off:Nat} {d:Array Int} (h:Hid (Rg w0 w g off d)) (e:TypeId):Hid (Sw w0 (w.alloc (.cells #[.int .i64 0] e)) g off d w.heap.size 0):=by
 have hg:(w.alloc (.cells #[.int .i64 0] e)).heap[w.heap.size]? = some (.cells #[.int .i64 0] e):=by
  rw [Sort.alloc_eq_grow]
  unfold Sort.grow
  rw [Array.getElem?_append_right (Nat.le_refl _),Nat.sub_self]
  rfl
 refine ⟨(aa h).alloc _,(aa h).size,?_,?_⟩
 ·unfold World.cell?
  rw [hg]
  rfl
 ·unfold World.frozen?
  rw [hg]
  rfl
theorem rV (w0 w:World) (g off n cap m k s:Nat) (va:Int) (d:Array Int) (hn:d.size=n) (hN:n<=1000000000) (hva:va=(m:Int)) (h0:1<=m) (ha:m+1<n) (hs:s<=100) {x z:Nat} (hr:Sort.medianAdjacent Sort.ltInt d m s=(x,z)) (h:Hid (Sw w0 w g off d k s)) :
  Calls Tryz.prog 318 #[.slice (some ⟨g,off,none⟩) n cap,.int .i64 va,.pointer (some ⟨k,0,none⟩)] w fun e w'=>
   e=.returned (.int .i64 (x:Int))/\Hid (Sw w0 w' g off d k z):=by
 subst hva
 have:=Jq w0 w g off n cap m k s d hn hN h0 ha hs h
 rw [hr] at this
 exact this
theorem Jr (w0 w:World) (g off n cap a b c k s:Nat) (va vb vc:Int) (d:Array Int) (hn:d.size=n) (hN:n<=1000000000) (hva:va=(a:Int)) (hvb:vb=(b:Int)) (XQ:vc=(c:Int)) (ha:a<n) (hb:b<n) (hc:c<n) (hs:s<=100) {x z:Nat} (hr:Sort.median Sort.ltInt d a b c s=(x,z)) (h:Hid (Sw w0 w g off d k s)) :
  Calls Tryz.prog 319 #[.slice (some ⟨g,off,none⟩) n cap,.int .i64 va,.int .i64 vb,.int .i64 vc,.pointer (some ⟨k,0,none⟩)] w fun e w'=>
   e=.returned (.int .i64 (x:Int))/\Hid (Sw w0 w' g off d k z):=by
 subst hva hvb XQ
 have:=Jp w0 w g off n cap a b c k s d hn hN ha hb hc hs h
 rw [hr] at this
 exact this
theorem YN {d:Array Int} {a b q x1 z1 x2 z2 x3 z3 x4 z4:Nat} (hq:(b - a) / 4=q) (h:50<=b - a) (h1:Sort.medianAdjacent Sort.ltInt d (a+q) 0=(x1,z1)) (h2:Sort.medianAdjacent Sort.ltInt d (a+q*2) z1=(x2,z2))
  (h3:Sort.medianAdjacent Sort.ltInt d (a+q*3) z2=(x3,z3)) (h4:Sort.median Sort.ltInt d x1 x2 x3 z3=(x4,z4)):Sort.choosePivot Sort.ltInt d a b=(x4,Sort.hintOf z4):=by
 rw [Sort.choosePivot_eq,Sort.rawPivot,if_pos (by omega),if_pos h,hq,Nat.mul_one,h1]
 simp only [h2,h3,h4]
theorem UT {d:Array Int} {a b q x4 z4:Nat} (hq:(b - a) / 4=q) (h8:8<=b - a) (h:¬ 50<=b - a) (h4:Sort.median Sort.ltInt d (a+q) (a+q*2) (a+q*3) 0=(x4,z4)):Sort.choosePivot Sort.ltInt d a b=(x4,Sort.hintOf z4):=by
 rw [Sort.choosePivot_eq,Sort.rawPivot,if_pos (by omega),if_neg h,hq,Nat.mul_one,h4]
theorem MW {d:Array Int} {m s n x z:Nat} (hr:Sort.medianAdjacent Sort.ltInt d m s=(x,z)) (hm:m+1<n):x<n/\z<=s+3:=by
 have h1:=Sort.medianAdjacent_mem Sort.ltInt d m s
 have h2:=Sort.medianAdjacent_count Sort.ltInt d m s
 rw [hr] at h1 h2
 dsimp only at h1 h2
 omega
set_option maxRecDepth 100000 in
set_option maxHeartbeats 4000000 in
theorem UU (w0 w:World) (g off n cap a b:Nat) (d:Array Int) (hn:d.size=n) (hN:n<=1000000000) (hab:a+8<=b) (hb:b<=n) (h:Hid (Rg w0 w g off d)) :
  Calls Tryz.prog 294 #[.slice (some ⟨g,off,none⟩) n cap,.int .i64 a,.int .i64 b] w fun e w'=>
   e=.returned (.tuple #[.int .i64 ((Sort.choosePivot Sort.ltInt d a b).1:Int),.int .i64 (y9 (Sort.choosePivot Sort.ltInt d a b).2)])/\Hid (Rg w0 w' g off d):=by
 have HS:Hid (d.size=n):=hn
 clear hn
 obtain ⟨L,hL⟩:∃ L:Nat,L=b - a:=⟨b - a,rfl⟩
 obtain ⟨q,hq⟩:∃ q:Nat,q=L / 4:=⟨_,rfl⟩
 have h0:(b:Int) - (a:Int)=(L:Int):=by omega
 have h4:(L:Int).tdiv 4=(q:Int):=by rw [Int.tdiv_eq_ediv_of_nonneg (by omega)];omega
 have HM:=Sw.make h 3
 have hq4:4*q<=L:=by omega
 have hq5:L<4*q+4:=by omega
 have hLn:a+L<=n:=by omega
 have hL8:(8:Int)<=(L:Int):=by omega
 have HQ:Hid ((b - a) / 4=q):=by rw [<-hL];exact hide hq.symm
 have H8:Hid (8<=b - a):=hide (by omega)
 by_cases h50:50<=L
 ·have ael:(50:Int)<=(L:Int):=by omega
  have H50:Hid (50<=b - a):=hide (by omega)
  clear hL hq
  obtain ⟨x1,z1,h1⟩:∃ x z,Sort.medianAdjacent Sort.ltInt d (a+q) 0=(x,z):=⟨_,_,rfl⟩
  obtain ⟨x2,z2,h2⟩:∃ x z,Sort.medianAdjacent Sort.ltInt d (a+q*2) z1=(x,z):=⟨_,_,rfl⟩
  obtain ⟨x3,z3,h3⟩:∃ x z,Sort.medianAdjacent Sort.ltInt d (a+q*3) z2=(x,z):=⟨_,_,rfl⟩
  obtain ⟨x4,z4,h5⟩:∃ x z,Sort.median Sort.ltInt d x1 x2 x3 z3=(x,z):=⟨_,_,rfl⟩
  obtain ⟨i1,s1⟩:=MW (n:=n) h1 (by omega)
  obtain ⟨i2,s2⟩:=MW (n:=n) h2 (by omega)
  obtain ⟨i3,s3⟩:=MW (n:=n) h3 (by omega)
  rw [YN (aa HQ) (aa H50) h1 h2 h3 h5]
  have H1:=hide h1
  have H2:=hide h2
  have H3:=hide h3
  have H5:=hide h5
  clear h1 h2 h3 h5
  go_enter Tryz.func294,Tryz.ntmps294
  go_wp2_with fail
  refine (rV w0 _ g off n _ (a+q) _ 0 _ d (aa HS) hN (by omega) (by omega) (by omega) (by omega) (aa H1) HM).mono ?_
  rintro e w1 ⟨rfl,HA⟩
  go_wp2_with fail
  refine (rV w0 _ g off n _ (a+q*2) _ z1 _ d (aa HS) hN (by omega) (by omega) (by omega) (by omega) (aa H2) HA).mono ?_
  rintro e w2 ⟨rfl,HB⟩
  go_wp2_with fail
  refine (rV w0 _ g off n _ (a+q*3) _ z2 _ d (aa HS) hN (by omega) (by omega) (by omega) (by omega) (aa H3) HB).mono ?_
  rintro e w3 ⟨rfl,HC⟩
  go_wp2_with fail
  refine (Jr w0 _ g off n _ x1 x2 x3 _ z3 _ _ _ d (aa HS) hN rfl rfl rfl i1 i2 i3 (by omega) (aa H5) HC).mono ?_
  rintro e w4 ⟨rfl,HD⟩
  have hc:=(aa HD).at'
  have HR:Hid (Rg w0 w4 g off d):=(aa HD).rg
  go_wp2_with fail
  ·have hz:z4=0:=by
    have hz:((z4:Int)==0)=true:=by assumption
    have:=z_ hz
    omega
   rw [show y9 (Sort.hintOf z4)=1 from by rw [hz];rfl]
   go_ret2
   exact ⟨rfl,HR⟩
  ·have hz:z4=12:=by
    have hz:((z4:Int)==12)=true:=by assumption
    have:=z_ hz
    omega
   rw [show y9 (Sort.hintOf z4)=2 from by rw [hz];rfl]
   go_ret2
   exact ⟨rfl,HR⟩
  ·have hz:z4≠0:=by
    have hz:((z4:Int)==0)=false:=by assumption
    have:=Aa hz
    omega
   have hz':z4≠12:=by
    have hz:((z4:Int)==12)=false:=by assumption
    have:=Aa hz
    omega
   rw [show y9 (Sort.hintOf z4)=0 from by unfold Sort.hintOf;rw [if_neg hz,if_neg hz'];rfl]
   go_ret2
   exact ⟨rfl,HR⟩
 ·have ael:¬ (50:Int)<=(L:Int):=by omega
  have H50:Hid (¬ 50<=b - a):=hide (by omega)
  clear hL hq
  obtain ⟨x4,z4,h5⟩:∃ x z,Sort.median Sort.ltInt d (a+q) (a+q*2) (a+q*3) 0=(x,z):=⟨_,_,rfl⟩
  rw [UT (aa HQ) (aa H8) (aa H50) h5]
  have H5:=hide h5
  clear h5
  go_enter Tryz.func294,Tryz.ntmps294
  go_wp2_with fail
  refine (Jr w0 _ g off n _ (a+q) (a+q*2) (a+q*3) _ 0 _ _ _ d (aa HS) hN (by omega) (by omega) (by omega) (by omega) (by omega) (by omega) (by omega) (aa H5) HM).mono ?_
  rintro e w4 ⟨rfl,HD⟩
  have hc:=(aa HD).at'
  have HR:Hid (Rg w0 w4 g off d):=(aa HD).rg
  go_wp2_with fail
  ·have hz:z4=0:=by
    have hz:((z4:Int)==0)=true:=by assumption
    have:=z_ hz
    omega
   rw [show y9 (Sort.hintOf z4)=1 from by rw [hz];rfl]
   go_ret2
   exact ⟨rfl,HR⟩
  ·have hz:z4=12:=by
    have hz:((z4:Int)==12)=true:=by assumption
    have:=z_ hz
    omega
   rw [show y9 (Sort.hintOf z4)=2 from by rw [hz];rfl]
   go_ret2
   exact ⟨rfl,HR⟩
  ·have hz:z4≠0:=by
    have hz:((z4:Int)==0)=false:=by assumption
    have:=Aa hz
    omega
   have hz':z4≠12:=by
    have hz:((z4:Int)==12)=false:=by assumption
    have:=Aa hz
    omega
   rw [show y9 (Sort.hintOf z4)=0 from by unfold Sort.hintOf;rw [if_neg hz,if_neg hz'];rfl]
   go_ret2
   exact ⟨rfl,HR⟩
end Go.Proofs.YtfolanohokflkaaGreatDoor
