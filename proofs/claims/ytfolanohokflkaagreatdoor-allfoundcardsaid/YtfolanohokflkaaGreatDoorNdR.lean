import Derived.Test.YtfolanohokflkaaGreatDoorNdQ
import Derived.BigRegion
import Derived.Deep.RegionHeld3
import Derived.Deep.RegionWith
import Derived.Test.YtfolanohokflkaaGreatDoorLastA
import Derived.WalkKit
import Derived.WalkSpells
import Derived.WalkLawsBesides
import Derived.WalkMore
namespace Go.Proofs.YtfolanohokflkaaGreatDoor
open Go.RowKit
section
variable {w0 w:World} {b:Nat} {s:ByteArray} {d:Int} {l:List Sy}
abbrev BdP (a:List Sy->bn Pn):Prop:=∀ l v l',a l=.ok (v,l')->0<=v.2/\v.2<=61
def adM (R:bn Pn) (at_:List Sy->bn Pn) (w1 wr:World) (b:Nat) (s:ByteArray) (d:Int) (k:Nat):Prop:=
 ∃ f l,oK (xu k) (dW s.size at_ f l)=R/\l.length<f/\k+l.length<=60/\Hid (PL w1 wr b s d l)
def ZF (w w1 wr:World) (nb:Nat) (z:Pn):Prop:=
 ∃ n,0<=z.2/\z.2<=61/\w1.heap.size<=nb/\au wr nb n/\aV wr (fun j=>w.heap.size<j/\j≠nb) n z
def adN (R:bn Pn) (w w1 wr:World) (b:Nat) (s:ByteArray) (d:Int) (k nb:Nat):Prop:=
 ∃ f l z,oK (xu k) (kK s.size f z l)=R/\l.length<f/\ZF w w1 wr nb z/\Hid (PL w1 wr b s d l)
theorem KR {w1 wq:World} {nb:Nat} {n2 n':Nd} {t:Pt} {z':Pn} (hnb:w1.heap.size<=nb) (hw1:w.heap.size<w1.heap.size) (hat:Hid (au wq nb n2)) (hv:gJ wq (fun j=>w.heap.size<j/\j≠nb) n2 t)
  (hpv:n'.pv=.slice (some ⟨wq.heap.size,0,none⟩) 1 1) (hz:n'.sz=z'.2) (h0:0<=z'.2) (h61:z'.2<=61)
  (hk:∀ W,jo W (fun j=>w.heap.size<j/\j≠nb) n'.pv [n2]->gJ W (fun j=>w.heap.size<j/\j≠nb) n2 t->gJ W (fun j=>w.heap.size<j/\j≠nb) n' z'.1) :
  ZF w w1 ((bH wq nb n').alloc (aB n2)).drew nb z':=by
 have hlt:=au.lt (aa hat)
 have hbl:∀ j,j<wq.heap.size->j≠nb->((bH wq nb n').alloc (aB n2)).drew.heap[j]? = wq.heap[j]? := fun j hj hn=>(Below.heap_alloc (bH wq nb n') (aB n2) j (by rw [nT];exact hj)).trans (cO hn)
 refine ⟨n',h0,h61,hnb,?_,hz,hk _ ?_ (hv.move fun j hj hl=>⟨hbl j hl hj.2,hj⟩)⟩
 ·exact (Below.heap_alloc (bH wq nb n') (aB n2) nb (by rw [nT];exact hlt)).trans (au.set (aa hat))
 ·rw [hpv]
  refine ⟨?_,fun k hk=>?_⟩
  ·have h:=World.ownsRow_lit (base:=0) (e:=65) (size:=7) (bH wq nb n') #[.int .i64 n2.sh,.slice n2.pa n2.pn n2.pc,.string n2.ss,.int .i64 n2.le,.int .i64 n2.mo,.int .i64 n2.fa,.int .i64 n2.sz] 1 (Nat.zero_le _) (by decide) rfl
   rw [nT] at h
   have e:dE [n2]=LX n2:=by simp [dE]
   rw [e]
   exact h.drew
  ·have:wq.heap.size=k:=by simpa [Value.ownBlock] using hk
   subst this
   exact ⟨by omega,by omega⟩
theorem PL.drew (h:Hid (PL w0 w b s d l)):Hid (PL w0 w.drew b s d l):=PL.below h ⟨rfl,rfl,rfl,Nat.le_refl _,fun _ _=>rfl⟩
theorem PM {w1 wq:World} {nb:Nat} (h:Hid (PL w1 wq b s d l)) (hnb:w1.heap.size<=nb) (hb:b<nb) (n' n2:Nd):Hid (PL w1 ((bH wq nb n').alloc (aB n2)).drew b s d l):=
 PL.drew (PL.alloc (PL.bH h hnb hb n') (aB n2))
def Wy (w w1 wr:World) (b:Nat) (s:ByteArray) (d:Int) (k i nb:Nat) (zf:Pn) (l:List Sy):Prop:=
 ∃ z,xu (k - i) z=zf/\ZF w w1 wr nb z/\Hid (PL w1 wr b s d l)
theorem NL {w1 wr w4:World} {nb k:Nat} {z:Pn} (hx:Hid (ZF w w1 wr nb z)) (hs:Hid (PL w1 wr b s d l)) (h4:Hid (PL wr w4 b s d l)) (hb:b<w.heap.size) (hb3:b<nb):Hid (Wy w w1 w4 b s d k 0 nb (xu k z) l):=by
 obtain ⟨n,h0,h1,h2,h3,h5⟩:=aa hx
 exact ⟨z,rfl,⟨n,h0,h1,h2,au.up h3 (PL.up h4) (by omega),aV.move h5 fun j hj hl=>⟨(PL.up h4).block j hl (by omega),hj⟩⟩,PL.join (PL.up hs) h4⟩
theorem SF {n:Nat} {l l1:List Sy} {o:jX} (h:eQ n l=.ok (o,l1)):0<=o.2.2/\o.2.2<=13:=by
 have e:=rR n l
 rw [h] at e
 exact NK e
theorem KS {n:Nat} {l l1:List Sy} {o:jX} (hr:mE (hd l)=true) (h:eQ n l=.ok (o,l1)):l1.length<l.length:=by
 have e:=rR n l
 rw [h] at e
 exact y5 hr e
set_option maxRecDepth 100000 in
set_option maxHeartbeats 8000000 in
theorem adO {at_:List Sy->bn Pn} (HA:Hid (oF 304 at_ b s d)) (HB:Hid (BdP at_)) (h:Hid (PL w w b s d l)) :
  Calls Tryz.prog 280 #[.pointer (some ⟨b,0,none⟩)] w (Gj (dW s.size at_ (l.length+1) l) w b s d):=by
 obtain ⟨R,hR⟩:∃ R,dW s.size at_ (l.length+1) l=R:=⟨_,rfl⟩
 rw [hR]
 have hbw:=PL.lt h
 have zW:Hid (∀ w',Hid (Up b (w.alloc (aB nd0)) w')->Hid (Up b w w')):=fun w' hu=>jA h hu
 have BG:Hid (∀ w' l' n,Hid (PL (w.alloc (aB nd0)) w' b s d l')->Hid (PL w (bH w' w.heap.size n) b s d l')):=fun w' l' n h'=>nU h h' n
 have HAT:=hide (au.new w nd0)
 have hsz1:(w.alloc (aB nd0)).heap.size=w.heap.size+1:=by simp
 have HP:Hid (adM R at_ (w.alloc (aB nd0)) (w.alloc (aB nd0)) b s d 0):=⟨_,l,by rw [SC];exact hR,Nat.lt_succ_self _,by have:=PL.len h;omega,jB h (aB nd0)⟩
 clear hR h
 go_enter Tryz.func280,Tryz.ntmps280
 go_wp2_with fail
 go_loopw [3] (fun v wr=>∃ k:Nat,v=.int .i64 k/\Hid (adM R at_ (w.alloc (aB nd0)) wr b s d k)) (fun _ wr=>left s b wr)
 case atStart=>exact ⟨0,rfl,HP⟩
 case round=>
  clear HP
  obtain ⟨k,rfl,HP⟩:=hrel
  obtain ⟨f,l',hf,hlt,hk,HS⟩:=aa HP
  obtain ⟨f,rfl⟩:∃ f',f=f'+1:=⟨f - 1,by omega⟩
  have HL:=hide (PL.left HS)
  have ae_:(k:Int)<=60:=by omega
  by_cases hn:hd l'=126
  ·have hp:=mq (l:=l') (by omega)
   rw [SE hn] at hf
   have HF:=hide hf
   have HN:=hide hn
   clear hf hn HP
   go_wp2_with (first
    | (go_at_call 219;refine (dz HS 126 HN).mono ?_;clear HS;rintro x w2 ⟨rfl,HS⟩))
   go_roundw
   case rel=>exact ⟨k+1,by go_num,f,_,aa HF,by omega,by omega,HS⟩
   case measure=>
    have e1:=PL.left HS
    have e2:=aa HL
    show left s b _<left s b _
    omega
  ·rw [dW,if_neg hn] at hf
   have HN:=hide hn
   clear hn HP HL
   cases ha:at_ l' with
   | error y=>
    rw [ha] at hf
    have HX:Hid (R=.error y):=hf.symm
    have HAE:=hide ha
    clear ha hf
    go_wp2_with (first
     | (go_at_call 219;refine (bZ HS 126 HN).mono ?_;clear HS;rintro x w2 ⟨rfl,HS⟩)
     | (go_at_call 304;refine (kN (aa HA _ _ (PL.base HS)) HAE).mono ?_;rintro x w3 ⟨rfl,HU⟩;have lv:=hide ((PL.up HS).trans (aa HU))))
    rw [aa HX]
    exact ⟨rfl,rfl,aa zW _ lv⟩
   | ok y=>
    obtain ⟨z,l1⟩:=y
    rw [ha] at hf
    dsimp only at hf
    obtain ⟨hz0,KT⟩:=aa HB _ _ _ ha
    have HAE:=hide ha
    have HF:=hide hf
    clear ha hf
    go_wp2_with (first
     | (go_at_call 219;refine (bZ HS 126 HN).mono ?_;clear HS;rintro x w2 ⟨rfl,HS⟩)
     | (go_at_call 304;refine (kP (aa HA _ _ (PL.base HS)) HAE).mono ?_;simp only [gm];rintro x w3 ⟨n,rfl,lI,mg⟩;have HT3:=PL.join (PL.up HS) mg;have hs2:=(PL.up HS).size;have hs3:=(PL.up HT3).size;have hb3:=PL.lt HT3))
    have HQ:Hid (adN R w (w.alloc (aB nd0)) (w3.alloc (aB n)) b s d k w3.heap.size):=by
     refine ⟨_,l1,z,aa HF,Nat.lt_succ_self _,⟨n,hz0,KT,hs3,au.new w3 n,?_⟩,PL.alloc HT3 _⟩
     exact aV.move lI fun j hj hl=>⟨Below.heap_alloc w3 _ j hl,by omega,by omega⟩
    clear HF HS mg HT3 HAE HN lI
    generalize w3.alloc (aB n)=wb at *
    generalize w3.heap.size=nb at *
    go_loopw [] (fun wr=>Hid (adN R w (w.alloc (aB nd0)) wr b s d k nb)) (fun wr=>left s b wr)
    case atStart=>exact HQ
    case round=>
     clear HQ hz0 KT hlt hk
     obtain ⟨f2,l2,z2,hf2,hlt2,L6,HS⟩:=aa hrel
     obtain ⟨f2,rfl⟩:∃ f',f2=f'+1:=⟨f2 - 1,by omega⟩
     have HL:=hide (PL.left HS)
     rw [kK] at hf2
     obtain ⟨c,hcc⟩:∃ c,hd l2=c:=⟨_,rfl⟩
     have gK:=hide hcc
     rw [hcc] at hf2
     cases hr:mE c
     ·rw [if_neg (by rw [hr];decide)] at hf2
      have HX:Hid (R=.ok (xu k z2,l2)):=hf2.symm
      have HR:=hide hr
      have adP:=hide L6
      clear hr hf2 hcc hrel HL L6
      go_wp2_with (first
       | (go_at_call 251;refine (dX (PL.base HS) gK).mono ?_;rintro x w2 ⟨rfl,HS2⟩)
       | (go_at_call 305;refine (BI HS2 gK HR).mono ?_;clear HS2;rintro x w4 ⟨rfl,HS2⟩))
      have HW:Hid (Wy w (w.alloc (aB nd0)) w4 b s d k 0 nb (xu k z2) l2):=NL adP HS HS2 hbw hb3
      clear HS HS2 adP HR gK
      go_loopw [28] (fun v wr=>∃ i:Nat,i<=k/\v=.int .i64 i/\Hid (Wy w (w.alloc (aB nd0)) wr b s d k i nb (xu k z2) l2)) (fun v _=>k - (intOf v).toNat)
      case atStart=>exact ⟨0,Nat.zero_le _,rfl,HW⟩
      case round=>
       clear HW
       obtain ⟨i,hi,rfl,HW⟩:=hrel
       obtain ⟨z,hzk,L6,HS⟩:=aa HW
       obtain ⟨n2,hz0,KT,hnb,G7,hok2⟩:=L6
       have hsz:n2.sz=z.2:=hok2.1
       have sJ:=hide G7
       rw [<-hsz] at hz0 KT
       obtain ⟨c0,c1,c2,c3,c4,c5,c6⟩:=au.cells G7
       have cf:=au.fz G7
       have hq3:=au.lt G7
       have adQ:nb≠b:=by omega
       by_cases hik:i<k
       ·have afa:(i:Int)<(k:Int):=by omega
        have hwr:IntKind.i64.wrap (n2.sz+1)=n2.sz+1:=by simp [IntKind.wrap,IntKind.bits,IntKind.signed];omega
        have hs3':w.heap.size<(w.alloc (aB nd0)).heap.size:=by omega
        have L6:=hide (KR (w:=w) (z':=I4 z) (n':=⟨4,some ⟨wr.heap.size,0,none⟩,1,1,⟨#[]⟩,0,0,0,dA (n2.sz+1)⟩) hnb hs3' sJ hok2.2 rfl (by show _=dA (z.2+1);rw [<-hsz]) (by show 0<=dA (z.2+1);rw [<-hsz];exact Wx (by omega)) (Ww _) (fun W h1 h2=>.not rfl h1 h2))
        have HT8:=PM HS hnb hb3 ⟨4,some ⟨wr.heap.size,0,none⟩,1,1,⟨#[]⟩,0,0,0,dA (n2.sz+1)⟩ n2
        have HZK:Hid (xu (k - (i+1)) (I4 z)=xu k z2):=by show _=_;rw [show k - i=(k - (i+1))+1 from by omega] at hzk;exact hzk
        clear hzk hok2 G7 hsz HW HS sJ
        go_wp2_with fail
        go_region_with
         ((go_at_call 249;refine (zP _ _).mono ?_;rintro x w6 ⟨rfl,rfl⟩))
        all_goals (go_wp2_with fail;go_roundw)
        all_goals first | exact ⟨i+1,by omega,by go_num,I4 z,aa HZK,aa L6,HT8⟩ | (simp [intOf];omega)
       ·have hki:i=k:=by omega
        subst hki
        rw [Nat.sub_self] at hzk
        have gZ:z=xu i z2:=hzk
        have HR:=au.up HAT (PL.up HS) (by omega)
        obtain ⟨d0,d1,d2,d3,d4,d5,d6⟩:=au.cells (aa HR)
        have df:=au.fz (aa HR)
        have Wz:=hide hok2
        rw [gZ] at Wz
        clear hzk gZ hok2 G7 hsz HW hz0 KT
        go_wp2_with fail
        change bodyPost _ _ _ _ _ (bH wr w.heap.size n2)
        refine jC (rb:=w.heap.size) (n:=n2) 2 rfl rfl rfl (hide (au.set (aa HR))) ?_
        rw [aa HX]
        exact ⟨n2,rfl,aV.move Wz fun j hj hl=>⟨cO (by omega),by omega⟩,aa BG _ _ _ HS⟩
     ·rw [if_pos hr] at hf2
      have HR:=hide hr
      cases hm:eQ s.size l2 with
      | error y=>
       rw [hm] at hf2
       have HX:Hid (R=.error y):=hf2.symm
       have HM:=hide hm
       have qN:Hid (mE (hd l2)=true):=by show _=_;rw [hcc];exact hr
       clear hr hf2 HL hm hcc hrel
       go_wp2_with (first
        | (go_at_call 251;refine (dX HS gK).mono ?_;clear HS;rintro x w2 ⟨rfl,HS⟩)
        | (go_at_call 305;refine (BI HS gK HR).mono ?_;clear HS;rintro x w4 ⟨rfl,HS⟩)
        | (go_at_call 306;refine (gY (OQ HS (aa qN)) HM).mono ?_;rintro x w5 ⟨rfl,HU⟩))
       rw [aa HX]
       exact ⟨rfl,rfl,aa zW _ HU⟩
      | ok u=>
       obtain ⟨o,l3⟩:=u
       rw [hm] at hf2
       dsimp only at hf2
       have HX:=hide hf2
       have hlen:=KS (by rw [hcc];exact hr) hm
       obtain ⟨hm0,aeD⟩:=SF hm
       have HM:=hide hm
       have qN:Hid (mE (hd l2)=true):=by show _=_;rw [hcc];exact hr
       obtain ⟨n2,hz0,KT,hnb,G7,hok2⟩:=L6
       have hsz:n2.sz=z2.2:=hok2.1
       have sJ:=hide G7
       have Wz:=hide hok2
       rw [<-hsz] at hz0 KT
       have Sd:=hide hsz
       clear hsz
       have adR:0<=n2.sz*o.2.2:=Int.mul_nonneg hz0 hm0
       have aeP:n2.sz*o.2.2<=61*13:=Int.mul_le_mul KT aeD hm0 (by decide)
       have hwr:IntKind.i64.wrap (n2.sz*o.2.2)=n2.sz*o.2.2:=by simp [IntKind.wrap,IntKind.bits,IntKind.signed];omega
       clear hr hf2 hm hcc hrel G7 hok2
       go_wp2_with (first
        | (go_at_call 251;refine (dX (PL.base HS) gK).mono ?_;rintro x w2 ⟨rfl,HS2⟩)
        | (go_at_call 305;refine (BI HS2 gK HR).mono ?_;clear HS2;rintro x w4 ⟨rfl,HS2⟩)
        | (go_at_call 306;refine (dJ (OQ HS2 (aa qN)) HM).mono ?_;clear HS2;simp only [iw];rintro x w5 ⟨rfl,HS2⟩))
       have qY:=PL.join (PL.up HS) HS2
       have adQ:nb≠b:=by omega
       have Ty:=au.up sJ (PL.up HS2) adQ
       have oM:=aV.move (G:=fun j=>w.heap.size<j/\j≠nb) Wz fun j hj hl=>⟨(PL.up HS2).block j hl (by omega),hj⟩
       have hn5:=au.lt (aa Ty)
       have HA6:=au.alloc Ty (.cells #[.int .i64 o.1,.int .i64 (gB o.2.1),.int .i64 o.2.2] 63)
       obtain ⟨c0,c1,c2,c3,c4,c5,c6⟩:=au.cells (aa HA6)
       have cf:=au.fz (aa HA6)
       have t0:(w5.alloc (.cells #[.int .i64 o.1,.int .i64 (gB o.2.1),.int .i64 o.2.2] 63)).cell? ⟨w5.heap.size,0,none⟩=some (.int .i64 o.1):=bz w5 [.int .i64 o.1,.int .i64 (gB o.2.1),.int .i64 o.2.2] _ 0 _ rfl
       have t1:(w5.alloc (.cells #[.int .i64 o.1,.int .i64 (gB o.2.1),.int .i64 o.2.2] 63)).cell? ⟨w5.heap.size,1,none⟩=some (.int .i64 (gB o.2.1)):=bz w5 [.int .i64 o.1,.int .i64 (gB o.2.1),.int .i64 o.2.2] _ 1 _ rfl
       have t2:(w5.alloc (.cells #[.int .i64 o.1,.int .i64 (gB o.2.1),.int .i64 o.2.2] 63)).cell? ⟨w5.heap.size,2,none⟩=some (.int .i64 o.2.2):=bz w5 [.int .i64 o.1,.int .i64 (gB o.2.1),.int .i64 o.2.2] _ 2 _ rfl
       have hq5:w5.heap.size<(w5.alloc (.cells #[.int .i64 o.1,.int .i64 (gB o.2.1),.int .i64 o.2.2] 63)).heap.size:=by simp
       have hq3:nb<(w5.alloc (.cells #[.int .i64 o.1,.int .i64 (gB o.2.1),.int .i64 o.2.2] 63)).heap.size:=by simp;omega
       have Mg:=aV.move (w':=w5.alloc (.cells #[.int .i64 o.1,.int .i64 (gB o.2.1),.int .i64 o.2.2] 63)) (G:=fun j=>w.heap.size<j/\j≠nb) oM fun j hj hl=>⟨Below.heap_alloc w5 _ j hl,hj⟩
       have XO:=PL.alloc qY (.cells #[.int .i64 o.1,.int .i64 (gB o.2.1),.int .i64 o.2.2] 63)
       have hnt:nb≠w5.heap.size:=by omega
       have htn:w5.heap.size≠nb:=by omega
       have hs3':w.heap.size<(w.alloc (aB nd0)).heap.size:=by omega
       have hb3':b<nb:=hb3
       have L6:=hide (KR (w:=w) (z':=I1 z2 o) (n':=⟨5,some ⟨(w5.alloc (.cells #[.int .i64 o.1,.int .i64 (gB o.2.1),.int .i64 o.2.2] 63)).heap.size,0,none⟩,1,1,⟨#[]⟩,o.1,gB o.2.1,o.2.2,dA (n2.sz*o.2.2)⟩) hnb hs3' HA6 (aa Mg).2 rfl (by show _=dA (z2.2*o.2.2);rw [<-aa Sd]) (by show 0<=dA (z2.2*o.2.2);rw [<-aa Sd];exact Wx adR) (Ww _) (fun W h1 h2=>.rep rfl h1 h2 rfl rfl))
       have HT8:=PM XO hnb hb3' ⟨5,some ⟨(w5.alloc (.cells #[.int .i64 o.1,.int .i64 (gB o.2.1),.int .i64 o.2.2] 63)).heap.size,0,none⟩,1,1,⟨#[]⟩,o.1,gB o.2.1,o.2.2,dA (n2.sz*o.2.2)⟩ n2
       clear HS HS2 sJ Wz Ty oM qY hn5 HM HR gK qN Mg XO HA6
       generalize w5.alloc (.cells #[.int .i64 o.1,.int .i64 (gB o.2.1),.int .i64 o.2.2] 63)=wq at *
       generalize w5.heap.size=tb at *
       refine AB (S:=fun w'=>w'.cell? ⟨nb,0,none⟩=some (.int .i64 n2.sh)/\w'.cell? ⟨nb,1,none⟩=some (.slice n2.pa n2.pn n2.pc)/\w'.cell? ⟨nb,2,none⟩=some (.string n2.ss)/\w'.cell? ⟨nb,3,none⟩=some (.int .i64 n2.le)/\w'.cell? ⟨nb,4,none⟩=some (.int .i64 n2.mo)/\w'.cell? ⟨nb,5,none⟩=some (.int .i64 n2.fa)/\w'.cell? ⟨nb,6,none⟩=some (.int .i64 n2.sz)/\w'.cell? ⟨tb,0,none⟩=some (.int .i64 o.1)/\w'.cell? ⟨tb,1,none⟩=some (.int .i64 (gB o.2.1))/\w'.cell? ⟨tb,2,none⟩=some (.int .i64 o.2.2)) rfl (by kernel_rfl) (by kernel_rfl) ⟨c0,c1,c2,c3,c4,c5,c6,t0,t1,t2⟩ (fun hHeld=>?_)
       simp only [List.pop_toArray,List.dropLast,List.size_toArray,List.length_cons,List.length_nil,Nat.reduceAdd]
       refine wpAnyH_take (i:=0) (v:=?_) rfl (by kernel_rfl) (by kernel_rfl) (by kernel_rfl) (fun _ _ _ h=>h) (Or.inl ⟨by rfl,?_⟩) (by assumption) ?_
       rotate_left
       ·intro W hW;(try dsimp only at hW);go_simp;(try with_reducible rfl)
       refine wpAnyH_take (i:=2) (v:=?_) rfl (by kernel_rfl) (by kernel_rfl) (by kernel_rfl) (fun _ _ _ h=>h) (Or.inl ⟨by rfl,?_⟩) (by assumption) ?_
       rotate_left
       ·intro W hW;(try dsimp only at hW);go_simp;(try with_reducible rfl)
       refine wpAnyH_take (i:=3) (v:=?_) rfl (by kernel_rfl) (by kernel_rfl) (by kernel_rfl) (fun _ _ _ h=>h) (Or.inl ⟨by rfl,?_⟩) (by assumption) ?_
       rotate_left
       ·intro W hW;(try dsimp only at hW);go_simp;(try with_reducible rfl)
       refine wpAnyH_take (i:=4) (v:=?_) rfl (by kernel_rfl) (by kernel_rfl) (by kernel_rfl) (fun _ _ _ h=>h) (Or.inl ⟨by rfl,?_⟩) (by assumption) ?_
       rotate_left
       ·intro W hW;(try dsimp only at hW);go_simp;(try with_reducible rfl)
       refine wpAnyH_take (i:=5) (v:=?_) rfl (by kernel_rfl) (by kernel_rfl) (by kernel_rfl) (fun _ _ _ h=>h) (Or.inl ⟨by rfl,?_⟩) (by assumption) ?_
       rotate_left
       ·intro W hW;(try dsimp only at hW);go_simp;(try with_reducible rfl)
       refine wpAnyH_take (i:=6) (v:=?_) rfl (by kernel_rfl) (by kernel_rfl) (by kernel_rfl) (fun _ _ _ h=>h) (Or.inl ⟨by rfl,?_⟩) (by assumption) ?_
       rotate_left
       ·intro W hW;(try dsimp only at hW);go_simp;(try with_reducible rfl)
       refine wpAnyH_take (i:=7) (v:=?_) rfl (by kernel_rfl) (by kernel_rfl) (by kernel_rfl) (fun _ _ _ h=>h) (Or.inl ⟨by rfl,?_⟩) (by assumption) ?_
       rotate_left
       ·intro W hW;(try dsimp only at hW);go_simp;(try with_reducible rfl)
       refine wpAnyH_ready (rs:=[1,8]) (by kernel_rfl) (by simp) ?_
       refine AllReadyH.cons rfl (fun K hK=>?_) (AllReadyH.cons rfl (fun K hK=>?_) AllReadyH.nil)
       ·go_simp
        refine hK.out _ _ ?_ (fun hHeld=>?_)
        ·go_keep
        clear hK K
        refine wpAnyH_ready (rs:=[8]) (by kernel_rfl) (by simp) ?_
        refine AllReadyH.cons rfl (fun K hK=>?_) AllReadyH.nil
        go_simp
        refine (zP _ _).mono ?_
        rintro x w6 ⟨rfl,rfl⟩
        dsimp only
        refine hK.out _ _ ?_ (fun hHeld=>?_)
        ·go_keep
        clear hK K
        refine wpAnyH_take (i:=9) (v:=?_) rfl (by kernel_rfl) (by kernel_rfl) (by kernel_rfl) (fun _ _ _ h=>h) (Or.inl ⟨by rfl,?_⟩) (by assumption) ?_
        rotate_left
        ·intro W hW;(try dsimp only at hW);go_simp;(try with_reducible rfl)
        refine wpAnyH_done (by kernel_rfl) ?_ _
        show Oper.wp _ _ _ _ _ _
        go_simp
        go_wp2_with fail
        go_roundw
        all_goals first | exact ⟨f2,l3,_,aa HX,by omega,aa L6,HT8⟩ | (have e1:=PL.left HT8;have e2:=aa HL;show left s b _<left s b _;refine Nat.lt_of_le_of_lt (Nat.le_of_eq e1) ?_;omega)
       ·go_simp
        refine (zP _ _).mono ?_
        rintro x w6 ⟨rfl,rfl⟩
        dsimp only
        refine hK.out _ _ ?_ (fun hHeld=>?_)
        ·go_keep
        clear hK K
        refine wpAnyH_ready (rs:=[1]) (by kernel_rfl) (by simp) ?_
        refine AllReadyH.cons rfl (fun K hK=>?_) AllReadyH.nil
        go_simp
        refine hK.out _ _ ?_ (fun hHeld=>?_)
        ·go_keep
        clear hK K
        refine wpAnyH_take (i:=9) (v:=?_) rfl (by kernel_rfl) (by kernel_rfl) (by kernel_rfl) (fun _ _ _ h=>h) (Or.inl ⟨by rfl,?_⟩) (by assumption) ?_
        rotate_left
        ·intro W hW;(try dsimp only at hW);go_simp;(try with_reducible rfl)
        refine wpAnyH_done (by kernel_rfl) ?_ _
        show Oper.wp _ _ _ _ _ _
        go_simp
        go_wp2_with fail
        go_roundw
        all_goals first | exact ⟨f2,l3,_,aa HX,by omega,aa L6,HT8⟩ | (have e1:=PL.left HT8;have e2:=aa HL;show left s b _<left s b _;refine Nat.lt_of_le_of_lt (Nat.le_of_eq e1) ?_;omega)
end
end Go.Proofs.YtfolanohokflkaaGreatDoor
