import Derived.Test.YtfolanohokflkaaGreatDoorNdQ
import Derived.BigRegion
import Derived.Deep.RegionHeld3
import Derived.Deep.RegionWith
import Derived.Test.YtfolanohokflkaaGreatDoorLastA
import Derived.WalkKit
import Derived.WalkSpells
import Derived.WalkLawsBesides
import Derived.WalkMore
namespace Go.Proofs.YtfolanohokflkaaGreatDoor
open Go.RowKit
section
variable {w0 w:World} {b:Nat} {s:ByteArray} {d:Int} {l:List Sy}
abbrev BdP (a:List Sy->bu Pn):Prop:=∀ l v l',a l=.ok (v,l')->0<=v.2/\v.2<=61
def acY (R:bu Pn) (at_:List Sy->bu Pn) (w1 wr:World) (b:Nat) (s:ByteArray) (d:Int) (k:Nat):Prop:=
 ∃ f l,oI (wU k) (dZ s.size at_ f l)=R/\l.length<f/\k+l.length<=60/\Hid (PL w1 wr b s d l)
def Y8 (w w1 wr:World) (nb:Nat) (z:Pn):Prop:=
 ∃ n,0<=z.2/\z.2<=61/\w1.heap.size<=nb/\aA wr nb n/\aY wr (fun j=>w.heap.size<j/\j≠nb) n z
def acZ (R:bu Pn) (w w1 wr:World) (b:Nat) (s:ByteArray) (d:Int) (k nb:Nat):Prop:=
 ∃ f l z,oI (wU k) (kI s.size f z l)=R/\l.length<f/\Y8 w w1 wr nb z/\Hid (PL w1 wr b s d l)
theorem KN {w1 wq:World} {nb:Nat} {n2 n':Nd} {t:Pt} {z':Pn} (hnb:w1.heap.size<=nb) (hw1:w.heap.size<w1.heap.size) (hat:Hid (aA wq nb n2)) (hv:iF wq (fun j=>w.heap.size<j/\j≠nb) n2 t)
  (hpv:n'.pv=.slice (some ⟨wq.heap.size,0,none⟩) 1 1) (hz:n'.sz=z'.2) (h0:0<=z'.2) (h61:z'.2<=61)
  (hk:∀ W,jv W (fun j=>w.heap.size<j/\j≠nb) n'.pv [n2]->iF W (fun j=>w.heap.size<j/\j≠nb) n2 t->iF W (fun j=>w.heap.size<j/\j≠nb) n' z'.1) :
  Y8 w w1 ((bI wq nb n').alloc (aD n2)).drew nb z':=by
 have hlt:=aA.lt (aa hat)
 have hbl:∀ j,j<wq.heap.size->j≠nb->((bI wq nb n').alloc (aD n2)).drew.heap[j]? = wq.heap[j]? := fun j hj hn=>(Below.heap_alloc (bI wq nb n') (aD n2) j (by rw [nT];exact hj)).trans (dh hn)
 refine ⟨n',h0,h61,hnb,?_,hz,hk _ ?_ (hv.move fun j hj hl=>⟨hbl j hl hj.2,hj⟩)⟩
 ·exact (Below.heap_alloc (bI wq nb n') (aD n2) nb (by rw [nT];exact hlt)).trans (aA.set (aa hat))
 ·rw [hpv]
  refine ⟨?_,fun k hk=>?_⟩
  ·have h:=World.ownsRow_lit (base:=0) (e:=65) (size:=7) (bI wq nb n') #[.int .i64 n2.sh,.slice n2.pa n2.pn n2.pc,.string n2.ss,.int .i64 n2.le,.int .i64 n2.mo,.int .i64 n2.fa,.int .i64 n2.sz] 1 (Nat.zero_le _) (by decide) rfl
   rw [nT] at h
   have e:dG [n2]=Lu n2:=by simp [dG]
   rw [e]
   exact h.drew
  ·have:wq.heap.size=k:=by simpa [Value.ownBlock] using hk
   subst this
   exact ⟨by omega,by omega⟩
theorem PL.drew (h:Hid (PL w0 w b s d l)):Hid (PL w0 w.drew b s d l):=PL.below h ⟨rfl,rfl,rfl,Nat.le_refl _,fun _ _=>rfl⟩
theorem Pj {w1 wq:World} {nb:Nat} (h:Hid (PL w1 wq b s d l)) (hnb:w1.heap.size<=nb) (hb:b<nb) (n' n2:Nd):Hid (PL w1 ((bI wq nb n').alloc (aD n2)).drew b s d l):=
 PL.drew (PL.alloc (PL.bI h hnb hb n') (aD n2))
def V3 (w w1 wr:World) (b:Nat) (s:ByteArray) (d:Int) (k i nb:Nat) (zf:Pn) (l:List Sy):Prop:=
 ∃ z,wU (k - i) z=zf/\Y8 w w1 wr nb z/\Hid (PL w1 wr b s d l)
theorem Ns {w1 wr w4:World} {nb k:Nat} {z:Pn} (hx:Hid (Y8 w w1 wr nb z)) (hs:Hid (PL w1 wr b s d l)) (h4:Hid (PL wr w4 b s d l)) (hb:b<w.heap.size) (hb3:b<nb):Hid (V3 w w1 w4 b s d k 0 nb (wU k z) l):=by
 obtain ⟨n,h0,h1,h2,h3,h5⟩:=aa hx
 exact ⟨z,rfl,⟨n,h0,h1,h2,aA.up h3 (PL.up h4) (by omega),aY.move h5 fun j hj hl=>⟨(PL.up h4).block j hl (by omega),hj⟩⟩,PL.join (PL.up hs) h4⟩
theorem Sa {n:Nat} {l l1:List Sy} {o:jY} (h:eU n l=.ok (o,l1)):0<=o.2.2/\o.2.2<=13:=by
 have e:=rE n l
 rw [h] at e
 exact Nr e
theorem KO {n:Nat} {l l1:List Sy} {o:jY} (hr:mr (hd l)=true) (h:eU n l=.ok (o,l1)):l1.length<l.length:=by
 have e:=rE n l
 rw [h] at e
 exact yM hr e
set_option maxRecDepth 100000 in
set_option maxHeartbeats 8000000 in
theorem ac0 {at_:List Sy->bu Pn} (HA:Hid (oC 304 at_ b s d)) (HB:Hid (BdP at_)) (h:Hid (PL w w b s d l)) :
  Calls Tryz.prog 280 #[.pointer (some ⟨b,0,none⟩)] w (Gm (dZ s.size at_ (l.length+1) l) w b s d):=by
 obtain ⟨R,hR⟩:∃ R,dZ s.size at_ (l.length+1) l=R:=⟨_,rfl⟩
 rw [hR]
 have hbw:=PL.lt h
 have zM:Hid (∀ w',Hid (Up b (w.alloc (aD nd0)) w')->Hid (Up b w w')):=fun w' hu=>jD h hu
 have Bv:Hid (∀ w' l' n,Hid (PL (w.alloc (aD nd0)) w' b s d l')->Hid (PL w (bI w' w.heap.size n) b s d l')):=fun w' l' n h'=>nU h h' n
 have HAT:=hide (aA.new w nd0)
 have hsz1:(w.alloc (aD nd0)).heap.size=w.heap.size+1:=by simp
 have HP:Hid (acY R at_ (w.alloc (aD nd0)) (w.alloc (aD nd0)) b s d 0):=⟨_,l,by rw [R9];exact hR,Nat.lt_succ_self _,by have:=PL.len h;omega,jE h (aD nd0)⟩
 clear hR h
 go_enter Tryz.func280,Tryz.ntmps280
 go_wp2_with fail
 go_loopw [3] (fun v wr=>∃ k:Nat,v=.int .i64 k/\Hid (acY R at_ (w.alloc (aD nd0)) wr b s d k)) (fun _ wr=>left s b wr)
 case atStart=>exact ⟨0,rfl,HP⟩
 case round=>
  clear HP
  obtain ⟨k,rfl,HP⟩:=hrel
  obtain ⟨f,l',hf,hlt,hk,HS⟩:=aa HP
  obtain ⟨f,rfl⟩:∃ f',f=f'+1:=⟨f - 1,by omega⟩
  have HL:=hide (PL.left HS)
  have aek:(k:Int)<=60:=by omega
  by_cases hn:hd l'=126
  ·have hp:=mq (l:=l') (by omega)
   rw [R_ hn] at hf
   have HF:=hide hf
   have HN:=hide hn
   clear hf hn HP
   go_wp2_with (first
    | (go_at_call 219;refine (dz HS 126 HN).mono ?_;clear HS;rintro x w2 ⟨rfl,HS⟩))
   go_roundw
   case rel=>exact ⟨k+1,by go_num,f,_,aa HF,by omega,by omega,HS⟩
   case measure=>
    have e1:=PL.left HS
    have e2:=aa HL
    show left s b _<left s b _
    omega
  ·rw [dZ,if_neg hn] at hf
   have HN:=hide hn
   clear hn HP HL
   cases ha:at_ l' with
   | error y=>
    rw [ha] at hf
    have HX:Hid (R=.error y):=hf.symm
    have HAE:=hide ha
    clear ha hf
    go_wp2_with (first
     | (go_at_call 219;refine (cu HS 126 HN).mono ?_;clear HS;rintro x w2 ⟨rfl,HS⟩)
     | (go_at_call 304;refine (kL (aa HA _ _ (PL.base HS)) HAE).mono ?_;rintro x w3 ⟨rfl,HU⟩;have lv:=hide ((PL.up HS).trans (aa HU))))
    rw [aa HX]
    exact ⟨rfl,rfl,aa zM _ lv⟩
   | ok y=>
    obtain ⟨z,l1⟩:=y
    rw [ha] at hf
    dsimp only at hf
    obtain ⟨hz0,KQ⟩:=aa HB _ _ _ ha
    have HAE:=hide ha
    have HF:=hide hf
    clear ha hf
    go_wp2_with (first
     | (go_at_call 219;refine (cu HS 126 HN).mono ?_;clear HS;rintro x w2 ⟨rfl,HS⟩)
     | (go_at_call 304;refine (kM (aa HA _ _ (PL.base HS)) HAE).mono ?_;simp only [gD];rintro x w3 ⟨n,rfl,lI,mG⟩;have HT3:=PL.join (PL.up HS) mG;have hs2:=(PL.up HS).size;have hs3:=(PL.up HT3).size;have hb3:=PL.lt HT3))
    have HQ:Hid (acZ R w (w.alloc (aD nd0)) (w3.alloc (aD n)) b s d k w3.heap.size):=by
     refine ⟨_,l1,z,aa HF,Nat.lt_succ_self _,⟨n,hz0,KQ,hs3,aA.new w3 n,?_⟩,PL.alloc HT3 _⟩
     exact aY.move lI fun j hj hl=>⟨Below.heap_alloc w3 _ j hl,by omega,by omega⟩
    clear HF HS mG HT3 HAE HN lI
    generalize w3.alloc (aD n)=wb at *
    generalize w3.heap.size=nb at *
    go_loopw [] (fun wr=>Hid (acZ R w (w.alloc (aD nd0)) wr b s d k nb)) (fun wr=>left s b wr)
    case atStart=>exact HQ
    case round=>
     clear HQ hz0 KQ hlt hk
     obtain ⟨f2,l2,z2,hf2,hlt2,LA,HS⟩:=aa hrel
     obtain ⟨f2,rfl⟩:∃ f',f2=f'+1:=⟨f2 - 1,by omega⟩
     have HL:=hide (PL.left HS)
     rw [kI] at hf2
     obtain ⟨c,hcc⟩:∃ c,hd l2=c:=⟨_,rfl⟩
     have gP:=hide hcc
     rw [hcc] at hf2
     cases hr:mr c
     ·rw [if_neg (by rw [hr];decide)] at hf2
      have HX:Hid (R=.ok (wU k z2,l2)):=hf2.symm
      have HR:=hide hr
      have ac1:=hide LA
      clear hr hf2 hcc hrel HL LA
      go_wp2_with (first
       | (go_at_call 251;refine (d_ (PL.base HS) gP).mono ?_;rintro x w2 ⟨rfl,HS2⟩)
       | (go_at_call 305;refine (Bz HS2 gP HR).mono ?_;clear HS2;rintro x w4 ⟨rfl,HS2⟩))
      have HW:Hid (V3 w (w.alloc (aD nd0)) w4 b s d k 0 nb (wU k z2) l2):=Ns ac1 HS HS2 hbw hb3
      clear HS HS2 ac1 HR gP
      go_loopw [28] (fun v wr=>∃ i:Nat,i<=k/\v=.int .i64 i/\Hid (V3 w (w.alloc (aD nd0)) wr b s d k i nb (wU k z2) l2)) (fun v _=>k - (intOf v).toNat)
      case atStart=>exact ⟨0,Nat.zero_le _,rfl,HW⟩
      case round=>
       clear HW
       obtain ⟨i,hi,rfl,HW⟩:=hrel
       obtain ⟨z,hzk,LA,HS⟩:=aa HW
       obtain ⟨n2,hz0,KQ,hnb,G9,hok2⟩:=LA
       have hsz:n2.sz=z.2:=hok2.1
       have si:=hide G9
       rw [<-hsz] at hz0 KQ
       obtain ⟨c0,c1,c2,c3,c4,c5,c6⟩:=aA.cells G9
       have cf:=aA.fz G9
       have hq3:=aA.lt G9
       have ac2:nb≠b:=by omega
       by_cases hik:i<k
       ·have ael:(i:Int)<(k:Int):=by omega
        have hwr:IntKind.i64.wrap (n2.sz+1)=n2.sz+1:=by simp [IntKind.wrap,IntKind.bits,IntKind.signed];omega
        have hs3':w.heap.size<(w.alloc (aD nd0)).heap.size:=by omega
        have LA:=hide (KN (w:=w) (z':=I5 z) (n':=⟨4,some ⟨wr.heap.size,0,none⟩,1,1,⟨#[]⟩,0,0,0,dB (n2.sz+1)⟩) hnb hs3' si hok2.2 rfl (by show _=dB (z.2+1);rw [<-hsz]) (by show 0<=dB (z.2+1);rw [<-hsz];exact VZ (by omega)) (VY _) (fun W h1 h2=>.not rfl h1 h2))
        have HT8:=Pj HS hnb hb3 ⟨4,some ⟨wr.heap.size,0,none⟩,1,1,⟨#[]⟩,0,0,0,dB (n2.sz+1)⟩ n2
        have HZK:Hid (wU (k - (i+1)) (I5 z)=wU k z2):=by show _=_;rw [show k - i=(k - (i+1))+1 from by omega] at hzk;exact hzk
        clear hzk hok2 G9 hsz HW HS si
        go_wp2_with fail
        go_region_with
         ((go_at_call 249;refine (zF _ _).mono ?_;rintro x w6 ⟨rfl,rfl⟩))
        all_goals (go_wp2_with fail;go_roundw)
        all_goals first | exact ⟨i+1,by omega,by go_num,I5 z,aa HZK,aa LA,HT8⟩ | (simp [intOf];omega)
       ·have hki:i=k:=by omega
        subst hki
        rw [Nat.sub_self] at hzk
        have ib:z=wU i z2:=hzk
        have HR:=aA.up HAT (PL.up HS) (by omega)
        obtain ⟨d0,d1,d2,d3,d4,d5,d6⟩:=aA.cells (aa HR)
        have df:=aA.fz (aa HR)
        have V4:=hide hok2
        rw [ib] at V4
        clear hzk ib hok2 G9 hsz HW hz0 KQ
        go_wp2_with fail
        change bodyPost _ _ _ _ _ (bI wr w.heap.size n2)
        refine jF (rb:=w.heap.size) (n:=n2) 2 rfl rfl rfl (hide (aA.set (aa HR))) ?_
        rw [aa HX]
        exact ⟨n2,rfl,aY.move V4 fun j hj hl=>⟨dh (by omega),by omega⟩,aa Bv _ _ _ HS⟩
     ·rw [if_pos hr] at hf2
      have HR:=hide hr
      cases hm:eU s.size l2 with
      | error y=>
       rw [hm] at hf2
       have HX:Hid (R=.error y):=hf2.symm
       have HM:=hide hm
       have qD:Hid (mr (hd l2)=true):=by show _=_;rw [hcc];exact hr
       clear hr hf2 HL hm hcc hrel
       go_wp2_with (first
        | (go_at_call 251;refine (d_ HS gP).mono ?_;clear HS;rintro x w2 ⟨rfl,HS⟩)
        | (go_at_call 305;refine (Bz HS gP HR).mono ?_;clear HS;rintro x w4 ⟨rfl,HS⟩)
        | (go_at_call 306;refine (h_ (Oq HS (aa qD)) HM).mono ?_;rintro x w5 ⟨rfl,HU⟩))
       rw [aa HX]
       exact ⟨rfl,rfl,aa zM _ HU⟩
      | ok u=>
       obtain ⟨o,l3⟩:=u
       rw [hm] at hf2
       dsimp only at hf2
       have HX:=hide hf2
       have hlen:=KO (by rw [hcc];exact hr) hm
       obtain ⟨hm0,adJ⟩:=Sa hm
       have HM:=hide hm
       have qD:Hid (mr (hd l2)=true):=by show _=_;rw [hcc];exact hr
       obtain ⟨n2,hz0,KQ,hnb,G9,hok2⟩:=LA
       have hsz:n2.sz=z2.2:=hok2.1
       have si:=hide G9
       have V4:=hide hok2
       rw [<-hsz] at hz0 KQ
       have RS:=hide hsz
       clear hsz
       have ac3:0<=n2.sz*o.2.2:=Int.mul_nonneg hz0 hm0
       have adY:n2.sz*o.2.2<=61*13:=Int.mul_le_mul KQ adJ hm0 (by decide)
       have hwr:IntKind.i64.wrap (n2.sz*o.2.2)=n2.sz*o.2.2:=by simp [IntKind.wrap,IntKind.bits,IntKind.signed];omega
       clear hr hf2 hm hcc hrel G9 hok2
       go_wp2_with (first
        | (go_at_call 251;refine (d_ (PL.base HS) gP).mono ?_;rintro x w2 ⟨rfl,HS2⟩)
        | (go_at_call 305;refine (Bz HS2 gP HR).mono ?_;clear HS2;rintro x w4 ⟨rfl,HS2⟩)
        | (go_at_call 306;refine (dL (Oq HS2 (aa qD)) HM).mono ?_;clear HS2;simp only [iw];rintro x w5 ⟨rfl,HS2⟩))
       have qN:=PL.join (PL.up HS) HS2
       have ac2:nb≠b:=by omega
       have SV:=aA.up si (PL.up HS2) ac2
       have iC:=aY.move (G:=fun j=>w.heap.size<j/\j≠nb) V4 fun j hj hl=>⟨(PL.up HS2).block j hl (by omega),hj⟩
       have hn5:=aA.lt (aa SV)
       have HA6:=aA.alloc SV (.cells #[.int .i64 o.1,.int .i64 (gH o.2.1),.int .i64 o.2.2] 63)
       obtain ⟨c0,c1,c2,c3,c4,c5,c6⟩:=aA.cells (aa HA6)
       have cf:=aA.fz (aa HA6)
       have t0:(w5.alloc (.cells #[.int .i64 o.1,.int .i64 (gH o.2.1),.int .i64 o.2.2] 63)).cell? ⟨w5.heap.size,0,none⟩=some (.int .i64 o.1):=bH w5 [.int .i64 o.1,.int .i64 (gH o.2.1),.int .i64 o.2.2] _ 0 _ rfl
       have t1:(w5.alloc (.cells #[.int .i64 o.1,.int .i64 (gH o.2.1),.int .i64 o.2.2] 63)).cell? ⟨w5.heap.size,1,none⟩=some (.int .i64 (gH o.2.1)):=bH w5 [.int .i64 o.1,.int .i64 (gH o.2.1),.int .i64 o.2.2] _ 1 _ rfl
       have t2:(w5.alloc (.cells #[.int .i64 o.1,.int .i64 (gH o.2.1),.int .i64 o.2.2] 63)).cell? ⟨w5.heap.size,2,none⟩=some (.int .i64 o.2.2):=bH w5 [.int .i64 o.1,.int .i64 (gH o.2.1),.int .i64 o.2.2] _ 2 _ rfl
       have hq5:w5.heap.size<(w5.alloc (.cells #[.int .i64 o.1,.int .i64 (gH o.2.1),.int .i64 o.2.2] 63)).heap.size:=by simp
       have hq3:nb<(w5.alloc (.cells #[.int .i64 o.1,.int .i64 (gH o.2.1),.int .i64 o.2.2] 63)).heap.size:=by simp;omega
       have Qw:=aY.move (w':=w5.alloc (.cells #[.int .i64 o.1,.int .i64 (gH o.2.1),.int .i64 o.2.2] 63)) (G:=fun j=>w.heap.size<j/\j≠nb) iC fun j hj hl=>⟨Below.heap_alloc w5 _ j hl,hj⟩
       have Xe:=PL.alloc qN (.cells #[.int .i64 o.1,.int .i64 (gH o.2.1),.int .i64 o.2.2] 63)
       have hnt:nb≠w5.heap.size:=by omega
       have htn:w5.heap.size≠nb:=by omega
       have hs3':w.heap.size<(w.alloc (aD nd0)).heap.size:=by omega
       have hb3':b<nb:=hb3
       have LA:=hide (KN (w:=w) (z':=I4 z2 o) (n':=⟨5,some ⟨(w5.alloc (.cells #[.int .i64 o.1,.int .i64 (gH o.2.1),.int .i64 o.2.2] 63)).heap.size,0,none⟩,1,1,⟨#[]⟩,o.1,gH o.2.1,o.2.2,dB (n2.sz*o.2.2)⟩) hnb hs3' HA6 (aa Qw).2 rfl (by show _=dB (z2.2*o.2.2);rw [<-aa RS]) (by show 0<=dB (z2.2*o.2.2);rw [<-aa RS];exact VZ ac3) (VY _) (fun W h1 h2=>.rep rfl h1 h2 rfl rfl))
       have HT8:=Pj Xe hnb hb3' ⟨5,some ⟨(w5.alloc (.cells #[.int .i64 o.1,.int .i64 (gH o.2.1),.int .i64 o.2.2] 63)).heap.size,0,none⟩,1,1,⟨#[]⟩,o.1,gH o.2.1,o.2.2,dB (n2.sz*o.2.2)⟩ n2
       clear HS HS2 si V4 SV iC qN hn5 HM HR gP qD Qw Xe HA6
       generalize w5.alloc (.cells #[.int .i64 o.1,.int .i64 (gH o.2.1),.int .i64 o.2.2] 63)=wq at *
       generalize w5.heap.size=tb at *
       refine Al (S:=fun w'=>w'.cell? ⟨nb,0,none⟩=some (.int .i64 n2.sh)/\w'.cell? ⟨nb,1,none⟩=some (.slice n2.pa n2.pn n2.pc)/\w'.cell? ⟨nb,2,none⟩=some (.string n2.ss)/\w'.cell? ⟨nb,3,none⟩=some (.int .i64 n2.le)/\w'.cell? ⟨nb,4,none⟩=some (.int .i64 n2.mo)/\w'.cell? ⟨nb,5,none⟩=some (.int .i64 n2.fa)/\w'.cell? ⟨nb,6,none⟩=some (.int .i64 n2.sz)/\w'.cell? ⟨tb,0,none⟩=some (.int .i64 o.1)/\w'.cell? ⟨tb,1,none⟩=some (.int .i64 (gH o.2.1))/\w'.cell? ⟨tb,2,none⟩=some (.int .i64 o.2.2)) rfl (by kernel_rfl) (by kernel_rfl) ⟨c0,c1,c2,c3,c4,c5,c6,t0,t1,t2⟩ (fun hHeld=>?_)
       simp only [List.pop_toArray,List.dropLast,List.size_toArray,List.length_cons,List.length_nil,Nat.reduceAdd]
       refine wpAnyH_take (i:=0) (v:=?_) rfl (by kernel_rfl) (by kernel_rfl) (by kernel_rfl) (fun _ _ _ h=>h) (Or.inl ⟨by rfl,?_⟩) (by assumption) ?_
       rotate_left
       ·intro W hW;(try dsimp only at hW);go_simp;(try with_reducible rfl)
       refine wpAnyH_take (i:=2) (v:=?_) rfl (by kernel_rfl) (by kernel_rfl) (by kernel_rfl) (fun _ _ _ h=>h) (Or.inl ⟨by rfl,?_⟩) (by assumption) ?_
       rotate_left
       ·intro W hW;(try dsimp only at hW);go_simp;(try with_reducible rfl)
       refine wpAnyH_take (i:=3) (v:=?_) rfl (by kernel_rfl) (by kernel_rfl) (by kernel_rfl) (fun _ _ _ h=>h) (Or.inl ⟨by rfl,?_⟩) (by assumption) ?_
       rotate_left
       ·intro W hW;(try dsimp only at hW);go_simp;(try with_reducible rfl)
       refine wpAnyH_take (i:=4) (v:=?_) rfl (by kernel_rfl) (by kernel_rfl) (by kernel_rfl) (fun _ _ _ h=>h) (Or.inl ⟨by rfl,?_⟩) (by assumption) ?_
       rotate_left
       ·intro W hW;(try dsimp only at hW);go_simp;(try with_reducible rfl)
       refine wpAnyH_take (i:=5) (v:=?_) rfl (by kernel_rfl) (by kernel_rfl) (by kernel_rfl) (fun _ _ _ h=>h) (Or.inl ⟨by rfl,?_⟩) (by assumption) ?_
       rotate_left
       ·intro W hW;(try dsimp only at hW);go_simp;(try with_reducible rfl)
       refine wpAnyH_take (i:=6) (v:=?_) rfl (by kernel_rfl) (by kernel_rfl) (by kernel_rfl) (fun _ _ _ h=>h) (Or.inl ⟨by rfl,?_⟩) (by assumption) ?_
       rotate_left
       ·intro W hW;(try dsimp only at hW);go_simp;(try with_reducible rfl)
       refine wpAnyH_take (i:=7) (v:=?_) rfl (by kernel_rfl) (by kernel_rfl) (by kernel_rfl) (fun _ _ _ h=>h) (Or.inl ⟨by rfl,?_⟩) (by assumption) ?_
       rotate_left
       ·intro W hW;(try dsimp only at hW);go_simp;(try with_reducible rfl)
       refine wpAnyH_ready (rs:=[1,8]) (by kernel_rfl) (by simp) ?_
       refine AllReadyH.cons rfl (fun K hK=>?_) (AllReadyH.cons rfl (fun K hK=>?_) AllReadyH.nil)
       ·go_simp
        refine hK.out _ _ ?_ (fun hHeld=>?_)
        ·go_keep
        clear hK K
        refine wpAnyH_ready (rs:=[8]) (by kernel_rfl) (by simp) ?_
        refine AllReadyH.cons rfl (fun K hK=>?_) AllReadyH.nil
        go_simp
        refine (zF _ _).mono ?_
        rintro x w6 ⟨rfl,rfl⟩
        dsimp only
        refine hK.out _ _ ?_ (fun hHeld=>?_)
        ·go_keep
        clear hK K
        refine wpAnyH_take (i:=9) (v:=?_) rfl (by kernel_rfl) (by kernel_rfl) (by kernel_rfl) (fun _ _ _ h=>h) (Or.inl ⟨by rfl,?_⟩) (by assumption) ?_
        rotate_left
        ·intro W hW;(try dsimp only at hW);go_simp;(try with_reducible rfl)
        refine wpAnyH_done (by kernel_rfl) ?_ _
        show Oper.wp _ _ _ _ _ _
        go_simp
        go_wp2_with fail
        go_roundw
        all_goals first | exact ⟨f2,l3,_,aa HX,by omega,aa LA,HT8⟩ | (have e1:=PL.left HT8;have e2:=aa HL;show left s b _<left s b _;refine Nat.lt_of_le_of_lt (Nat.le_of_eq e1) ?_;omega)
       ·go_simp
        refine (zF _ _).mono ?_
        rintro x w6 ⟨rfl,rfl⟩
        dsimp only
        refine hK.out _ _ ?_ (fun hHeld=>?_)
        ·go_keep
        clear hK K
        refine wpAnyH_ready (rs:=[1]) (by kernel_rfl) (by simp) ?_
        refine AllReadyH.cons rfl (fun K hK=>?_) AllReadyH.nil
        go_simp
        refine hK.out _ _ ?_ (fun hHeld=>?_)
        ·go_keep
        clear hK K
        refine wpAnyH_take (i:=9) (v:=?_) rfl (by kernel_rfl) (by kernel_rfl) (by kernel_rfl) (fun _ _ _ h=>h) (Or.inl ⟨by rfl,?_⟩) (by assumption) ?_
        rotate_left
        ·intro W hW;(try dsimp only at hW);go_simp;(try with_reducible rfl)
        refine wpAnyH_done (by kernel_rfl) ?_ _
        show Oper.wp _ _ _ _ _ _
        go_simp
        go_wp2_with fail
        go_roundw
        all_goals first | exact ⟨f2,l3,_,aa HX,by omega,aa LA,HT8⟩ | (have e1:=PL.left HT8;have e2:=aa HL;show left s b _<left s b _;refine Nat.lt_of_le_of_lt (Nat.le_of_eq e1) ?_;omega)
end
end Go.Proofs.YtfolanohokflkaaGreatDoor
