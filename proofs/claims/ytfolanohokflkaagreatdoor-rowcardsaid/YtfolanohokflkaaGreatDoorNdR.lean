import Derived.Test.YtfolanohokflkaaGreatDoorNdQ
import Derived.BigRegion
import Derived.Deep.RegionHeld3
import Derived.Deep.RegionWith
import Derived.Test.YtfolanohokflkaaGreatDoorLastA
import Derived.WalkKit
import Derived.WalkSpells
import Derived.WalkLawsBesides
import Derived.WalkMore
namespace Go.Proofs.YtfolanohokflkaaGreatDoor
open Go.RowKit
section
variable {w0 w:World} {b:Nat} {s:ByteArray} {d:Int} {l:List Sy}
abbrev BdP (a:List Sy->bn Pn):Prop:=∀ l v l',a l=.ok (v,l')->0<=v.2/\v.2<=61
def ad9 (R:bn Pn) (at_:List Sy->bn Pn) (w1 wr:World) (b:Nat) (s:ByteArray) (d:Int) (k:Nat):Prop:=
 ∃ f l,o5 (xD k) (cO s.size at_ f l)=R/\l.length<f/\k+l.length<=60/\Hid (PL w1 wr b s d l)
def aat (w w1 wr:World) (nb:Nat) (z:Pn):Prop:=
 ∃ n,0<=z.2/\z.2<=61/\w1.heap.size<=nb/\ax wr nb n/\a_ wr (fun j=>w.heap.size<j/\j≠nb) n z
def ad_ (R:bn Pn) (w w1 wr:World) (b:Nat) (s:ByteArray) (d:Int) (k nb:Nat):Prop:=
 ∃ f l z,o5 (xD k) (gY s.size f z l)=R/\l.length<f/\aat w w1 wr nb z/\Hid (PL w1 wr b s d l)
theorem Lh {w1 wq:World} {nb:Nat} {n2 n':Nd} {t:Pt} {z':Pn} (hnb:w1.heap.size<=nb) (hw1:w.heap.size<w1.heap.size) (hat:Hid (ax wq nb n2)) (hv:iN wq (fun j=>w.heap.size<j/\j≠nb) n2 t)
  (hpv:n'.pv=.slice (some ⟨wq.heap.size,0,none⟩) 1 1) (hz:n'.sz=z'.2) (h0:0<=z'.2) (h61:z'.2<=61)
  (hk:∀ W,jG W (fun j=>w.heap.size<j/\j≠nb) n'.pv [n2]->iN W (fun j=>w.heap.size<j/\j≠nb) n2 t->iN W (fun j=>w.heap.size<j/\j≠nb) n' z'.1) :
  aat w w1 ((bO wq nb n').alloc (aB n2)).drew nb z':=by
 have hlt:=ax.lt (aa hat)
 have hbl:∀ j,j<wq.heap.size->j≠nb->((bO wq nb n').alloc (aB n2)).drew.heap[j]? = wq.heap[j]? := fun j hj hn=>(Below.heap_alloc (bO wq nb n') (aB n2) j (by rw [oo];exact hj)).trans (dm hn)
 refine ⟨n',h0,h61,hnb,?_,hz,hk _ ?_ (hv.move fun j hj hl=>⟨hbl j hl hj.2,hj⟩)⟩
 ·exact (Below.heap_alloc (bO wq nb n') (aB n2) nb (by rw [oo];exact hlt)).trans (ax.set (aa hat))
 ·rw [hpv]
  refine ⟨?_,fun k hk=>?_⟩
  ·have h:=World.ownsRow_lit (base:=0) (e:=65) (size:=7) (bO wq nb n') #[.int .i64 n2.sh,.slice n2.pa n2.pn n2.pc,.string n2.ss,.int .i64 n2.le,.int .i64 n2.mo,.int .i64 n2.fa,.int .i64 n2.sz] 1 (Nat.zero_le _) (by decide) rfl
   rw [oo] at h
   have e:dN [n2]=Md n2:=by simp [dN]
   rw [e]
   exact h.drew
  ·have:wq.heap.size=k:=by simpa [Value.ownBlock] using hk
   subst this
   exact ⟨by omega,by omega⟩
theorem PL.drew (h:Hid (PL w0 w b s d l)):Hid (PL w0 w.drew b s d l):=PL.below h ⟨rfl,rfl,rfl,Nat.le_refl _,fun _ _=>rfl⟩
theorem Qi {w1 wq:World} {nb:Nat} (h:Hid (PL w1 wq b s d l)) (hnb:w1.heap.size<=nb) (hb:b<nb) (n' n2:Nd):Hid (PL w1 ((bO wq nb n').alloc (aB n2)).drew b s d l):=
 PL.drew (PL.alloc (PL.bO h hnb hb n') (aB n2))
def Xt (w w1 wr:World) (b:Nat) (s:ByteArray) (d:Int) (k i nb:Nat) (zf:Pn) (l:List Sy):Prop:=
 ∃ z,xD (k - i) z=zf/\aat w w1 wr nb z/\Hid (PL w1 wr b s d l)
theorem Oe {w1 wr w4:World} {nb k:Nat} {z:Pn} (hx:Hid (aat w w1 wr nb z)) (hs:Hid (PL w1 wr b s d l)) (h4:Hid (PL wr w4 b s d l)) (hb:b<w.heap.size) (hb3:b<nb):Hid (Xt w w1 w4 b s d k 0 nb (xD k z) l):=by
 obtain ⟨n,h0,h1,h2,h3,h5⟩:=aa hx
 exact ⟨z,rfl,⟨n,h0,h1,h2,ax.up h3 (PL.up h4) (by omega),a_.move h5 fun j hj hl=>⟨(PL.up h4).block j hl (by omega),hj⟩⟩,PL.join (PL.up hs) h4⟩
theorem TA {n:Nat} {l l1:List Sy} {o:jc} (h:dM n l=.ok (o,l1)):0<=o.2.2/\o.2.2<=13:=by
 have e:=r_ n l
 rw [h] at e
 exact Od e
theorem Li {n:Nat} {l l1:List Sy} {o:jc} (hr:kH (hd l)=true) (h:dM n l=.ok (o,l1)):l1.length<l.length:=by
 have e:=r_ n l
 rw [h] at e
 exact y8 hr e
set_option maxRecDepth 100000 in
set_option maxHeartbeats 8000000 in
theorem aea {at_:List Sy->bn Pn} (HA:Hid (oN 304 at_ b s d)) (HB:Hid (BdP at_)) (h:Hid (PL w w b s d l)) :
  Calls Tryz.prog 280 #[.pointer (some ⟨b,0,none⟩)] w (Gt (cO s.size at_ (l.length+1) l) w b s d):=by
 obtain ⟨R,hR⟩:∃ R,cO s.size at_ (l.length+1) l=R:=⟨_,rfl⟩
 rw [hR]
 have hbw:=PL.lt h
 have zY:Hid (∀ w',Hid (Up b (w.alloc (aB nd0)) w')->Hid (Up b w w')):=fun w' hu=>jP h hu
 have BI:Hid (∀ w' l' n,Hid (PL (w.alloc (aB nd0)) w' b s d l')->Hid (PL w (bO w' w.heap.size n) b s d l')):=fun w' l' n h'=>oq h h' n
 have HAT:=hide (ax.new w nd0)
 have hsz1:(w.alloc (aB nd0)).heap.size=w.heap.size+1:=by simp
 have HP:Hid (ad9 R at_ (w.alloc (aB nd0)) (w.alloc (aB nd0)) b s d 0):=⟨_,l,by rw [Ty];exact hR,Nat.lt_succ_self _,by have:=PL.len h;omega,jQ h (aB nd0)⟩
 clear hR h
 go_enter Tryz.func280,Tryz.ntmps280
 go_wp2_with fail
 go_loopw [3] (fun v wr=>∃ k:Nat,v=.int .i64 k/\Hid (ad9 R at_ (w.alloc (aB nd0)) wr b s d k)) (fun _ wr=>left s b wr)
 case atStart=>exact ⟨0,rfl,HP⟩
 case round=>
  clear HP
  obtain ⟨k,rfl,HP⟩:=hrel
  obtain ⟨f,l',hf,hlt,hk,HS⟩:=aa HP
  obtain ⟨f,rfl⟩:∃ f',f=f'+1:=⟨f - 1,by omega⟩
  have HL:=hide (PL.left HS)
  have afr:(k:Int)<=60:=by omega
  by_cases hn:hd l'=126
  ·have hp:=mK (l:=l') (by omega)
   rw [Tz hn] at hf
   have HF:=hide hf
   have HN:=hide hn
   clear hf hn HP
   go_wp2_with (first
    | (go_at_call 219;refine (dF HS 126 HN).mono ?_;clear HS;rintro x w2 ⟨rfl,HS⟩))
   go_roundw
   case rel=>exact ⟨k+1,by go_num,f,_,aa HF,by omega,by omega,HS⟩
   case measure=>
    have e1:=PL.left HS
    have e2:=aa HL
    show left s b _<left s b _
    omega
  ·rw [cO,if_neg hn] at hf
   have HN:=hide hn
   clear hn HP HL
   cases ha:at_ l' with
   | error y=>
    rw [ha] at hf
    have HX:Hid (R=.error y):=hf.symm
    have HAE:=hide ha
    clear ha hf
    go_wp2_with (first
     | (go_at_call 219;refine (dh HS 126 HN).mono ?_;clear HS;rintro x w2 ⟨rfl,HS⟩)
     | (go_at_call 304;refine (kS (aa HA _ _ (PL.base HS)) HAE).mono ?_;rintro x w3 ⟨rfl,HU⟩;have lN:=hide ((PL.up HS).trans (aa HU))))
    rw [aa HX]
    exact ⟨rfl,rfl,aa zY _ lN⟩
   | ok y=>
    obtain ⟨z,l1⟩:=y
    rw [ha] at hf
    dsimp only at hf
    obtain ⟨hz0,Lj⟩:=aa HB _ _ _ ha
    have HAE:=hide ha
    have HF:=hide hf
    clear ha hf
    go_wp2_with (first
     | (go_at_call 219;refine (dh HS 126 HN).mono ?_;clear HS;rintro x w2 ⟨rfl,HS⟩)
     | (go_at_call 304;refine (kT (aa HA _ _ (PL.base HS)) HAE).mono ?_;simp only [gJ];rintro x w3 ⟨n,rfl,lQ,mR⟩;have HT3:=PL.join (PL.up HS) mR;have hs2:=(PL.up HS).size;have hs3:=(PL.up HT3).size;have hb3:=PL.lt HT3))
    have HQ:Hid (ad_ R w (w.alloc (aB nd0)) (w3.alloc (aB n)) b s d k w3.heap.size):=by
     refine ⟨_,l1,z,aa HF,Nat.lt_succ_self _,⟨n,hz0,Lj,hs3,ax.new w3 n,?_⟩,PL.alloc HT3 _⟩
     exact a_.move lQ fun j hj hl=>⟨Below.heap_alloc w3 _ j hl,by omega,by omega⟩
    clear HF HS mR HT3 HAE HN lQ
    generalize w3.alloc (aB n)=wb at *
    generalize w3.heap.size=nb at *
    go_loopw [] (fun wr=>Hid (ad_ R w (w.alloc (aB nd0)) wr b s d k nb)) (fun wr=>left s b wr)
    case atStart=>exact HQ
    case round=>
     clear HQ hz0 Lj hlt hk
     obtain ⟨f2,l2,z2,hf2,hlt2,Mg,HS⟩:=aa hrel
     obtain ⟨f2,rfl⟩:∃ f',f2=f'+1:=⟨f2 - 1,by omega⟩
     have HL:=hide (PL.left HS)
     rw [gY] at hf2
     obtain ⟨c,hcc⟩:∃ c,hd l2=c:=⟨_,rfl⟩
     have g_:=hide hcc
     rw [hcc] at hf2
     cases hr:kH c
     ·rw [if_neg (by rw [hr];decide)] at hf2
      have HX:Hid (R=.ok (xD k z2,l2)):=hf2.symm
      have HR:=hide hr
      have aeb:=hide Mg
      clear hr hf2 hcc hrel HL Mg
      go_wp2_with (first
       | (go_at_call 251;refine (eH (PL.base HS) g_).mono ?_;rintro x w2 ⟨rfl,HS2⟩)
       | (go_at_call 305;refine (BK HS2 g_ HR).mono ?_;clear HS2;rintro x w4 ⟨rfl,HS2⟩))
      have HW:Hid (Xt w (w.alloc (aB nd0)) w4 b s d k 0 nb (xD k z2) l2):=Oe aeb HS HS2 hbw hb3
      clear HS HS2 aeb HR g_
      go_loopw [28] (fun v wr=>∃ i:Nat,i<=k/\v=.int .i64 i/\Hid (Xt w (w.alloc (aB nd0)) wr b s d k i nb (xD k z2) l2)) (fun v _=>k - (intOf v).toNat)
      case atStart=>exact ⟨0,Nat.zero_le _,rfl,HW⟩
      case round=>
       clear HW
       obtain ⟨i,hi,rfl,HW⟩:=hrel
       obtain ⟨z,hzk,Mg,HS⟩:=aa HW
       obtain ⟨n2,hz0,Lj,hnb,Ht,hok2⟩:=Mg
       have hsz:n2.sz=z.2:=hok2.1
       have sZ:=hide Ht
       rw [<-hsz] at hz0 Lj
       obtain ⟨c0,c1,c2,c3,c4,c5,c6⟩:=ax.cells Ht
       have cf:=ax.fz Ht
       have hq3:=ax.lt Ht
       have aec:nb≠b:=by omega
       by_cases hik:i<k
       ·have afs:(i:Int)<(k:Int):=by omega
        have hwr:IntKind.i64.wrap (n2.sz+1)=n2.sz+1:=by simp [IntKind.wrap,IntKind.bits,IntKind.signed];omega
        have hs3':w.heap.size<(w.alloc (aB nd0)).heap.size:=by omega
        have Mg:=hide (Lh (w:=w) (z':=Jh z) (n':=⟨4,some ⟨wr.heap.size,0,none⟩,1,1,⟨#[]⟩,0,0,0,dG (n2.sz+1)⟩) hnb hs3' sZ hok2.2 rfl (by show _=dG (z.2+1);rw [<-hsz]) (by show 0<=dG (z.2+1);rw [<-hsz];exact Xr (by omega)) (Xq _) (fun W h1 h2=>.not rfl h1 h2))
        have HT8:=Qi HS hnb hb3 ⟨4,some ⟨wr.heap.size,0,none⟩,1,1,⟨#[]⟩,0,0,0,dG (n2.sz+1)⟩ n2
        have HZK:Hid (xD (k - (i+1)) (Jh z)=xD k z2):=by show _=_;rw [show k - i=(k - (i+1))+1 from by omega] at hzk;exact hzk
        clear hzk hok2 Ht hsz HW HS sZ
        go_wp2_with fail
        go_region_with
         ((go_at_call 249;refine (zR _ _).mono ?_;rintro x w6 ⟨rfl,rfl⟩))
        all_goals (go_wp2_with fail;go_roundw)
        all_goals first | exact ⟨i+1,by omega,by go_num,Jh z,aa HZK,aa Mg,HT8⟩ | (simp [intOf];omega)
       ·have hki:i=k:=by omega
        subst hki
        rw [Nat.sub_self] at hzk
        have iy:z=xD i z2:=hzk
        have HR:=ax.up HAT (PL.up HS) (by omega)
        obtain ⟨d0,d1,d2,d3,d4,d5,d6⟩:=ax.cells (aa HR)
        have df:=ax.fz (aa HR)
        have Xu:=hide hok2
        rw [iy] at Xu
        clear hzk iy hok2 Ht hsz HW hz0 Lj
        go_wp2_with fail
        change bodyPost _ _ _ _ _ (bO wr w.heap.size n2)
        refine jR (rb:=w.heap.size) (n:=n2) 2 rfl rfl rfl (hide (ax.set (aa HR))) ?_
        rw [aa HX]
        exact ⟨n2,rfl,a_.move Xu fun j hj hl=>⟨dm (by omega),by omega⟩,aa BI _ _ _ HS⟩
     ·rw [if_pos hr] at hf2
      have HR:=hide hr
      cases hm:dM s.size l2 with
      | error y=>
       rw [hm] at hf2
       have HX:Hid (R=.error y):=hf2.symm
       have HM:=hide hm
       have qX:Hid (kH (hd l2)=true):=by show _=_;rw [hcc];exact hr
       clear hr hf2 HL hm hcc hrel
       go_wp2_with (first
        | (go_at_call 251;refine (eH HS g_).mono ?_;clear HS;rintro x w2 ⟨rfl,HS⟩)
        | (go_at_call 305;refine (BK HS g_ HR).mono ?_;clear HS;rintro x w4 ⟨rfl,HS⟩)
        | (go_at_call 306;refine (iw (O9 HS (aa qX)) HM).mono ?_;rintro x w5 ⟨rfl,HU⟩))
       rw [aa HX]
       exact ⟨rfl,rfl,aa zY _ HU⟩
      | ok u=>
       obtain ⟨o,l3⟩:=u
       rw [hm] at hf2
       dsimp only at hf2
       have HX:=hide hf2
       have hlen:=Li (by rw [hcc];exact hr) hm
       obtain ⟨hm0,aeT⟩:=TA hm
       have HM:=hide hm
       have qX:Hid (kH (hd l2)=true):=by show _=_;rw [hcc];exact hr
       obtain ⟨n2,hz0,Lj,hnb,Ht,hok2⟩:=Mg
       have hsz:n2.sz=z2.2:=hok2.1
       have sZ:=hide Ht
       have Xu:=hide hok2
       rw [<-hsz] at hz0 Lj
       have Tg:=hide hsz
       clear hsz
       have aed:0<=n2.sz*o.2.2:=Int.mul_nonneg hz0 hm0
       have ae6:n2.sz*o.2.2<=61*13:=Int.mul_le_mul Lj aeT hm0 (by decide)
       have hwr:IntKind.i64.wrap (n2.sz*o.2.2)=n2.sz*o.2.2:=by simp [IntKind.wrap,IntKind.bits,IntKind.signed];omega
       clear hr hf2 hm hcc hrel Ht hok2
       go_wp2_with (first
        | (go_at_call 251;refine (eH (PL.base HS) g_).mono ?_;rintro x w2 ⟨rfl,HS2⟩)
        | (go_at_call 305;refine (BK HS2 g_ HR).mono ?_;clear HS2;rintro x w4 ⟨rfl,HS2⟩)
        | (go_at_call 306;refine (dS (O9 HS2 (aa qX)) HM).mono ?_;clear HS2;simp only [iH];rintro x w5 ⟨rfl,HS2⟩))
       have pE:=PL.join (PL.up HS) HS2
       have aec:nb≠b:=by omega
       have Uc:=ax.up sZ (PL.up HS2) aec
       have o_:=a_.move (G:=fun j=>w.heap.size<j/\j≠nb) Xu fun j hj hl=>⟨(PL.up HS2).block j hl (by omega),hj⟩
       have hn5:=ax.lt (aa Uc)
       have HA6:=ax.alloc Uc (.cells #[.int .i64 o.1,.int .i64 (gP o.2.1),.int .i64 o.2.2] 63)
       obtain ⟨c0,c1,c2,c3,c4,c5,c6⟩:=ax.cells (aa HA6)
       have cf:=ax.fz (aa HA6)
       have t0:(w5.alloc (.cells #[.int .i64 o.1,.int .i64 (gP o.2.1),.int .i64 o.2.2] 63)).cell? ⟨w5.heap.size,0,none⟩=some (.int .i64 o.1):=bM w5 [.int .i64 o.1,.int .i64 (gP o.2.1),.int .i64 o.2.2] _ 0 _ rfl
       have t1:(w5.alloc (.cells #[.int .i64 o.1,.int .i64 (gP o.2.1),.int .i64 o.2.2] 63)).cell? ⟨w5.heap.size,1,none⟩=some (.int .i64 (gP o.2.1)):=bM w5 [.int .i64 o.1,.int .i64 (gP o.2.1),.int .i64 o.2.2] _ 1 _ rfl
       have t2:(w5.alloc (.cells #[.int .i64 o.1,.int .i64 (gP o.2.1),.int .i64 o.2.2] 63)).cell? ⟨w5.heap.size,2,none⟩=some (.int .i64 o.2.2):=bM w5 [.int .i64 o.1,.int .i64 (gP o.2.1),.int .i64 o.2.2] _ 2 _ rfl
       have hq5:w5.heap.size<(w5.alloc (.cells #[.int .i64 o.1,.int .i64 (gP o.2.1),.int .i64 o.2.2] 63)).heap.size:=by simp
       have hq3:nb<(w5.alloc (.cells #[.int .i64 o.1,.int .i64 (gP o.2.1),.int .i64 o.2.2] 63)).heap.size:=by simp;omega
       have YT:=a_.move (w':=w5.alloc (.cells #[.int .i64 o.1,.int .i64 (gP o.2.1),.int .i64 o.2.2] 63)) (G:=fun j=>w.heap.size<j/\j≠nb) o_ fun j hj hl=>⟨Below.heap_alloc w5 _ j hl,hj⟩
       have Ye:=PL.alloc pE (.cells #[.int .i64 o.1,.int .i64 (gP o.2.1),.int .i64 o.2.2] 63)
       have hnt:nb≠w5.heap.size:=by omega
       have htn:w5.heap.size≠nb:=by omega
       have hs3':w.heap.size<(w.alloc (aB nd0)).heap.size:=by omega
       have hb3':b<nb:=hb3
       have Mg:=hide (Lh (w:=w) (z':=x9 z2 o) (n':=⟨5,some ⟨(w5.alloc (.cells #[.int .i64 o.1,.int .i64 (gP o.2.1),.int .i64 o.2.2] 63)).heap.size,0,none⟩,1,1,⟨#[]⟩,o.1,gP o.2.1,o.2.2,dG (n2.sz*o.2.2)⟩) hnb hs3' HA6 (aa YT).2 rfl (by show _=dG (z2.2*o.2.2);rw [<-aa Tg]) (by show 0<=dG (z2.2*o.2.2);rw [<-aa Tg];exact Xr aed) (Xq _) (fun W h1 h2=>.rep rfl h1 h2 rfl rfl))
       have HT8:=Qi Ye hnb hb3' ⟨5,some ⟨(w5.alloc (.cells #[.int .i64 o.1,.int .i64 (gP o.2.1),.int .i64 o.2.2] 63)).heap.size,0,none⟩,1,1,⟨#[]⟩,o.1,gP o.2.1,o.2.2,dG (n2.sz*o.2.2)⟩ n2
       clear HS HS2 sZ Xu Uc o_ pE hn5 HM HR g_ qX YT Ye HA6
       generalize w5.alloc (.cells #[.int .i64 o.1,.int .i64 (gP o.2.1),.int .i64 o.2.2] 63)=wq at *
       generalize w5.heap.size=tb at *
       refine AA (S:=fun w'=>w'.cell? ⟨nb,0,none⟩=some (.int .i64 n2.sh)/\w'.cell? ⟨nb,1,none⟩=some (.slice n2.pa n2.pn n2.pc)/\w'.cell? ⟨nb,2,none⟩=some (.string n2.ss)/\w'.cell? ⟨nb,3,none⟩=some (.int .i64 n2.le)/\w'.cell? ⟨nb,4,none⟩=some (.int .i64 n2.mo)/\w'.cell? ⟨nb,5,none⟩=some (.int .i64 n2.fa)/\w'.cell? ⟨nb,6,none⟩=some (.int .i64 n2.sz)/\w'.cell? ⟨tb,0,none⟩=some (.int .i64 o.1)/\w'.cell? ⟨tb,1,none⟩=some (.int .i64 (gP o.2.1))/\w'.cell? ⟨tb,2,none⟩=some (.int .i64 o.2.2)) rfl (by kernel_rfl) (by kernel_rfl) ⟨c0,c1,c2,c3,c4,c5,c6,t0,t1,t2⟩ (fun hHeld=>?_)
       simp only [List.pop_toArray,List.dropLast,List.size_toArray,List.length_cons,List.length_nil,Nat.reduceAdd]
       refine wpAnyH_take (i:=0) (v:=?_) rfl (by kernel_rfl) (by kernel_rfl) (by kernel_rfl) (fun _ _ _ h=>h) (Or.inl ⟨by rfl,?_⟩) (by assumption) ?_
       rotate_left
       ·intro W hW;(try dsimp only at hW);go_simp;(try with_reducible rfl)
       refine wpAnyH_take (i:=2) (v:=?_) rfl (by kernel_rfl) (by kernel_rfl) (by kernel_rfl) (fun _ _ _ h=>h) (Or.inl ⟨by rfl,?_⟩) (by assumption) ?_
       rotate_left
       ·intro W hW;(try dsimp only at hW);go_simp;(try with_reducible rfl)
       refine wpAnyH_take (i:=3) (v:=?_) rfl (by kernel_rfl) (by kernel_rfl) (by kernel_rfl) (fun _ _ _ h=>h) (Or.inl ⟨by rfl,?_⟩) (by assumption) ?_
       rotate_left
       ·intro W hW;(try dsimp only at hW);go_simp;(try with_reducible rfl)
       refine wpAnyH_take (i:=4) (v:=?_) rfl (by kernel_rfl) (by kernel_rfl) (by kernel_rfl) (fun _ _ _ h=>h) (Or.inl ⟨by rfl,?_⟩) (by assumption) ?_
       rotate_left
       ·intro W hW;(try dsimp only at hW);go_simp;(try with_reducible rfl)
       refine wpAnyH_take (i:=5) (v:=?_) rfl (by kernel_rfl) (by kernel_rfl) (by kernel_rfl) (fun _ _ _ h=>h) (Or.inl ⟨by rfl,?_⟩) (by assumption) ?_
       rotate_left
       ·intro W hW;(try dsimp only at hW);go_simp;(try with_reducible rfl)
       refine wpAnyH_take (i:=6) (v:=?_) rfl (by kernel_rfl) (by kernel_rfl) (by kernel_rfl) (fun _ _ _ h=>h) (Or.inl ⟨by rfl,?_⟩) (by assumption) ?_
       rotate_left
       ·intro W hW;(try dsimp only at hW);go_simp;(try with_reducible rfl)
       refine wpAnyH_take (i:=7) (v:=?_) rfl (by kernel_rfl) (by kernel_rfl) (by kernel_rfl) (fun _ _ _ h=>h) (Or.inl ⟨by rfl,?_⟩) (by assumption) ?_
       rotate_left
       ·intro W hW;(try dsimp only at hW);go_simp;(try with_reducible rfl)
       refine wpAnyH_ready (rs:=[1,8]) (by kernel_rfl) (by simp) ?_
       refine AllReadyH.cons rfl (fun K hK=>?_) (AllReadyH.cons rfl (fun K hK=>?_) AllReadyH.nil)
       ·go_simp
        refine hK.out _ _ ?_ (fun hHeld=>?_)
        ·go_keep
        clear hK K
        refine wpAnyH_ready (rs:=[8]) (by kernel_rfl) (by simp) ?_
        refine AllReadyH.cons rfl (fun K hK=>?_) AllReadyH.nil
        go_simp
        refine (zR _ _).mono ?_
        rintro x w6 ⟨rfl,rfl⟩
        dsimp only
        refine hK.out _ _ ?_ (fun hHeld=>?_)
        ·go_keep
        clear hK K
        refine wpAnyH_take (i:=9) (v:=?_) rfl (by kernel_rfl) (by kernel_rfl) (by kernel_rfl) (fun _ _ _ h=>h) (Or.inl ⟨by rfl,?_⟩) (by assumption) ?_
        rotate_left
        ·intro W hW;(try dsimp only at hW);go_simp;(try with_reducible rfl)
        refine wpAnyH_done (by kernel_rfl) ?_ _
        show Oper.wp _ _ _ _ _ _
        go_simp
        go_wp2_with fail
        go_roundw
        all_goals first | exact ⟨f2,l3,_,aa HX,by omega,aa Mg,HT8⟩ | (have e1:=PL.left HT8;have e2:=aa HL;show left s b _<left s b _;refine Nat.lt_of_le_of_lt (Nat.le_of_eq e1) ?_;omega)
       ·go_simp
        refine (zR _ _).mono ?_
        rintro x w6 ⟨rfl,rfl⟩
        dsimp only
        refine hK.out _ _ ?_ (fun hHeld=>?_)
        ·go_keep
        clear hK K
        refine wpAnyH_ready (rs:=[1]) (by kernel_rfl) (by simp) ?_
        refine AllReadyH.cons rfl (fun K hK=>?_) AllReadyH.nil
        go_simp
        refine hK.out _ _ ?_ (fun hHeld=>?_)
        ·go_keep
        clear hK K
        refine wpAnyH_take (i:=9) (v:=?_) rfl (by kernel_rfl) (by kernel_rfl) (by kernel_rfl) (fun _ _ _ h=>h) (Or.inl ⟨by rfl,?_⟩) (by assumption) ?_
        rotate_left
        ·intro W hW;(try dsimp only at hW);go_simp;(try with_reducible rfl)
        refine wpAnyH_done (by kernel_rfl) ?_ _
        show Oper.wp _ _ _ _ _ _
        go_simp
        go_wp2_with fail
        go_roundw
        all_goals first | exact ⟨f2,l3,_,aa HX,by omega,aa Mg,HT8⟩ | (have e1:=PL.left HT8;have e2:=aa HL;show left s b _<left s b _;refine Nat.lt_of_le_of_lt (Nat.le_of_eq e1) ?_;omega)
end
end Go.Proofs.YtfolanohokflkaaGreatDoor
