import Derived.Test.YtfolanohokflkaaGreatDoorNdQ
import Derived.BigRegion
import Derived.Deep.RegionHeld3
import Derived.Deep.RegionWith
import Derived.Test.YtfolanohokflkaaGreatDoorLastA
import Derived.WalkKit
import Derived.WalkSpells
import Derived.WalkLawsBesides
import Derived.WalkMore
namespace Go.Proofs.YtfolanohokflkaaGreatDoor
open Go.RowKit
section
variable {w0 w:World} {b:Nat} {s:ByteArray} {d:Int} {l:List Sy}
abbrev BdP (a:List Sy->bf Pn):Prop:=∀ l v l',a l=.ok (v,l')->0<=v.2/\v.2<=61
def ab9 (R:bf Pn) (at_:List Sy->bf Pn) (w1 wr:World) (b:Nat) (s:ByteArray) (d:Int) (k:Nat):Prop:=
 ∃ f l,nY (wE k) (b_ s.size at_ f l)=R/\l.length<f/\k+l.length<=60/\Hid (PL w1 wr b s d l)
def X0 (w w1 wr:World) (nb:Nat) (z:Pn):Prop:=
 ∃ n,0<=z.2/\z.2<=61/\w1.heap.size<=nb/\ax wr nb n/\aY wr (fun j=>w.heap.size<j/\j≠nb) n z
def ab_ (R:bf Pn) (w w1 wr:World) (b:Nat) (s:ByteArray) (d:Int) (k nb:Nat):Prop:=
 ∃ f l z,nY (wE k) (iH s.size f z l)=R/\l.length<f/\X0 w w1 wr nb z/\Hid (PL w1 wr b s d l)
theorem JI {w1 wq:World} {nb:Nat} {n2 n':Nd} {t:Pt} {z':Pn} (hnb:w1.heap.size<=nb) (hw1:w.heap.size<w1.heap.size) (hat:Hid (ax wq nb n2)) (hv:jr wq (fun j=>w.heap.size<j/\j≠nb) n2 t)
  (hpv:n'.pv=.slice (some ⟨wq.heap.size,0,none⟩) 1 1) (hz:n'.sz=z'.2) (h0:0<=z'.2) (h61:z'.2<=61)
  (hk:∀ W,jA W (fun j=>w.heap.size<j/\j≠nb) n'.pv [n2]->jr W (fun j=>w.heap.size<j/\j≠nb) n2 t->jr W (fun j=>w.heap.size<j/\j≠nb) n' z'.1) :
  X0 w w1 ((bJ wq nb n').alloc (aD n2)).drew nb z':=by
 have hlt:=ax.lt (aa hat)
 have hbl:∀ j,j<wq.heap.size->j≠nb->((bJ wq nb n').alloc (aD n2)).drew.heap[j]? = wq.heap[j]? := fun j hj hn=>(Below.heap_alloc (bJ wq nb n') (aD n2) j (by rw [nP];exact hj)).trans (dh hn)
 refine ⟨n',h0,h61,hnb,?_,hz,hk _ ?_ (hv.move fun j hj hl=>⟨hbl j hl hj.2,hj⟩)⟩
 ·exact (Below.heap_alloc (bJ wq nb n') (aD n2) nb (by rw [nP];exact hlt)).trans (ax.set (aa hat))
 ·rw [hpv]
  refine ⟨?_,fun k hk=>?_⟩
  ·have h:=World.ownsRow_lit (base:=0) (e:=65) (size:=7) (bJ wq nb n') #[.int .i64 n2.sh,.slice n2.pa n2.pn n2.pc,.string n2.ss,.int .i64 n2.le,.int .i64 n2.mo,.int .i64 n2.fa,.int .i64 n2.sz] 1 (Nat.zero_le _) (by decide) rfl
   rw [nP] at h
   have e:dF [n2]=Kt n2:=by simp [dF]
   rw [e]
   exact h.drew
  ·have:wq.heap.size=k:=by simpa [Value.ownBlock] using hk
   subst this
   exact ⟨by omega,by omega⟩
theorem PL.drew (h:Hid (PL w0 w b s d l)):Hid (PL w0 w.drew b s d l):=PL.below h ⟨rfl,rfl,rfl,Nat.le_refl _,fun _ _=>rfl⟩
theorem Od {w1 wq:World} {nb:Nat} (h:Hid (PL w1 wq b s d l)) (hnb:w1.heap.size<=nb) (hb:b<nb) (n' n2:Nd):Hid (PL w1 ((bJ wq nb n').alloc (aD n2)).drew b s d l):=
 PL.drew (PL.alloc (PL.bJ h hnb hb n') (aD n2))
def UY (w w1 wr:World) (b:Nat) (s:ByteArray) (d:Int) (k i nb:Nat) (zf:Pn) (l:List Sy):Prop:=
 ∃ z,wE (k - i) z=zf/\X0 w w1 wr nb z/\Hid (PL w1 wr b s d l)
theorem Ms {w1 wr w4:World} {nb k:Nat} {z:Pn} (hx:Hid (X0 w w1 wr nb z)) (hs:Hid (PL w1 wr b s d l)) (h4:Hid (PL wr w4 b s d l)) (hb:b<w.heap.size) (hb3:b<nb):Hid (UY w w1 w4 b s d k 0 nb (wE k z) l):=by
 obtain ⟨n,h0,h1,h2,h3,h5⟩:=aa hx
 exact ⟨z,rfl,⟨n,h0,h1,h2,ax.up h3 (PL.up h4) (by omega),aY.move h5 fun j hj hl=>⟨(PL.up h4).block j hl (by omega),hj⟩⟩,PL.join (PL.up hs) h4⟩
theorem QX {n:Nat} {l l1:List Sy} {o:iW} (h:dX n l=.ok (o,l1)):0<=o.2.2/\o.2.2<=13:=by
 have e:=q8 n l
 rw [h] at e
 exact Mr e
theorem JJ {n:Nat} {l l1:List Sy} {o:iW} (hr:jV (hd l)=true) (h:dX n l=.ok (o,l1)):l1.length<l.length:=by
 have e:=q8 n l
 rw [h] at e
 exact yj hr e
set_option maxRecDepth 100000 in
set_option maxHeartbeats 8000000 in
theorem aca {at_:List Sy->bf Pn} (HA:Hid (oz 304 at_ b s d)) (HB:Hid (BdP at_)) (h:Hid (PL w w b s d l)) :
  Calls Tryz.prog 280 #[.pointer (some ⟨b,0,none⟩)] w (Fq (b_ s.size at_ (l.length+1) l) w b s d):=by
 obtain ⟨R,hR⟩:∃ R,b_ s.size at_ (l.length+1) l=R:=⟨_,rfl⟩
 rw [hR]
 have hbw:=PL.lt h
 have zh:Hid (∀ w',Hid (Up b (w.alloc (aD nd0)) w')->Hid (Up b w w')):=fun w' hu=>jG h hu
 have Ay:Hid (∀ w' l' n,Hid (PL (w.alloc (aD nd0)) w' b s d l')->Hid (PL w (bJ w' w.heap.size n) b s d l')):=fun w' l' n h'=>nQ h h' n
 have HAT:=hide (ax.new w nd0)
 have hsz1:(w.alloc (aD nd0)).heap.size=w.heap.size+1:=by simp
 have HP:Hid (ab9 R at_ (w.alloc (aD nd0)) (w.alloc (aD nd0)) b s d 0):=⟨_,l,by rw [QV];exact hR,Nat.lt_succ_self _,by have:=PL.len h;omega,jH h (aD nd0)⟩
 clear hR h
 go_enter Tryz.func280,Tryz.ntmps280
 go_wp2_with fail
 go_loopw [3] (fun v wr=>∃ k:Nat,v=.int .i64 k/\Hid (ab9 R at_ (w.alloc (aD nd0)) wr b s d k)) (fun _ wr=>left s b wr)
 case atStart=>exact ⟨0,rfl,HP⟩
 case round=>
  clear HP
  obtain ⟨k,rfl,HP⟩:=hrel
  obtain ⟨f,l',hf,hlt,hk,HS⟩:=aa HP
  obtain ⟨f,rfl⟩:∃ f',f=f'+1:=⟨f - 1,by omega⟩
  have HL:=hide (PL.left HS)
  have adn:(k:Int)<=60:=by omega
  by_cases hn:hd l'=126
  ·have hp:=l_ (l:=l') (by omega)
   rw [QW hn] at hf
   have HF:=hide hf
   have HN:=hide hn
   clear hf hn HP
   go_wp2_with (first
    | (go_at_call 219;refine (dz HS 126 HN).mono ?_;clear HS;rintro x w2 ⟨rfl,HS⟩))
   go_roundw
   case rel=>exact ⟨k+1,by go_num,f,_,aa HF,by omega,by omega,HS⟩
   case measure=>
    have e1:=PL.left HS
    have e2:=aa HL
    show left s b _<left s b _
    omega
  ·rw [b_,if_neg hn] at hf
   have HN:=hide hn
   clear hn HP HL
   cases ha:at_ l' with
   | error y=>
    rw [ha] at hf
    have HX:Hid (R=.error y):=hf.symm
    have HAE:=hide ha
    clear ha hf
    go_wp2_with (first
     | (go_at_call 219;refine (cB HS 126 HN).mono ?_;clear HS;rintro x w2 ⟨rfl,HS⟩)
     | (go_at_call 304;refine (kF (aa HA _ _ (PL.base HS)) HAE).mono ?_;rintro x w3 ⟨rfl,HU⟩;have kZ:=hide ((PL.up HS).trans (aa HU))))
    rw [aa HX]
    exact ⟨rfl,rfl,aa zh _ kZ⟩
   | ok y=>
    obtain ⟨z,l1⟩:=y
    rw [ha] at hf
    dsimp only at hf
    obtain ⟨hz0,JK⟩:=aa HB _ _ _ ha
    have HAE:=hide ha
    have HF:=hide hf
    clear ha hf
    go_wp2_with (first
     | (go_at_call 219;refine (cB HS 126 HN).mono ?_;clear HS;rintro x w2 ⟨rfl,HS⟩)
     | (go_at_call 304;refine (kH (aa HA _ _ (PL.base HS)) HAE).mono ?_;simp only [gN];rintro x w3 ⟨n,rfl,mJ,oD⟩;have HT3:=PL.join (PL.up HS) oD;have hs2:=(PL.up HS).size;have hs3:=(PL.up HT3).size;have hb3:=PL.lt HT3))
    have HQ:Hid (ab_ R w (w.alloc (aD nd0)) (w3.alloc (aD n)) b s d k w3.heap.size):=by
     refine ⟨_,l1,z,aa HF,Nat.lt_succ_self _,⟨n,hz0,JK,hs3,ax.new w3 n,?_⟩,PL.alloc HT3 _⟩
     exact aY.move mJ fun j hj hl=>⟨Below.heap_alloc w3 _ j hl,by omega,by omega⟩
    clear HF HS oD HT3 HAE HN mJ
    generalize w3.alloc (aD n)=wb at *
    generalize w3.heap.size=nb at *
    go_loopw [] (fun wr=>Hid (ab_ R w (w.alloc (aD nd0)) wr b s d k nb)) (fun wr=>left s b wr)
    case atStart=>exact HQ
    case round=>
     clear HQ hz0 JK hlt hk
     obtain ⟨f2,l2,z2,hf2,hlt2,Kv,HS⟩:=aa hrel
     obtain ⟨f2,rfl⟩:∃ f',f2=f'+1:=⟨f2 - 1,by omega⟩
     have HL:=hide (PL.left HS)
     rw [iH] at hf2
     obtain ⟨c,hcc⟩:∃ c,hd l2=c:=⟨_,rfl⟩
     have gQ:=hide hcc
     rw [hcc] at hf2
     cases hr:jV c
     ·rw [if_neg (by rw [hr];decide)] at hf2
      have HX:Hid (R=.ok (wE k z2,l2)):=hf2.symm
      have HR:=hide hr
      have acb:=hide Kv
      clear hr hf2 hcc hrel HL Kv
      go_wp2_with (first
       | (go_at_call 251;refine (dZ (PL.base HS) gQ).mono ?_;rintro x w2 ⟨rfl,HS2⟩)
       | (go_at_call 305;refine (AA HS2 gQ HR).mono ?_;clear HS2;rintro x w4 ⟨rfl,HS2⟩))
      have HW:Hid (UY w (w.alloc (aD nd0)) w4 b s d k 0 nb (wE k z2) l2):=Ms acb HS HS2 hbw hb3
      clear HS HS2 acb HR gQ
      go_loopw [28] (fun v wr=>∃ i:Nat,i<=k/\v=.int .i64 i/\Hid (UY w (w.alloc (aD nd0)) wr b s d k i nb (wE k z2) l2)) (fun v _=>k - (intOf v).toNat)
      case atStart=>exact ⟨0,Nat.zero_le _,rfl,HW⟩
      case round=>
       clear HW
       obtain ⟨i,hi,rfl,HW⟩:=hrel
       obtain ⟨z,hzk,Kv,HS⟩:=aa HW
       obtain ⟨n2,hz0,JK,hnb,F5,hok2⟩:=Kv
       have hsz:n2.sz=z.2:=hok2.1
       have rT:=hide F5
       rw [<-hsz] at hz0 JK
       obtain ⟨c0,c1,c2,c3,c4,c5,c6⟩:=ax.cells F5
       have cf:=ax.fz F5
       have hq3:=ax.lt F5
       have acd:nb≠b:=by omega
       by_cases hik:i<k
       ·have ado:(i:Int)<(k:Int):=by omega
        have hwr:IntKind.i64.wrap (n2.sz+1)=n2.sz+1:=by simp [IntKind.wrap,IntKind.bits,IntKind.signed];omega
        have hs3':w.heap.size<(w.alloc (aD nd0)).heap.size:=by omega
        have Kv:=hide (JI (w:=w) (z':=w_ z) (n':=⟨4,some ⟨wr.heap.size,0,none⟩,1,1,⟨#[]⟩,0,0,0,dA (n2.sz+1)⟩) hnb hs3' rT hok2.2 rfl (by show _=dA (z.2+1);rw [<-hsz]) (by show 0<=dA (z.2+1);rw [<-hsz];exact UX (by omega)) (UW _) (fun W h1 h2=>.not rfl h1 h2))
        have HT8:=Od HS hnb hb3 ⟨4,some ⟨wr.heap.size,0,none⟩,1,1,⟨#[]⟩,0,0,0,dA (n2.sz+1)⟩ n2
        have HZK:Hid (wE (k - (i+1)) (w_ z)=wE k z2):=by show _=_;rw [show k - i=(k - (i+1))+1 from by omega] at hzk;exact hzk
        clear hzk hok2 F5 hsz HW HS rT
        go_wp2_with fail
        go_region_with
         ((go_at_call 249;refine (y8 _ _).mono ?_;rintro x w6 ⟨rfl,rfl⟩))
        all_goals (go_wp2_with fail;go_roundw)
        all_goals first | exact ⟨i+1,by omega,by go_num,w_ z,aa HZK,aa Kv,HT8⟩ | (simp [intOf];omega)
       ·have hki:i=k:=by omega
        subst hki
        rw [Nat.sub_self] at hzk
        have ig:z=wE i z2:=hzk
        have HR:=ax.up HAT (PL.up HS) (by omega)
        obtain ⟨d0,d1,d2,d3,d4,d5,d6⟩:=ax.cells (aa HR)
        have df:=ax.fz (aa HR)
        have UZ:=hide hok2
        rw [ig] at UZ
        clear hzk ig hok2 F5 hsz HW hz0 JK
        go_wp2_with fail
        change bodyPost _ _ _ _ _ (bJ wr w.heap.size n2)
        refine jI (rb:=w.heap.size) (n:=n2) 2 rfl rfl rfl (hide (ax.set (aa HR))) ?_
        rw [aa HX]
        exact ⟨n2,rfl,aY.move UZ fun j hj hl=>⟨dh (by omega),by omega⟩,aa Ay _ _ _ HS⟩
     ·rw [if_pos hr] at hf2
      have HR:=hide hr
      cases hm:dX s.size l2 with
      | error y=>
       rw [hm] at hf2
       have HX:Hid (R=.error y):=hf2.symm
       have HM:=hide hm
       have qw:Hid (jV (hd l2)=true):=by show _=_;rw [hcc];exact hr
       clear hr hf2 HL hm hcc hrel
       go_wp2_with (first
        | (go_at_call 251;refine (dZ HS gQ).mono ?_;clear HS;rintro x w2 ⟨rfl,HS⟩)
        | (go_at_call 305;refine (AA HS gQ HR).mono ?_;clear HS;rintro x w4 ⟨rfl,HS⟩)
        | (go_at_call 306;refine (ic (Nk HS (aa qw)) HM).mono ?_;rintro x w5 ⟨rfl,HU⟩))
       rw [aa HX]
       exact ⟨rfl,rfl,aa zh _ HU⟩
      | ok u=>
       obtain ⟨o,l3⟩:=u
       rw [hm] at hf2
       dsimp only at hf2
       have HX:=hide hf2
       have hlen:=JJ (by rw [hcc];exact hr) hm
       obtain ⟨hm0,acR⟩:=QX hm
       have HM:=hide hm
       have qw:Hid (jV (hd l2)=true):=by show _=_;rw [hcc];exact hr
       obtain ⟨n2,hz0,JK,hnb,F5,hok2⟩:=Kv
       have hsz:n2.sz=z2.2:=hok2.1
       have rT:=hide F5
       have UZ:=hide hok2
       rw [<-hsz] at hz0 JK
       have QG:=hide hsz
       clear hsz
       have ace:0<=n2.sz*o.2.2:=Int.mul_nonneg hz0 hm0
       have ac1:n2.sz*o.2.2<=61*13:=Int.mul_le_mul JK acR hm0 (by decide)
       have hwr:IntKind.i64.wrap (n2.sz*o.2.2)=n2.sz*o.2.2:=by simp [IntKind.wrap,IntKind.bits,IntKind.signed];omega
       clear hr hf2 hm hcc hrel F5 hok2
       go_wp2_with (first
        | (go_at_call 251;refine (dZ (PL.base HS) gQ).mono ?_;rintro x w2 ⟨rfl,HS2⟩)
        | (go_at_call 305;refine (AA HS2 gQ HR).mono ?_;clear HS2;rintro x w4 ⟨rfl,HS2⟩)
        | (go_at_call 306;refine (dJ (Nk HS2 (aa qw)) HM).mono ?_;clear HS2;simp only [iC];rintro x w5 ⟨rfl,HS2⟩))
       have qD:=PL.join (PL.up HS) HS2
       have acd:nb≠b:=by omega
       have Rs:=ax.up rT (PL.up HS2) acd
       have v_:=aY.move (G:=fun j=>w.heap.size<j/\j≠nb) UZ fun j hj hl=>⟨(PL.up HS2).block j hl (by omega),hj⟩
       have hn5:=ax.lt (aa Rs)
       have HA6:=ax.alloc Rs (.cells #[.int .i64 o.1,.int .i64 (gD o.2.1),.int .i64 o.2.2] 63)
       obtain ⟨c0,c1,c2,c3,c4,c5,c6⟩:=ax.cells (aa HA6)
       have cf:=ax.fz (aa HA6)
       have t0:(w5.alloc (.cells #[.int .i64 o.1,.int .i64 (gD o.2.1),.int .i64 o.2.2] 63)).cell? ⟨w5.heap.size,0,none⟩=some (.int .i64 o.1):=bR w5 [.int .i64 o.1,.int .i64 (gD o.2.1),.int .i64 o.2.2] _ 0 _ rfl
       have t1:(w5.alloc (.cells #[.int .i64 o.1,.int .i64 (gD o.2.1),.int .i64 o.2.2] 63)).cell? ⟨w5.heap.size,1,none⟩=some (.int .i64 (gD o.2.1)):=bR w5 [.int .i64 o.1,.int .i64 (gD o.2.1),.int .i64 o.2.2] _ 1 _ rfl
       have t2:(w5.alloc (.cells #[.int .i64 o.1,.int .i64 (gD o.2.1),.int .i64 o.2.2] 63)).cell? ⟨w5.heap.size,2,none⟩=some (.int .i64 o.2.2):=bR w5 [.int .i64 o.1,.int .i64 (gD o.2.1),.int .i64 o.2.2] _ 2 _ rfl
       have hq5:w5.heap.size<(w5.alloc (.cells #[.int .i64 o.1,.int .i64 (gD o.2.1),.int .i64 o.2.2] 63)).heap.size:=by simp
       have hq3:nb<(w5.alloc (.cells #[.int .i64 o.1,.int .i64 (gD o.2.1),.int .i64 o.2.2] 63)).heap.size:=by simp;omega
       have Ww:=aY.move (w':=w5.alloc (.cells #[.int .i64 o.1,.int .i64 (gD o.2.1),.int .i64 o.2.2] 63)) (G:=fun j=>w.heap.size<j/\j≠nb) v_ fun j hj hl=>⟨Below.heap_alloc w5 _ j hl,hj⟩
       have VO:=PL.alloc qD (.cells #[.int .i64 o.1,.int .i64 (gD o.2.1),.int .i64 o.2.2] 63)
       have hnt:nb≠w5.heap.size:=by omega
       have htn:w5.heap.size≠nb:=by omega
       have hs3':w.heap.size<(w.alloc (aD nd0)).heap.size:=by omega
       have hb3':b<nb:=hb3
       have Kv:=hide (JI (w:=w) (z':=Hm z2 o) (n':=⟨5,some ⟨(w5.alloc (.cells #[.int .i64 o.1,.int .i64 (gD o.2.1),.int .i64 o.2.2] 63)).heap.size,0,none⟩,1,1,⟨#[]⟩,o.1,gD o.2.1,o.2.2,dA (n2.sz*o.2.2)⟩) hnb hs3' HA6 (aa Ww).2 rfl (by show _=dA (z2.2*o.2.2);rw [<-aa QG]) (by show 0<=dA (z2.2*o.2.2);rw [<-aa QG];exact UX ace) (UW _) (fun W h1 h2=>.rep rfl h1 h2 rfl rfl))
       have HT8:=Od VO hnb hb3' ⟨5,some ⟨(w5.alloc (.cells #[.int .i64 o.1,.int .i64 (gD o.2.1),.int .i64 o.2.2] 63)).heap.size,0,none⟩,1,1,⟨#[]⟩,o.1,gD o.2.1,o.2.2,dA (n2.sz*o.2.2)⟩ n2
       clear HS HS2 rT UZ Rs v_ qD hn5 HM HR gQ qw Ww VO HA6
       generalize w5.alloc (.cells #[.int .i64 o.1,.int .i64 (gD o.2.1),.int .i64 o.2.2] 63)=wq at *
       generalize w5.heap.size=tb at *
       refine zO (S:=fun w'=>w'.cell? ⟨nb,0,none⟩=some (.int .i64 n2.sh)/\w'.cell? ⟨nb,1,none⟩=some (.slice n2.pa n2.pn n2.pc)/\w'.cell? ⟨nb,2,none⟩=some (.string n2.ss)/\w'.cell? ⟨nb,3,none⟩=some (.int .i64 n2.le)/\w'.cell? ⟨nb,4,none⟩=some (.int .i64 n2.mo)/\w'.cell? ⟨nb,5,none⟩=some (.int .i64 n2.fa)/\w'.cell? ⟨nb,6,none⟩=some (.int .i64 n2.sz)/\w'.cell? ⟨tb,0,none⟩=some (.int .i64 o.1)/\w'.cell? ⟨tb,1,none⟩=some (.int .i64 (gD o.2.1))/\w'.cell? ⟨tb,2,none⟩=some (.int .i64 o.2.2)) rfl (by kernel_rfl) (by kernel_rfl) ⟨c0,c1,c2,c3,c4,c5,c6,t0,t1,t2⟩ (fun hHeld=>?_)
       simp only [List.pop_toArray,List.dropLast,List.size_toArray,List.length_cons,List.length_nil,Nat.reduceAdd]
       refine wpAnyH_take (i:=0) (v:=?_) rfl (by kernel_rfl) (by kernel_rfl) (by kernel_rfl) (fun _ _ _ h=>h) (Or.inl ⟨by rfl,?_⟩) (by assumption) ?_
       rotate_left
       ·intro W hW;(try dsimp only at hW);go_simp;(try with_reducible rfl)
       refine wpAnyH_take (i:=2) (v:=?_) rfl (by kernel_rfl) (by kernel_rfl) (by kernel_rfl) (fun _ _ _ h=>h) (Or.inl ⟨by rfl,?_⟩) (by assumption) ?_
       rotate_left
       ·intro W hW;(try dsimp only at hW);go_simp;(try with_reducible rfl)
       refine wpAnyH_take (i:=3) (v:=?_) rfl (by kernel_rfl) (by kernel_rfl) (by kernel_rfl) (fun _ _ _ h=>h) (Or.inl ⟨by rfl,?_⟩) (by assumption) ?_
       rotate_left
       ·intro W hW;(try dsimp only at hW);go_simp;(try with_reducible rfl)
       refine wpAnyH_take (i:=4) (v:=?_) rfl (by kernel_rfl) (by kernel_rfl) (by kernel_rfl) (fun _ _ _ h=>h) (Or.inl ⟨by rfl,?_⟩) (by assumption) ?_
       rotate_left
       ·intro W hW;(try dsimp only at hW);go_simp;(try with_reducible rfl)
       refine wpAnyH_take (i:=5) (v:=?_) rfl (by kernel_rfl) (by kernel_rfl) (by kernel_rfl) (fun _ _ _ h=>h) (Or.inl ⟨by rfl,?_⟩) (by assumption) ?_
       rotate_left
       ·intro W hW;(try dsimp only at hW);go_simp;(try with_reducible rfl)
       refine wpAnyH_take (i:=6) (v:=?_) rfl (by kernel_rfl) (by kernel_rfl) (by kernel_rfl) (fun _ _ _ h=>h) (Or.inl ⟨by rfl,?_⟩) (by assumption) ?_
       rotate_left
       ·intro W hW;(try dsimp only at hW);go_simp;(try with_reducible rfl)
       refine wpAnyH_take (i:=7) (v:=?_) rfl (by kernel_rfl) (by kernel_rfl) (by kernel_rfl) (fun _ _ _ h=>h) (Or.inl ⟨by rfl,?_⟩) (by assumption) ?_
       rotate_left
       ·intro W hW;(try dsimp only at hW);go_simp;(try with_reducible rfl)
       refine wpAnyH_ready (rs:=[1,8]) (by kernel_rfl) (by simp) ?_
       refine AllReadyH.cons rfl (fun K hK=>?_) (AllReadyH.cons rfl (fun K hK=>?_) AllReadyH.nil)
       ·go_simp
        refine hK.out _ _ ?_ (fun hHeld=>?_)
        ·go_keep
        clear hK K
        refine wpAnyH_ready (rs:=[8]) (by kernel_rfl) (by simp) ?_
        refine AllReadyH.cons rfl (fun K hK=>?_) AllReadyH.nil
        go_simp
        refine (y8 _ _).mono ?_
        rintro x w6 ⟨rfl,rfl⟩
        dsimp only
        refine hK.out _ _ ?_ (fun hHeld=>?_)
        ·go_keep
        clear hK K
        refine wpAnyH_take (i:=9) (v:=?_) rfl (by kernel_rfl) (by kernel_rfl) (by kernel_rfl) (fun _ _ _ h=>h) (Or.inl ⟨by rfl,?_⟩) (by assumption) ?_
        rotate_left
        ·intro W hW;(try dsimp only at hW);go_simp;(try with_reducible rfl)
        refine wpAnyH_done (by kernel_rfl) ?_ _
        show Oper.wp _ _ _ _ _ _
        go_simp
        go_wp2_with fail
        go_roundw
        all_goals first | exact ⟨f2,l3,_,aa HX,by omega,aa Kv,HT8⟩ | (have e1:=PL.left HT8;have e2:=aa HL;show left s b _<left s b _;refine Nat.lt_of_le_of_lt (Nat.le_of_eq e1) ?_;omega)
       ·go_simp
        refine (y8 _ _).mono ?_
        rintro x w6 ⟨rfl,rfl⟩
        dsimp only
        refine hK.out _ _ ?_ (fun hHeld=>?_)
        ·go_keep
        clear hK K
        refine wpAnyH_ready (rs:=[1]) (by kernel_rfl) (by simp) ?_
        refine AllReadyH.cons rfl (fun K hK=>?_) AllReadyH.nil
        go_simp
        refine hK.out _ _ ?_ (fun hHeld=>?_)
        ·go_keep
        clear hK K
        refine wpAnyH_take (i:=9) (v:=?_) rfl (by kernel_rfl) (by kernel_rfl) (by kernel_rfl) (fun _ _ _ h=>h) (Or.inl ⟨by rfl,?_⟩) (by assumption) ?_
        rotate_left
        ·intro W hW;(try dsimp only at hW);go_simp;(try with_reducible rfl)
        refine wpAnyH_done (by kernel_rfl) ?_ _
        show Oper.wp _ _ _ _ _ _
        go_simp
        go_wp2_with fail
        go_roundw
        all_goals first | exact ⟨f2,l3,_,aa HX,by omega,aa Kv,HT8⟩ | (have e1:=PL.left HT8;have e2:=aa HL;show left s b _<left s b _;refine Nat.lt_of_le_of_lt (Nat.le_of_eq e1) ?_;omega)
end
end Go.Proofs.YtfolanohokflkaaGreatDoor
