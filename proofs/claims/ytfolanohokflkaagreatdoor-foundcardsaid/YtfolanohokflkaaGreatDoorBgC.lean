import Derived.Test.YtfolanohokflkaaGreatDoorSgD
import Derived.Test.YtfolanohokflkaaGreatDoorBlW
import Derived.Defers
import Derived.Recover
import Derived.Deep.QuietTactic
import Derived.BigQuiet
import Derived.Test.YtfolanohokflkaaGreatDoorBgB
import Derived.Deep.RegionHeld3
namespace Go.Proofs.YtfolanohokflkaaGreatDoor
open Go.RowKit
open Tm (eps)
section
variable {w w1 w2:World} {k4 k5 n:Nat} {o:Option (Nat×Nat)}
theorem wZ.after (h:wZ w1 w2 k4 k5 o) (hb:Below w.heap.size w w1):wZ w w2 k4 k5 o:=
 ⟨h.os.trans hb.os,h.tape.trans hb.tape,h.output.trans hb.output,Nat.le_trans hb.size h.size,fun k hk a b=>(h.block k (Nat.lt_of_lt_of_le hk hb.size) a b).trans (hb.block k hk),h.c0,h.c1,h.c2⟩
theorem wZ.oJ (h:wZ w w2 k4 k5 o) (j:Nat) (u:Value) (hn:w.heap.size<=n) (h4:k4≠n) (h5:k5≠n):wZ w (w2.setCell ⟨n,j,none⟩ u) k4 k5 o:=by
 have e:∀ k,k≠n->(w2.setCell ⟨n,j,none⟩ u).heap[k]? = w2.heap[k]? := fun k hk=>Below.heap_setCell w2 ⟨n,j,none⟩ u k hk
 refine ⟨h.os,h.tape,h.output,by have:=h.size;simpa [World.setCell] using this,fun k hk a b=>(e k (by omega)).trans (h.block k hk a b),?_,?_,?_⟩
 ·rw [World.cell?_of_block (a:=⟨k4,0,none⟩) (e k4 h4)];exact h.c0
 ·rw [World.cell?_of_block (a:=⟨k4,1,none⟩) (e k4 h4)];exact h.c1
 ·rw [World.cell?_of_block (a:=⟨k5,0,none⟩) (e k5 h5)];exact h.c2
end
end Go.Proofs.YtfolanohokflkaaGreatDoor
namespace Go.Proofs.YtfolanohokflkaaGreatDoor
open Go.RowKit
open Tm (eps)
set_option maxRecDepth 100000 in
set_option maxHeartbeats 8000000 in
theorem NL {w:World} {q:Pt} {s u:ByteArray} {k0 k1 k2 k3 k4 k5 ix:Nat} {m:Nd} {Bd:Int} {F:Nat->Prop} (hq:bP s=.ok q) (DY:u.size<=60) (h0:Hid (aA w k0 m)) (h1:w.cell? ⟨k1,0,none⟩=some (.string u)) (h2:w.cell? ⟨k2,0,none⟩=some (.int .i64 Bd)) (h3:w.cell? ⟨k3,0,none⟩=some (.int .i64 (ix:Int))) (hix:ix<=(kS u).length)
  (h4:w.heap[k4]? = some (.cells #[.int .i64 0,.int .i64 0] 72)) (h5:w.heap[k5]? = some (.cells #[.bool false] 4)) (h45:k4≠k5) (hd:k3<k4/\k2<k3/\k1<k3/\k0<k3/\k4<k5) (Xr:iF w F m q) :
  Calls Tryz.prog 42 #[.pointer (some ⟨k0,0,none⟩),.pointer (some ⟨k1,0,none⟩),.pointer (some ⟨k2,0,none⟩),.pointer (some ⟨k3,0,none⟩),.pointer (some ⟨k4,0,none⟩),.pointer (some ⟨k5,0,none⟩)] w fun e w'=>(e=zg 7 0/\Hid (Below w.heap.size w w')/\Hid (∃ Bs,VR Bs Bd (dE q)))\/(e=.returned (.tuple #[])/\Hid (wZ w w' k4 k5 (zB (dE q) (kS u) ix))):=by
 obtain ⟨Bs,Ej,hsp⟩:=y8 hq
 have hu:(kS u).length<=60:=Nat.le_trans (Ab u) DY
 have hg:=Pg u
 obtain ⟨hsum,hnz⟩:=E5 hq hu
 have hcn:Cn (dE q):=uM (Bo hq)
 have hS:=O8 hcn hnz (L:=kS u) hg hu
 obtain ⟨fr,hfr⟩:∃ fr,zB (dE q) (kS u) ix=fr:=⟨_,rfl⟩
 rw [hfr]
 have HOF:=Le Ej hsp hq
 have hbd:Below w.heap.size w (w.drewN 1):=⟨rfl,rfl,rfl,Nat.le_refl _,fun _ _=>rfl⟩
 have HN:=hide (su (w:=w.drewN 1) (m:=m) (u:=u) (B:=Bd) (Bs:=Bs) (R:=TrR q) DY (hide fun X t hb ht=>aa HOF (w.drewN 1) F m X t (Xr.move fun k hk _=>⟨(show (w.drewN 1).heap[k]? = w.heap[k]? from rfl),hk⟩) hb ht))
 have HS:Hid (∀ (e:Ending) (w1:World),Dc Bs (w.drewN 1) Bd (kS u) (TrR q) e w1->∃ sb:Nat,e=.returned (.pointer (some ⟨sb,0,none⟩))/\Hid (Below w.heap.size w w1)/\Hid (Calls Tryz.prog 44 #[.pointer (some ⟨sb,0,none⟩),.int .i64 (ix:Int)] w1 fun e w'=>(e=zg 7 0/\Hid (Below w.heap.size w w')/\Hid (∃ Bs,VR Bs Bd (dE q)))\/(e=.returned (.tuple #[.agg #[.int .i64 (((fr.getD (0,0)).1:Nat):Int),.int .i64 (((fr.getD (0,0)).2:Nat):Int)],.bool fr.isSome])/\Hid (Below w.heap.size w w')))):=by
  rintro e w1 ⟨sb,mb,cb,cap,n,t,T,S,C,rfl,hs,ha,hr,hb⟩
  obtain ⟨r1,r2,r3⟩:=aa hr
  have hb1:Below w.heap.size w w1:=hbd.trans (aa hb)
  refine ⟨sb,rfl,hide hb1,hide ((R4 Ej hS (hide ⟨t,T,S,C,[],hs,hide (fun n hn=>by cases hn),hide r1,hide ?_⟩) ha hu hix (fun k hk=>hg _ (by simp [List.getD,hk])) (fun b k hk=>ada hk)).mono ?_)⟩
  ·have:=Qd (BQ (dE q) (rR (kS u))) T (S.map (·.1)++[])
   show T.length+_<=1000000000000
   omega
  ·rintro e w' (⟨he,hb',ho⟩ | ⟨he,hb'⟩)
   ·exact .inl ⟨he,hide (hb1.trans (aa hb')),hide ⟨Bs,aa ho⟩⟩
   ·rw [hfr] at he
    exact .inr ⟨he,hide (hb1.trans (aa hb'))⟩
 obtain ⟨c0,c1,c2,c3,c4,c5,c6⟩:=aA.cells (aa h0)
 have hl0:k0<w.heap.size:=(Array.getElem?_eq_some_iff.1 (aa h0)).1
 have hl1:=World.block_lt_of_cell? w _ h1
 have hl2:=World.block_lt_of_cell? w _ h2
 have hl3:=World.block_lt_of_cell? w _ h3
 have hl4:k4<w.heap.size:=(Array.getElem?_eq_some_iff.1 h4).1
 have hl5:k5<w.heap.size:=(Array.getElem?_eq_some_iff.1 h5).1
 have HL:Hid (k0<w.heap.size/\k1<w.heap.size/\k2<w.heap.size/\k3<w.heap.size/\k4<w.heap.size/\k5<w.heap.size):=⟨hl0,hl1,hl2,hl3,hl4,hl5⟩
 obtain ⟨d1,d2,d3,d4,d5⟩:=hd
 have n04:k0≠k4:=by omega
 have n40:k4≠k0:=by omega
 have n14:k1≠k4:=by omega
 have n41:k4≠k1:=by omega
 have n24:k2≠k4:=by omega
 have n42:k4≠k2:=by omega
 have n34:k3≠k4:=by omega
 have n43:k4≠k3:=by omega
 have n05:k0≠k5:=by omega
 have n50:k5≠k0:=by omega
 have n15:k1≠k5:=by omega
 have n51:k5≠k1:=by omega
 have n25:k2≠k5:=by omega
 have n52:k5≠k2:=by omega
 have n35:k3≠k5:=by omega
 have n53:k5≠k3:=by omega
 have n54:k5≠k4:=by omega
 clear d1 d2 d3 d4 d5
 have H0:=h0
 have H1:=hide h1
 have H2:=hide h2
 have H3:=hide h3
 have H4:=hide h4
 have H5:=hide h5
 clear HOF h0 hfr hsum hnz hcn hS hsp hq Xr hbd h4 h5 hl0 hl1 hl2 hl3 hl4 hl5
 simp only [gD] at HN
 clear hu hg
 generalize kS u=cs at *
 generalize u=sx at *
 go_enter Tryz.func42,Tryz.ntmps42
 go_region_held (fun w'=>w'.cell? ⟨k0,0,none⟩=some (.int .i64 m.sh)/\w'.cell? ⟨k0,1,none⟩=some (.slice m.pa m.pn m.pc)/\w'.cell? ⟨k0,2,none⟩=some (.string m.ss)/\w'.cell? ⟨k0,3,none⟩=some (.int .i64 m.le)/\w'.cell? ⟨k0,4,none⟩=some (.int .i64 m.mo)/\w'.cell? ⟨k0,5,none⟩=some (.int .i64 m.fa)/\w'.cell? ⟨k0,6,none⟩=some (.int .i64 m.sz)/\w'.cell? ⟨k1,0,none⟩=some (.string sx)/\w'.cell? ⟨k2,0,none⟩=some (.int .i64 Bd)/\w'.cell? ⟨k3,0,none⟩=some (.int .i64 (ix:Int))) (go_keep)
  (first
   | (go_at_call 43;refine (aa HN).mono ?_;clear HN;intro ex w1 hx;obtain ⟨sb,rfl,HB1,HT1⟩:=aa HS ex w1 hx;clear hx HS;obtain ⟨e0,e1,e2,e3,e4,e5,e6⟩:=aA.cells (aa (aA.under HB1 H0));obtain ⟨hl0,hl1,hl2,hl3,hl4,hl5⟩:=aa HL;have g1:=aW HB1 hl1 (aa H1);have g2:=aW HB1 hl2 (aa H2);have g3:=aW HB1 hl3 (aa H3);clear hl0 hl1 hl2 hl3 hl4 hl5)
   | (go_at_call 44;refine (aa HT1).mono ?_;clear HT1;rintro ex w2 (⟨rfl,HB2,jl⟩ | ⟨rfl,HB2⟩);(exact ⟨rfl,.inl ⟨rfl,HB2,jl⟩⟩);obtain ⟨f0,f1,f2,f3,f4,f5,f6⟩:=aA.cells (aa (aA.under HB2 H0));obtain ⟨hl0,hl1,hl2,hl3,hl4,hl5⟩:=aa HL;have l1:=aW HB2 hl1 (aa H1);have l2:=aW HB2 hl2 (aa H2);have l3:=aW HB2 hl3 (aa H3);have B4:=((aa HB2).block _ hl4).trans (aa H4);have B5:=((aa HB2).block _ hl5).trans (aa H5);obtain ⟨m0,m1,mf⟩:=jG B4;have n0:w2.cell? ⟨k5,0,none⟩=some (.bool false):=(by simp [World.cell?,B5]);have nf:w2.frozen? ⟨k5,0,none⟩=false:=(by simp [World.frozen?,B5]);clear hl0 hl1 hl2 hl3 hl4 hl5))
 go_end0
 exact .inr ⟨rfl,Zu (aa HB2) m0 m1 n0 h45⟩
end Go.Proofs.YtfolanohokflkaaGreatDoor
namespace Go.Proofs.YtfolanohokflkaaGreatDoor
open Go.RowKit
def WN (t:ByteArray):Prop:=∀ (W:World) (i:Nat),Hid (Lib.Utf8Tabs 4 5 W)->i<=t.size->Calls Tryz.prog 25 #[.string ⟨#[40,41]⟩,.string t,.int .i64 (i:Int),.int .i64 200] W fun x w'=>x=.returned (.tuple #[.int .i64 (if i∈pts t then (i:Int) else 0),.int .i64 (if i∈pts t then (i:Int) else 0),.int .i64 (if i∈pts t then 0 else 6)])/\Hid (Below W.heap.size W w')
theorem WO (l:List Nat) (i:Nat):ints (az (l++[i]))=ints (az l)++[.int .i64 (i:Int)]:=by simp [ints,az]
theorem sw {w:World} {B g n cap k:Nat} {l:List Nat} (h:w.ownsRow B 3 1 (.slice (some ⟨g,0,none⟩) n cap) n (ints (az l))) (hk:k<l.length):w.cell? ⟨g,k,none⟩=some (.int .i64 (l[k]:Int)):=by
 have:=h.cells rfl k (.int .i64 (l[k]:Int)) (by simp [ints,az,hk])
 have e:(⟨g,0,none⟩:Addr).add k=⟨g,k,none⟩:=by cases k<;>simp [Addr.add]
 rwa [e] at this
def StR (t:ByteArray) (w:World) (e:Ending) (w':World):Prop:=∃ g cap,e=.returned (.tuple #[.slice (some ⟨g,0,none⟩) (pts t).length cap,.bool true])/\Hid (Below w.heap.size w w')/\Hid (w'.ownsRow w.heap.size 3 1 (.slice (some ⟨g,0,none⟩) (pts t).length cap) (pts t).length (ints (az (pts t))))
set_option maxRecDepth 100000 in
set_option maxHeartbeats 4000000 in
theorem qz {w:World} {t:ByteArray} (hs:t.size<=60) (ht:Hid (Lib.Utf8Tabs 4 5 w)) (HF:Hid (WN t)):Calls Tryz.prog 21 #[.string t] w (StR t w):=by
 go_enter Tryz.func21,Tryz.ntmps21
 go_wp2_with fail
 go_loopw [4,5] (fun l i wr=>∃ (k:Nat) (ao:Option Addr) (cap:Nat),k<=t.size+1/\i=.int .i64 (k:Int)/\l=.slice ao (lJ t k).length cap/\Hid (wr.ownsRow w.heap.size 3 1 (.slice ao (lJ t k).length cap) (lJ t k).length (ints (az (lJ t k))))/\Hid (Below w.heap.size w wr)) (fun _ i _=>t.size+1 - (intOf i).toNat)
 case atStart=>exact ⟨0,none,0,Nat.zero_le _,rfl,rfl,World.ownsRow_nil _ _ _ _,Below.refl _ _⟩
 case round=>
  obtain ⟨k,ao,cap,hk,rfl,rfl,HO,HB⟩:=hrel
  have hws:w.heap.size<=wr.heap.size:=(aa HB).size
  have nR:=ZB t k
  by_cases hlt:k<=t.size
  ·have HC:=hide (aa HF wr k (ak ht HB) hlt)
   have SL:(k:Int)<=(t.size:Int):=by omega
   by_cases hm:k∈pts t
   ·rw [if_pos hm,if_pos hm] at HC
    have HL:=hide (ZA hm)
    clear hm
    go_wp2_with (first
     | (go_at_call 25;refine (aa HC).mono ?_;clear HC;rintro x w2 ⟨rfl,HB2⟩;have jl:=hide (own_below (aa HO) (aa HB2) (Nat.le_refl _));have HB3:=ax HB HB2;have adQ:w.heap.size<=w2.heap.size:=(aa HB3).size)
     | (at_builtin;refine jK Tryz.underlying31 gU rfl (by decide) (by decide) w.heap.size w w2 _ _ [.int .i64 (k:Int)] _ (.tmp 32) (.tmp 34) rfl rfl rfl w2.heap.size rfl rfl jl HB3 adQ (by omega) rfl (by intro u hu;simp at hu;rw [hu];rfl) ?_;intro g5 cap5 w5 iC kV FO))
    go_roundw
    case rel=>
     refine ⟨k+1,some ⟨g5,0,none⟩,cap5,by omega,by go_num,?_,?_,kV⟩
     ·rw [aa HL,List.length_append];rfl
     ·show World.ownsRow _ _ _ _ _ _ _
      rw [aa HL,WO,List.length_append]
      exact iC
    case measure=>simp [intOf];omega
   ·rw [if_neg hm,if_neg hm] at HC
    have HL:=hide (abT hm)
    clear hm
    go_wp2_with (go_at_call 25;refine (aa HC).mono ?_;clear HC;rintro x w2 ⟨rfl,HB2⟩;have jl:=hide (own_below (aa HO) (aa HB2) (Nat.le_refl _));have HB3:=ax HB HB2)
    go_roundw
    case rel=>
     refine ⟨k+1,ao,cap,by omega,by go_num,?_,?_,HB3⟩
     ·rw [aa HL]
     ·rw [aa HL];exact jl
    case measure=>simp [intOf];omega
  ·have hk2:k=t.size+1:=by omega
   have SL:¬ (k:Int)<=(t.size:Int):=by omega
   have hlow:lJ t k=pts t:=by rw [hk2,Zz]
   rw [hlow] at HO ⊢
   clear hk2 hk hlt nR hlow
   have hpos:=xg t
   obtain ⟨g,rfl⟩:∃ g,ao=some ⟨g,0,none⟩:=by
    obtain ⟨_,⟨_,h0⟩ | ⟨g,cap',cur,e1,_⟩⟩:=aa HO
    ·omega
    ·injection e1 with e1
     exact ⟨g,e1⟩
   have p0:wr.cell? ⟨g,0,none⟩=some (.int .i64 0):=by
    have:=sw (aa HO) hpos
    rw [Sl] at this
    exact this
   have p1:wr.cell? ⟨g,(pts t).length - 1,none⟩=some (.int .i64 (t.size:Int)):=by
    have:=sw (aa HO) (k:=(pts t).length - 1) (by omega)
    rw [WK] at this
    exact this
   have hpf:=mR t
   have HE:Hid (∀ (e:Ending) (q:Nat),e=.returned (.tuple #[.slice (some ⟨g,0,none⟩) (pts t).length cap,.bool true])->StR t w e (wr.drewN q)):=fun e q he=>⟨g,cap,he,⟨(aa HB).os,(aa HB).tape,(aa HB).output,(aa HB).size,(aa HB).block⟩,HO⟩
   clear HO HB HF
   generalize hN:(pts t).length=N at *
   obtain ⟨N',rfl⟩:∃ N',N=N'+1:=⟨N - 1,by omega⟩
   rw [Nat.add_sub_cancel] at p1
   go_wp2_with fail
   go_quiet (fail)
   go_wp2_with fail
   go_ret2
   exact aa HE _ _ rfl
end Go.Proofs.YtfolanohokflkaaGreatDoor
namespace Go.Proofs.YtfolanohokflkaaGreatDoor
open Go.RowKit
open Tm (eps)
theorem Dk (s:ByteArray):kS s=vals (ah s 0):=by
 have key:∀ (d p:Nat),s.size - p<=d->p<=s.size->yt s d p=vals (ah s p):=by
  intro d
  induction d with
  | zero=>intro p h hp;rw [dW s p (by omega)];rfl
  | succ d ih=>
   intro p h hp
   rw [yt]
   by_cases q:p<s.size
   ·have hw:=dA s p q
    rw [if_pos q,dV s p q,ih _ (by omega) hw.2]
    rfl
   ·rw [if_neg q,dW s p (by omega)]
    rfl
 exact key s.size 0 (by omega) (Nat.zero_le _)
theorem pR (s:ByteArray):(pts s).length=(kS s).length+1:=by rw [Dk,WJ,xc]
def Lj (s:ByteArray) (x:Nat):Nat:=(pts s).countP (fun y=>decide (y<x))
theorem Ll:∀ {l:List Nat} {x:Nat},l.Pairwise (· < ·)->x∈l->∃ h:l.countP (fun y=>decide (y<x))<l.length,l[l.countP (fun y=>decide (y<x))]=x
 | [],x,_,hx=>by cases hx
 | a::l,x,hp,hx=>by
  rw [List.pairwise_cons] at hp
  by_cases e:a=x
  ·subst e
   have h0:(a::l).countP (fun y=>decide (y<a))=0:=by
    rw [List.countP_eq_zero]
    intro y hy
    rcases List.mem_cons.1 hy with q | q
    ·subst q;simp
    ·have:=hp.1 y q;simp;omega
   rw [h0]
   exact ⟨by simp,rfl⟩
  ·have hx':x∈l:=by
    rcases List.mem_cons.1 hx with q | q
    ·exact absurd q.symm e
    ·exact q
   have hlt:=hp.1 x hx'
   obtain ⟨h1,h2⟩:=Ll hp.2 hx'
   have ec:(a::l).countP (fun y=>decide (y<x))=l.countP (fun y=>decide (y<x))+1:=by
    rw [List.countP_cons_of_pos (by simpa using hlt)]
   rw [ec]
   exact ⟨by simp only [List.length_cons];omega,by rw [List.getElem_cons_succ];exact h2⟩
theorem Af (s:ByteArray):(pts s).Pairwise (· < ·):=ve s.size 0 (by omega) (Nat.zero_le _)
theorem NM {s:ByteArray} {x:Nat} (h:x∈pts s):∃ hl:Lj s x<(pts s).length,(pts s)[Lj s x]=x:=Ll (Af s) h
theorem Sm (l:List Nat) (x:Nat):(az l).countP (fun y=>decide (y<(x:Int)))=l.countP (fun y=>decide (y<x)):=by
 unfold az
 rw [List.countP_map]
 congr 1
 funext y
 simp [Function.comp]
theorem Hl (l:List Nat) (x:Nat):(az l).contains (x:Int)=decide (x∈l):=by
 unfold az
 rw [Bool.eq_iff_iff]
 simp
 constructor
 ·rintro ⟨a,h,e⟩
  have:a=x:=by omega
  exact this▸h
 ·exact fun h=>⟨x,h,rfl⟩
theorem abU {l:List Nat} (h:l.Pairwise (· < ·)):(az l).Pairwise (·<=·):=by
 unfold az
 rw [List.pairwise_map]
 exact h.imp fun {a b} q=>by show (a:Int)<=b;omega
theorem Dl {w:World} {g cap B x:Nat} {s:ByteArray} (hs:s.size<=60) (ho:Hid (w.ownsRow B 3 1 (.slice (some ⟨g,0,none⟩) (pts s).length cap) (pts s).length (ints (az (pts s))))) :
  Calls Tryz.prog 40 #[.slice (some ⟨g,0,none⟩) (pts s).length cap,.int .i64 (x:Int)] w fun e w'=>e=.returned (.tuple #[.int .i64 ((Lj s x:Nat):Int),.bool (decide (x∈pts s))])/\∃ q,w'=w.drewN q:=by
 have hf:=mR s
 have hl:(az (pts s)).length=(pts s).length:=by simp [az]
 have h:=Tryz.slices_BinarySearch_int g 0 (pts s).length cap (az (pts s)) (x:Int) w (by rw [hl];exact Nat.le_refl _) (by omega) (fun j hj=>by
  rw [hl] at hj
  have:=sw (aa ho) hj
  rw [Nat.zero_add,this]
  simp [az,List.getD,hj]) (by rw [<-hl,List.take_length];exact abU (Af s))
 rw [<-hl,List.take_length,hl,Sm,Hl] at h
 exact h
def fdV (s:ByteArray) (x:Nat) (o:Option (Nat×Nat)):Value:=if x∈pts s then (match o with
  | none=>.tuple #[.int .i64 (-1),.int .i64 (-1),.int .i64 0]
  | some (b,e)=>.tuple #[.int .i64 (((pts s).getD b 0:Nat):Int),.int .i64 (((pts s).getD e 0:Nat):Int),.int .i64 0])
 else .tuple #[.int .i64 0,.int .i64 0,.int .i64 6]
end Go.Proofs.YtfolanohokflkaaGreatDoor
namespace Go.Proofs.YtfolanohokflkaaGreatDoor
open Go.RowKit
open Tm (eps)
set_option maxRecDepth 100000 in
set_option maxHeartbeats 4000000 in
theorem D6 {w:World} {q:Pt} {s u:ByteArray} {k0 k1 k2 k3 k4 k5 ix:Nat} {m:Nd} {Bd:Int} {F:Nat->Prop} (hq:bP s=.ok q) (DY:u.size<=60) (h0:Hid (aA w k0 m)) (h1:w.cell? ⟨k1,0,none⟩=some (.string u)) (h2:w.cell? ⟨k2,0,none⟩=some (.int .i64 Bd)) (h3:w.cell? ⟨k3,0,none⟩=some (.int .i64 (ix:Int))) (hix:ix<=(kS u).length)
  (h4:w.heap[k4]? = some (.cells #[.int .i64 0,.int .i64 0] 72)) (h5:w.heap[k5]? = some (.cells #[.bool false] 4)) (hd:k3<k4/\k2<k3/\k1<k3/\k0<k3/\k4<k5) (Xr:iF w F m q) :
  Calls Tryz.prog 41 #[.func (.func 42) #[] #[.pointer (some ⟨k0,0,none⟩),.pointer (some ⟨k1,0,none⟩),.pointer (some ⟨k2,0,none⟩),.pointer (some ⟨k3,0,none⟩),.pointer (some ⟨k4,0,none⟩),.pointer (some ⟨k5,0,none⟩)]] w fun e w'=>(e=.returned (.agg #[.int .i64 7,.int .i64 0])/\Hid (Below w.heap.size w w')/\Hid (∃ Bs,VR Bs Bd (dE q)))\/(e=.returned (.agg #[.int .i64 0,.int .i64 0])/\Hid (wZ w w' k4 k5 (zB (dE q) (kS u) ix))):=by
 have hmf:∀ (fn:Fn) (first cap:Array Value) (w:World),(Instr.makeFunc fn first cap).run Tryz.prog w=.ok (.func fn first cap) w:=fun _ _ _ _=>rfl
 have hl1:=World.block_lt_of_cell? w _ h1
 have hl2:=World.block_lt_of_cell? w _ h2
 have hl3:=World.block_lt_of_cell? w _ h3
 have hl4:k4<w.heap.size:=(Array.getElem?_eq_some_iff.1 h4).1
 have hl5:k5<w.heap.size:=(Array.getElem?_eq_some_iff.1 h5).1
 have hA:Below w.heap.size w (w.alloc (.cells #[.int .i64 0,.int .i64 0] 74)):=(Below.refl _ _).alloc (Nat.le_refl _) _
 have HA:Hid (Below w.heap.size w (w.alloc (.cells #[.int .i64 0,.int .i64 0] 74))):=hA
 have HW:=hide (NL (w:=w.alloc (.cells #[.int .i64 0,.int .i64 0] 74)) hq DY (aA.alloc h0 _) (aW HA hl1 h1) (aW HA hl2 h2) (aW HA hl3 h3) hix ((hA.block _ hl4).trans h4) ((hA.block _ hl5).trans h5) (by omega) hd (Xr.move fun k hk hl=>⟨hA.block k hl,hk⟩))
 generalize zB (dE q) (kS u) ix=fr at HW ⊢
 have hnew:w.heap.size<(w.alloc (.cells #[.int .i64 0,.int .i64 0] 74)).heap.size:=by simp
 have c0:=bH w [.int .i64 0,.int .i64 0] 74 0 _ rfl
 have c1:=bH w [.int .i64 0,.int .i64 0] 74 1 _ rfl
 have Sn:w.heap.size≠k4:=by omega
 have hne5:w.heap.size≠k5:=by omega
 have HN:=hide hnew
 have C0:=hide c0
 have C1:=hide c1
 clear h0 h1 h2 h3 h4 h5 hl1 hl2 hl3 hl4 hl5 hnew c0 c1 Xr hq hix hd hA
 go_enter_defers Tryz.func41,Tryz.ntmps41
 go_wp2_with (go_at_call 42;refine (aa HW).mono ?_;clear HW;rintro e w1 (⟨rfl,HB,HO⟩ | ⟨rfl,HU⟩);rotate_left;have q0:w1.cell? ⟨w.heap.size,0,none⟩=some (.int .i64 0):=(by rw [World.cell?_of_block (a:=⟨w.heap.size,0,none⟩) ((aa HU).block _ (aa HN) Sn hne5)];exact aa C0);have q1:w1.cell? ⟨w.heap.size,1,none⟩=some (.int .i64 0):=(by rw [World.cell?_of_block (a:=⟨w.heap.size,1,none⟩) ((aa HU).block _ (aa HN) Sn hne5)];exact aa C1);have z0:w1.frozen? ⟨w.heap.size,0,none⟩=false:=(by rw [World.frozen?_of_block (a:=⟨w.heap.size,0,none⟩) ((aa HU).block _ (aa HN) Sn hne5)];exact World.frozen?_alloc_at _ _ _ _ rfl);have z1:w1.frozen? ⟨w.heap.size,1,none⟩=false:=(by rw [World.frozen?_of_block (a:=⟨w.heap.size,1,none⟩) ((aa HU).block _ (aa HN) Sn hne5)];exact World.frozen?_alloc_at _ _ _ _ rfl);rotate_left)
 ·have hn:=aa HN
  have q0:w1.cell? ⟨w.heap.size,0,none⟩=some (.int .i64 0):=by rw [(aa HB).cell (p:=⟨w.heap.size,0,none⟩) hn];exact aa C0
  have q1:w1.cell? ⟨w.heap.size,1,none⟩=some (.int .i64 0):=by rw [(aa HB).cell (p:=⟨w.heap.size,1,none⟩) hn];exact aa C1
  have fz:∀ k,w1.frozen? ⟨w.heap.size,k,none⟩=false:=fun k=>by rw [(aa HB).frozen (p:=⟨w.heap.size,k,none⟩) hn];exact World.frozen?_alloc_at _ _ _ _ rfl
  have hl1:=World.block_lt_of_cell? w1 _ q0
  refine leaves_cons (f:=70) (args:=#[.pointer (some ⟨w.heap.size,0,none⟩)]) (by simp) (by simp [go_sem]) ?_
  refine (Fv w.heap.size 7 0 (.int .i64 0) (.int .i64 0) [] w1 q0 q1 fz).mono ?_
  rintro x u' w'' ⟨rfl,rfl,rfl⟩
  show Leaves _ _ _ _ [] .returning _
  refine ⟨.agg #[.int .i64 7,.int .i64 0],?_,.inl ⟨rfl,?_,HO⟩⟩
  ·simp [results,Tryz.results41,go_sem,q0,q1,hl1]
  ·exact CS (((((Up.below ((Below.refl _ _).alloc (Nat.le_refl _) _)).trans (Up.below (aa HB))).trans (Up.set _ _ _ _)).trans (Up.set _ _ _ _)).trans (Up.below ((Below.refl _ _).alloc (Nat.le_refl _) _)))
 ·have hl1:=World.block_lt_of_cell? w1 _ q0
  refine leaves_cons (f:=70) (args:=#[.pointer (some ⟨w.heap.size,0,none⟩)]) (by simp) (by simp [go_sem]) ?_
  refine (u6 ⟨w.heap.size,0,none⟩ _).mono ?_
  rintro e u' w'' ⟨rfl,rfl,rfl⟩
  show Leaves _ _ _ _ [] .returning _
  refine ⟨.agg #[.int .i64 0,.int .i64 0],?_,.inr ⟨rfl,?_⟩⟩
  ·simp [results,Tryz.results41,go_sem,q0,q1]
  ·exact wZ.oJ (wZ.oJ ((aa HU).after (aa HA)) _ _ (Nat.le_refl _) (Ne.symm Sn) (Ne.symm hne5)) _ _ (Nat.le_refl _) (Ne.symm Sn) (Ne.symm hne5)
end Go.Proofs.YtfolanohokflkaaGreatDoor
namespace Go.Proofs.YtfolanohokflkaaGreatDoor
open Go.RowKit
open Tm (eps)
theorem WQ:∀ v:List Int,aJ eps v=eps\/aJ eps v=aH
 | []=>.inl rfl
 | c::v=>.inr (by show aJ (aL c eps) v=aH;rw [AP];exact tH v)
theorem Sq {M:List Nat} {a b:Nat} (hn:M.Nodup) (h:∀ n∈M,n=a\/n=b):M.length<=2:=by
 match M,hn,h with
 | [],_,_=>simp
 | [_],_,_=>simp
 | [_,_],_,_=>simp
 | x::y::z::r,hn,h=>
  have hx:=h x (by simp)
  have hy:=h y (by simp)
  have hz:=h z (by simp)
  simp at hn
  omega
theorem ZG (Bs:List Int):¬ VR Bs 200 eps:=by
 rintro ⟨T,M,hT,hn,hl,hM⟩
 have h:∀ n∈M,n=1\/n=0:=fun n hn=>by
  obtain ⟨v,hv⟩:=hM n hn
  rcases WQ v with e | e
  ·rw [e] at hv;exact .inl (hT.inj _ _ _ hv hT.r1)
  ·rw [e] at hv;exact .inr (hT.inj _ _ _ hv hT.r0)
 have:=Sq hn h
 omega
theorem Qj {L:List Int} {b:Nat}:∀ k,b+k<=L.length+1->0<k->G6 eps L b k=some b
 | 0,_,h=>by omega
 | 1,_,_=>rfl
 | k+2,hk,_=>by
  show (if qL eps L b (k+1)=true then some (b+(k+1)) else G6 eps L b (k+1))=some b
  have e:qL eps L b (k+1)=false:=by
   unfold qL
   cases hd:(L.drop b).take (k+1) with
   | nil=>
    have:=congrArg List.length hd
    rw [List.length_take,List.length_drop] at this
    simp at this
    omega
   | cons c v=>
    have:aJ eps (c::v)=aH:=by show aJ (aL c eps) v=aH;rw [AP];exact tH v
    rw [this]
    rfl
  rw [if_neg (by rw [e];decide)]
  exact Qj (k+1) (by omega) (by omega)
theorem WR {L:List Int} {b:Nat} (h:b<=L.length):zB eps L b=some (b,b):=by
 rw [KG h]
 have:VP eps L b=some b:=Qj _ (by omega) (by omega)
 rw [this]
theorem NN:j5 ⟨#[40,41]⟩=.ok (fM []):=by kernel_rfl
theorem Lm:bP ⟨#[40,41]⟩=.ok (.row []):=by kernel_rfl
end Go.Proofs.YtfolanohokflkaaGreatDoor
namespace Go.Proofs.YtfolanohokflkaaGreatDoor
open Go.RowKit
open Tm (eps)
set_option maxRecDepth 100000 in
set_option maxHeartbeats 8000000 in
theorem FH {w:World} {p u:ByteArray} {z:Pn} {x:Nat} (hq:bP p=.ok z.1) (hs:p.size<=60) (DY:u.size<=60) (ht:Hid (Lib.Utf8Tabs 4 5 w)) (hR:Hid (j5 p=.ok z)) (hz:¬ 60<z.2) (hfr:∀ b e,zB (dE z.1) (kS u) (Lj u x)=some (b,e)->b<(pts u).length/\e<(pts u).length) :
  Calls Tryz.prog 25 #[.string p,.string u,.int .i64 (x:Int),.int .i64 200] w fun e w'=>((e=.returned (.tuple #[.int .i64 0,.int .i64 0,.int .i64 7])/\Hid (∃ Bs,VR Bs 200 (dE z.1)))\/e=.returned (fdV u x (zB (dE z.1) (kS u) (Lj u x))))/\Hid (Below w.heap.size w w'):=by
 have s1:(w.alloc (.cells #[.string u] 9)).heap.size=w.heap.size+1:=by simp
 obtain ⟨wb,hwb⟩:∃ wb,(w.alloc (.cells #[.string u] 9)).alloc (.cells #[.int .i64 200] 3)=wb:=⟨_,rfl⟩
 have H9:Hid (Below w.heap.size w wb):=by
  rw [<-hwb]
  exact ((Below.refl _ _).alloc (Nat.le_refl _) _).alloc (by rw [s1];omega) _
 have htb:Hid (Lib.Utf8Tabs 4 5 wb):=ak ht H9
 have b1:wb.cell? ⟨w.heap.size,0,none⟩=some (.string u):=by
  rw [<-hwb,World.cell?_alloc_past _ _ _ (by show w.heap.size<_;rw [s1];omega)]
  exact aB rfl 0 rfl
 have b2:wb.cell? ⟨w.heap.size+1,0,none⟩=some (.int .i64 200):=by
  rw [<-hwb,<-s1]
  exact aB rfl 0 rfl
 have O6:=hide (wW (w:=wb) (u:=u) (B:=200) hs DY htb hR hz (by omega) (by omega))
 have RG:=hide (fun W=>NK u W DY)
 have hmf:∀ (fn:Fn) (first cap:Array Value) (w:World),(Instr.makeFunc fn first cap).run Tryz.prog w=.ok (.func fn first cap) w:=fun _ _ _ _=>rfl
 by_cases hx:x∈pts u
 ·obtain ⟨hil,hie⟩:=NM hx
  have hix:Lj u x<=(kS u).length:=by have:=pR u;omega
  have Kr:Hid (∀ (W:World) (g cap B:Nat),Hid (W.ownsRow B 3 1 (.slice (some ⟨g,0,none⟩) (pts u).length cap) (pts u).length (ints (az (pts u))))->Calls Tryz.prog 40 #[.slice (some ⟨g,0,none⟩) (pts u).length cap,.int .i64 (x:Int)] W fun e w'=>e=.returned (.tuple #[.int .i64 ((Lj u x:Nat):Int),.bool true])/\∃ q,w'=W.drewN q):=fun W g cap B ho=>by
   have h:=Dl (x:=x) DY ho
   rw [decide_eq_true hx] at h
   exact h
  unfold fdV
  rw [if_pos hx]
  generalize adR:Lj u x=ix at *
  have HAF:Hid (∀ (w2 w4:World) (m:Nd),Hid (Below wb.heap.size wb w2)->Hid (aY w2 (fun k=>wb.heap.size<k) m z)->Hid (Below (w2.alloc (aD m)).heap.size (w2.alloc (aD m)) w4)->Calls Tryz.prog 41 #[.func (.func 42) #[] #[.pointer (some ⟨w2.heap.size,0,none⟩),.pointer (some ⟨w.heap.size,0,none⟩),.pointer (some ⟨w.heap.size+1,0,none⟩),.pointer (some ⟨w4.heap.size,0,none⟩),.pointer (some ⟨w4.heap.size+1,0,none⟩),.pointer (some ⟨w4.heap.size+1+1,0,none⟩)]] (((w4.alloc (.cells #[.int .i64 (ix:Int)] 3)).alloc (.cells #[.int .i64 0,.int .i64 0] 72)).alloc (.cells #[.bool false] 4)) fun e w'=>(e=.returned (.agg #[.int .i64 7,.int .i64 0])/\Hid (Below w4.heap.size w4 w')/\Hid (∃ Bs,VR Bs 200 (dE z.1)))\/(e=.returned (.agg #[.int .i64 0,.int .i64 0])/\Hid (wZ w4 w' (w4.heap.size+1) (w4.heap.size+1+1) (zB (dE z.1) (kS u) ix)))):=by
   intro w2 w4 m hb hn hb4
   have t1:(w4.alloc (.cells #[.int .i64 (ix:Int)] 3)).heap.size=w4.heap.size+1:=by simp
   have t2:((w4.alloc (.cells #[.int .i64 (ix:Int)] 3)).alloc (.cells #[.int .i64 0,.int .i64 0] 72)).heap.size=w4.heap.size+1+1:=by simp
   have hq0:=Below.refl w4.heap.size w4
   have hA:Below w4.heap.size w4 (((w4.alloc (.cells #[.int .i64 (ix:Int)] 3)).alloc (.cells #[.int .i64 0,.int .i64 0] 72)).alloc (.cells #[.bool false] 4)):=((hq0.alloc (Nat.le_refl _) _).alloc (by rw [t1];omega) _).alloc (by rw [t2];omega) _
   have c3:(((w4.alloc (.cells #[.int .i64 (ix:Int)] 3)).alloc (.cells #[.int .i64 0,.int .i64 0] 72)).alloc (.cells #[.bool false] 4)).cell? ⟨w4.heap.size,0,none⟩=some (.int .i64 (ix:Int)):=by
    rw [World.cell?_alloc_past _ _ _ (by show w4.heap.size<_;rw [t2];omega),World.cell?_alloc_past _ _ _ (by show w4.heap.size<_;rw [t1];omega)]
    exact aB rfl 0 rfl
   have c4:(((w4.alloc (.cells #[.int .i64 (ix:Int)] 3)).alloc (.cells #[.int .i64 0,.int .i64 0] 72)).alloc (.cells #[.bool false] 4)).heap[w4.heap.size+1]? = some (.cells #[.int .i64 0,.int .i64 0] 72):=by
    rw [Below.heap_alloc _ _ _ (by rw [t2];omega),<-t1]
    exact heap_alloc_new _ _
   have c5:(((w4.alloc (.cells #[.int .i64 (ix:Int)] 3)).alloc (.cells #[.int .i64 0,.int .i64 0] 72)).alloc (.cells #[.bool false] 4)).heap[w4.heap.size+1+1]? = some (.cells #[.bool false] 4):=by
    rw [<-t2]
    exact heap_alloc_new _ _
   generalize ((w4.alloc (.cells #[.int .i64 (ix:Int)] 3)).alloc (.cells #[.int .i64 0,.int .i64 0] 72)).alloc (.cells #[.bool false] 4)=A at *
   have t3:(w2.alloc (aD m)).heap.size=w2.heap.size+1:=by simp
   have Lp:Below w2.heap.size w2 w4:=((Below.refl _ _).alloc (Nat.le_refl _) _).trans ((aa hb4).mono (by rw [t3];omega))
   have h24:=Lp.size
   have adb:Below w2.heap.size w2 A:=Lp.trans (hA.mono h24)
   have hbA:Below wb.heap.size wb A:=(aa hb).trans (adb.mono (aa hb).size)
   have h4s:=(aa hb4).size
   have hn0:aA A w2.heap.size m:=by
    have e1:=(aa hb4).block w2.heap.size (by rw [t3];omega)
    exact (hA.block _ (by rw [t3] at h4s;omega)).trans (e1.trans (aA.new w2 m))
   have adS:=World.block_lt_of_cell? _ _ b1
   have ade:=World.block_lt_of_cell? _ _ b2
   have hw2:=(aa hb).size
   refine (D6 (w:=A) (k0:=w2.heap.size) (k1:=w.heap.size) (k2:=w.heap.size+1) (k3:=w4.heap.size) (k4:=w4.heap.size+1) (k5:=w4.heap.size+1+1) (m:=m) (Bd:=200) hq DY (hide hn0) (aW (hide hbA) adS b1) (aW (hide hbA) ade b2) c3 hix c4 c5 ?_ ((aa hn).2.move fun k hk hl=>⟨adb.block k hl,hk⟩)).mono ?_
   ·have q1:w.heap.size+1<wb.heap.size:=ade
    rw [t3] at h4s
    refine ⟨by omega,by omega,by omega,by omega,by omega⟩
   ·rintro e w' (⟨he,hu,ho⟩ | ⟨he,hu⟩)
    ·exact .inl ⟨he,hide (hA.trans ((aa hu).mono hA.size)),ho⟩
    ·exact .inr ⟨he,hide ((aa hu).after hA)⟩
  have HTX:Hid (∀ (w2:World) (m:Nd),Hid (Below wb.heap.size wb w2)->(w2.alloc (aD m)).cell? ⟨w.heap.size,0,none⟩=some (.string u)):=fun w2 m h2=>by
   have hl:=World.block_lt_of_cell? _ _ b1
   have h1:=aW h2 hl b1
   rw [World.cell?_alloc_past _ _ _ (World.block_lt_of_cell? _ _ h1)]
   exact h1
  have HBD:Hid (∀ b e,zB (dE z.1) (kS u) ix=some (b,e)->b<(pts u).length/\e<(pts u).length):=hfr
  generalize zB (dE z.1) (kS u) ix=fr at *
  have hpf:=mR u
  clear ht htb hR hz hs b1 b2 s1 hq hfr hil hie hix adR hx
  have HRW:Hid (∀ (W4 W6:World) (B g cap n0:Nat) (o:Option (Nat×Nat)),Hid (W4.ownsRow B 3 1 (.slice (some ⟨g,0,none⟩) (pts u).length cap) (pts u).length (ints (az (pts u))))->Hid (wZ W4 W6 (W4.heap.size+1) (W4.heap.size+1+1) o)->∀ j,j<(pts u).length->W6.cell? ⟨g,j,none⟩=some (.int .i64 (((pts u).getD j 0:Nat):Int))):=fun W4 W6 B g cap n0 o ho hu j hj=>by
   have h1:=sw (aa ho) hj
   have hl:g<W4.heap.size:=World.block_lt_of_cell? _ _ h1
   rw [World.cell?_of_block (a:=⟨g,j,none⟩) ((aa hu).block g hl (by omega) (by omega)),h1]
   simp [List.getD,hj]
  have SQ:Hid (∀ (w2 W4 W6:World) (m:Nd) (o:Option (Nat×Nat)),Hid (Below wb.heap.size wb w2)->Hid (Below (w2.alloc (aD m)).heap.size (w2.alloc (aD m)) W4)->Hid (wZ W4 W6 (W4.heap.size+1) (W4.heap.size+1+1) o)->Below w.heap.size w W6):=fun w2 W4 W6 m o h2 h4 h6=>by
   have t3:(w2.alloc (aD m)).heap.size=w2.heap.size+1:=by simp
   have Lp:Below w2.heap.size w2 W4:=((Below.refl _ _).alloc (Nat.le_refl _) _).trans ((aa h4).mono (by rw [t3];omega))
   have hbw:Below w.heap.size w W4:=(aa H9).trans (((aa h2).trans (Lp.mono (aa h2).size)).mono (aa H9).size)
   have g:=aa h6
   have q:=hbw.size
   exact ⟨g.os.trans hbw.os,g.tape.trans hbw.tape,g.output.trans hbw.output,Nat.le_trans q g.size,fun k hk=>(g.block k (by omega) (by omega) (by omega)).trans (hbw.block k hk)⟩
  have HFE:Hid (∀ (w2 W4 W6:World) (m:Nd),Hid (Below wb.heap.size wb w2)->Hid (Below (w2.alloc (aD m)).heap.size (w2.alloc (aD m)) W4)->Hid (Below W4.heap.size W4 W6)->Below w.heap.size w W6):=fun w2 W4 W6 m h2 h4 h6=>by
   have t3:(w2.alloc (aD m)).heap.size=w2.heap.size+1:=by simp
   have Lp:Below w2.heap.size w2 W4:=((Below.refl _ _).alloc (Nat.le_refl _) _).trans ((aa h4).mono (by rw [t3];omega))
   have hbw:Below w.heap.size w W4:=(aa H9).trans (((aa h2).trans (Lp.mono (aa h2).size)).mono (aa H9).size)
   exact hbw.trans ((aa h6).mono hbw.size)
  clear H9 DY
  subst hwb
  cases fr with
  | none=>
   go_enter Tryz.func25,Tryz.ntmps25
   go_wp2_with (first
    | (go_at_call 38;refine (aa O6).mono ?_;clear O6;simp only [gD];rintro ex w2 ⟨m,rfl,HB2,iy⟩;have tx2:=aa HTX w2 m HB2;clear HTX)
    | (go_at_call 39;refine (aa RG _).mono ?_;clear RG;rintro ex w4 ⟨g,cap,rfl,p9,xR⟩)
    | (go_at_call 40;refine (aa Kr w4 g cap _ xR).mono ?_;clear Kr;rintro ex w5 ⟨rfl,qd,Xt⟩;have kV:Hid (Below (w2.alloc (aD m)).heap.size (w2.alloc (aD m)) w5):=(by rw [Xt];exact ⟨(aa p9).os,(aa p9).tape,(aa p9).output,(aa p9).size,(aa p9).block⟩);have iC:Hid (w5.ownsRow (w2.alloc (aD m)).heap.size 3 1 (.slice (some ⟨g,0,none⟩) (pts u).length cap) (pts u).length (ints (az (pts u)))):=(by rw [Xt];exact xR);clear Xt)
    | (go_at_call 41;refine (aa HAF w2 w5 m HB2 iy kV).mono ?_;clear HAF;rintro ex w6 (⟨rfl,NU,Qw⟩ | ⟨rfl,Xu⟩);rotate_left;have p2:=(aa Xu).c2;have hl2:=World.block_lt_of_cell? _ _ p2;rotate_left))
   ·have HW7:Hid (Below w.heap.size w (w6.alloc (.cells #[.int .i64 7,.int .i64 0] 74))):=by
     have hb6:=aa HFE w2 w5 w6 m HB2 kV NU
     exact hb6.alloc hb6.size _
    have e0:(w6.alloc (.cells #[.int .i64 7,.int .i64 0] 74)).cell? ⟨w6.heap.size,0,none⟩=some (.int .i64 7):=aB rfl 0 rfl
    generalize w6.alloc (.cells #[.int .i64 7,.int .i64 0] 74)=W7 at *
    go_quiet (fail)
    go_wp2_with fail
    go_ret3
    have h:=aa HW7
    exact ⟨.inl ⟨rfl,Qw⟩,⟨h.os,h.tape,h.output,h.size,h.block⟩⟩
   ·go_ret3
    have hb6:=aa SQ w2 w5 w6 m none HB2 kV Xu
    exact ⟨.inr rfl,hb6.alloc hb6.size _⟩
  | some be=>
   obtain ⟨b,e⟩:=be
   obtain ⟨hbl,hel⟩:=aa HBD b e rfl
   have hbI:(b:Int)<((pts u).length:Int):=by omega
   have heI:(e:Int)<((pts u).length:Int):=by omega
   have hb0:(0:Int)<=(b:Int):=by omega
   have he0:(0:Int)<=(e:Int):=by omega
   dsimp only
   obtain ⟨xb,hxb⟩:∃ xb,(pts u).getD b 0=xb:=⟨_,rfl⟩
   obtain ⟨xe,hxe⟩:∃ xe,(pts u).getD e 0=xe:=⟨_,rfl⟩
   rw [hxb,hxe]
   have HXB:=hide hxb
   have HXE:=hide hxe
   clear hxb hxe
   go_enter Tryz.func25,Tryz.ntmps25
   go_wp2_with (first
    | (go_at_call 38;refine (aa O6).mono ?_;clear O6;simp only [gD];rintro ex w2 ⟨m,rfl,HB2,iy⟩;have tx2:=aa HTX w2 m HB2;clear HTX)
    | (go_at_call 39;refine (aa RG _).mono ?_;clear RG;rintro ex w4 ⟨g,cap,rfl,p9,xR⟩)
    | (go_at_call 40;refine (aa Kr w4 g cap _ xR).mono ?_;clear Kr;rintro ex w5 ⟨rfl,qd,Xt⟩;have kV:Hid (Below (w2.alloc (aD m)).heap.size (w2.alloc (aD m)) w5):=(by rw [Xt];exact ⟨(aa p9).os,(aa p9).tape,(aa p9).output,(aa p9).size,(aa p9).block⟩);have iC:Hid (w5.ownsRow (w2.alloc (aD m)).heap.size 3 1 (.slice (some ⟨g,0,none⟩) (pts u).length cap) (pts u).length (ints (az (pts u)))):=(by rw [Xt];exact xR);clear Xt)
    | (go_at_call 41;refine (aa HAF w2 w5 m HB2 iy kV).mono ?_;clear HAF;rintro ex w6 (⟨rfl,NU,Qw⟩ | ⟨rfl,Xu⟩);rotate_left;have p0:=(aa Xu).c0;have p1:=(aa Xu).c1;have p2:=(aa Xu).c2;have hl0:=World.block_lt_of_cell? _ _ p0;have hl2:=World.block_lt_of_cell? _ _ p2;have r0:=aa HRW w5 w6 _ g cap 0 _ iC Xu b hbl;have r1:=aa HRW w5 w6 _ g cap 0 _ iC Xu e hel;rw [aa HXB] at r0;rw [aa HXE] at r1;have hl3:=World.block_lt_of_cell? _ _ r0;rotate_left))
   ·have HW7:Hid (Below w.heap.size w (w6.alloc (.cells #[.int .i64 7,.int .i64 0] 74))):=by
     have hb6:=aa HFE w2 w5 w6 m HB2 kV NU
     exact hb6.alloc hb6.size _
    have e0:(w6.alloc (.cells #[.int .i64 7,.int .i64 0] 74)).cell? ⟨w6.heap.size,0,none⟩=some (.int .i64 7):=aB rfl 0 rfl
    generalize w6.alloc (.cells #[.int .i64 7,.int .i64 0] 74)=W7 at *
    go_quiet (fail)
    go_wp2_with fail
    go_ret3
    have h:=aa HW7
    exact ⟨.inl ⟨rfl,Qw⟩,⟨h.os,h.tape,h.output,h.size,h.block⟩⟩
   ·have HW7:Hid (Below w.heap.size w (w6.alloc (.cells #[.int .i64 0,.int .i64 0] 74))):=by
     have hb6:=aa SQ w2 w5 w6 m _ HB2 kV Xu
     exact hb6.alloc hb6.size _
    have p0':(w6.alloc (.cells #[.int .i64 0,.int .i64 0] 74)).cell? ⟨w5.heap.size+1,0,none⟩=some (.int .i64 (b:Int)):=by rw [World.cell?_alloc_past _ _ _ hl0];exact p0
    have p1':(w6.alloc (.cells #[.int .i64 0,.int .i64 0] 74)).cell? ⟨w5.heap.size+1,1,none⟩=some (.int .i64 (e:Int)):=by rw [World.cell?_alloc_past _ _ _ hl0];exact p1
    have r0':(w6.alloc (.cells #[.int .i64 0,.int .i64 0] 74)).cell? ⟨g,b,none⟩=some (.int .i64 (xb:Int)):=by rw [World.cell?_alloc_past _ _ _ hl3];exact r0
    have r1':(w6.alloc (.cells #[.int .i64 0,.int .i64 0] 74)).cell? ⟨g,e,none⟩=some (.int .i64 (xe:Int)):=by rw [World.cell?_alloc_past _ _ _ hl3];exact r1
    clear p0 p1 p2 r0 r1 hl0 hl2 hl3 Xu
    generalize w6.alloc (.cells #[.int .i64 0,.int .i64 0] 74)=W7 at *
    go_quiet (fail)
    go_wp2_with fail
    go_ret3
    have h:=aa HW7
    exact ⟨.inr rfl,⟨h.os,h.tape,h.output,h.size,h.block⟩⟩
 ·have Kr:Hid (∀ (W:World) (g cap B:Nat),Hid (W.ownsRow B 3 1 (.slice (some ⟨g,0,none⟩) (pts u).length cap) (pts u).length (ints (az (pts u))))->Calls Tryz.prog 40 #[.slice (some ⟨g,0,none⟩) (pts u).length cap,.int .i64 (x:Int)] W fun e w'=>e=.returned (.tuple #[.int .i64 ((Lj u x:Nat):Int),.bool false])/\∃ q,w'=W.drewN q):=fun W g cap B ho=>by
   have h:=Dl (x:=x) DY ho
   rw [decide_eq_false hx] at h
   exact h
  unfold fdV
  rw [if_neg hx]
  generalize Lj u x=ix at *
  have HTX:Hid (∀ (w2:World) (m:Nd),Hid (Below wb.heap.size wb w2)->(w2.alloc (aD m)).cell? ⟨w.heap.size,0,none⟩=some (.string u)):=fun w2 m h2=>by
   have hl:=World.block_lt_of_cell? _ _ b1
   have h1:=aW h2 hl b1
   rw [World.cell?_alloc_past _ _ _ (World.block_lt_of_cell? _ _ h1)]
   exact h1
  have SQ:Hid (∀ (w2 W4:World) (m:Nd),Hid (Below wb.heap.size wb w2)->Hid (Below (w2.alloc (aD m)).heap.size (w2.alloc (aD m)) W4)->Below w.heap.size w W4):=fun w2 W4 m h2 h4=>by
   have t3:(w2.alloc (aD m)).heap.size=w2.heap.size+1:=by simp
   have Lp:Below w2.heap.size w2 W4:=((Below.refl _ _).alloc (Nat.le_refl _) _).trans ((aa h4).mono (by rw [t3];omega))
   exact (aa H9).trans (((aa h2).trans (Lp.mono (aa h2).size)).mono (aa H9).size)
  have hpf:=mR u
  clear ht htb hR hz hs b1 b2 s1 hq hfr hx H9 DY
  subst hwb
  go_enter Tryz.func25,Tryz.ntmps25
  go_wp2_with (first
   | (go_at_call 38;refine (aa O6).mono ?_;clear O6;simp only [gD];rintro ex w2 ⟨m,rfl,HB2,iy⟩;have tx2:=aa HTX w2 m HB2;clear HTX)
   | (go_at_call 39;refine (aa RG _).mono ?_;clear RG;rintro ex w4 ⟨g,cap,rfl,p9,xR⟩)
   | (go_at_call 40;refine (aa Kr w4 g cap _ xR).mono ?_;clear Kr;rintro ex w5 ⟨rfl,qd,Xt⟩;have kV:Hid (Below (w2.alloc (aD m)).heap.size (w2.alloc (aD m)) w5):=(by rw [Xt];exact ⟨(aa p9).os,(aa p9).tape,(aa p9).output,(aa p9).size,(aa p9).block⟩);clear Xt))
  go_ret3
  have hb5:=aa SQ w2 w5 m HB2 kV
  exact ⟨.inr rfl,hb5.alloc hb5.size _⟩
theorem FI {t:ByteArray} (hs:t.size<=60):WN t:=by
 intro W i ht hi
 have hq:bP ⟨#[40,41]⟩=.ok (fM []).1:=Lm
 have e:dE (fM []).1=eps:=rfl
 have h:=FH (w:=W) (p:=⟨#[40,41]⟩) (u:=t) (z:=fM []) (x:=i) hq (by decide) hs ht (hide NN) (by decide) (by
  intro b c hbc
  rw [e] at hbc
  by_cases hle:Lj t i<=(kS t).length
  ·rw [WR hle] at hbc
   cases hbc
   rw [pR]
   omega
  ·rw [G7 hle] at hbc
   cases hbc)
 refine h.mono ?_
 rintro x w' ⟨hx,hb⟩
 refine ⟨?_,hb⟩
 rcases hx with ⟨_,ho⟩ | hx
 ·obtain ⟨Bs,ho⟩:=aa ho
  exact absurd ho (by rw [e];exact ZG Bs)
 rw [hx,e]
 unfold fdV
 by_cases hm:i∈pts t
 ·obtain ⟨hl,he⟩:=NM hm
  have hle:Lj t i<=(kS t).length:=by rw [pR] at hl;omega
  rw [if_pos hm,WR hle]
  have eg:(pts t).getD (Lj t i) 0=i:=by
   have:(pts t).getD (Lj t i) 0=(pts t)[Lj t i]:=by simp [List.getD,hl]
   rw [this,he]
  simp only [eg,if_pos hm]
 ·rw [if_neg hm]
  simp only [if_neg hm]
end Go.Proofs.YtfolanohokflkaaGreatDoor
namespace Go.Proofs.YtfolanohokflkaaGreatDoor
open Go.RowKit
theorem vg (t:ByteArray) (a b:Nat) (h:t.size<=60):(t.extract a b).size<=60:=by rw [ByteArray.size_extract];omega
set_option maxRecDepth 100000 in
set_option maxHeartbeats 4000000 in
theorem Dm {w:World} {t:ByteArray} {x:Nat} (hx:x<=t.size) (hs:t.size<=60) (ht:Hid (Lib.Utf8Tabs 4 5 w)) (HF:Hid (∀ u:ByteArray,u.size<=60->WN u)) :
  Calls Tryz.prog 22 #[.string t,.int .i64 (x:Int)] w fun e w'=>(∃ b,e=.returned (.bool b))/\Hid (Below w.heap.size w w'):=by
 have H1:=hide (fun (W:World) h=>qz (w:=W) (t:=t.extract 0 x) (vg t _ _ hs) h (hide (aa HF _ (vg t _ _ hs))))
 have H2:=hide (fun (W:World) h=>qz (w:=W) (t:=t.extract x t.size) (vg t _ _ hs) h (hide (aa HF _ (vg t _ _ hs))))
 have H3:=hide (fun (W:World) h=>qz (w:=W) (t:=t) hs h (hide (aa HF _ hs)))
 have hxI:(x:Int)<=(t.size:Int):=by omega
 have f1:=mR (t.extract 0 x)
 have f2:=mR (t.extract x t.size)
 have f3:=mR t
 have c1:=vg t 0 x hs
 have c2:=vg t x t.size hs
 unfold StR at H1 H2 H3
 go_enter Tryz.func22,Tryz.ntmps22
 go_wp2_with (first
  | (have H':=H1;clear H1;go_at_call 21;refine (aa H' w ht).mono ?_;clear H';rintro y w1 ⟨g1,oG,rfl,B1,-⟩)
  | (have H':=H2;clear H2;go_at_call 21;refine (aa H' w1 (ak ht B1)).mono ?_;clear H';rintro y w2 ⟨g2,cap2,rfl,hb,-⟩;have B2:=ax B1 hb;clear hb)
  | (have H':=H3;clear H3;go_at_call 21;refine (aa H' w2 (ak ht B2)).mono ?_;clear H';rintro y w3 ⟨g3,f_,rfl,hb,-⟩;have B3:=ax B2 hb;clear hb))
 go_ret
 exact ⟨⟨_,rfl⟩,B3⟩
end Go.Proofs.YtfolanohokflkaaGreatDoor
namespace Go.Proofs.YtfolanohokflkaaGreatDoor
open Go.RowKit
theorem NP {Q:Ending->World->Prop} {a:Act} {w W:World} {e:Int} (h2:a.tmps.getD 4 undef=.pointer (some ⟨w.heap.size,0,none⟩)) (h3:a.tmps.getD 5 undef=.int .i64 e) (hd:a.defers=[]) (hat:Hid (aA W w.heap.size nd0)) (hb:Hid (Below w.heap.size w W))
  (hq:∀ W',Hid (Below w.heap.size w W')->Q (.returned (.tuple #[gD nd0,.int .i64 e])) W'):bodyPost Tryz.prog Tryz.f55 Q .ret a (bI W w.heap.size nd0).drew:=by
 have hn:aA (bI W w.heap.size nd0) w.heap.size nd0:=aA.set (aa hat)
 have b:=aa hb
 have hb':Below w.heap.size w (bI W w.heap.size nd0):=Below.setCell (Below.setCell (Below.setCell (Below.setCell (Below.setCell (Below.setCell (Below.setCell b (Nat.le_refl _) _) (Nat.le_refl _) _) (Nat.le_refl _) _) (Nat.le_refl _) _) (Nat.le_refl _) _) (Nat.le_refl _) _) (Nat.le_refl _) _
 clear hat hb b
 generalize bI W w.heap.size nd0=W' at *
 exact Fy (n:=nd0) h2 h3 hd hn (hq W'.drew hb'.drew)
set_option maxRecDepth 100000 in
set_option maxHeartbeats 4000000 in
theorem Sr {w:World} {s:ByteArray} {B e:Int} (he:e≠0) (Wm:Hid (Calls Tryz.prog 65 #[.string s] (w.alloc (aD nd0)) fun x w'=>∃ m p,x=.returned (.tuple #[gD m,.agg #[.int .i64 e,.int .i64 p]])/\Hid (Below (w.alloc (aD nd0)).heap.size (w.alloc (aD nd0)) w'))) :
  Calls Tryz.prog 55 #[.string s,.int .i64 B] w fun x w'=>x=.returned (.tuple #[gD nd0,.int .i64 e])/\Hid (Below w.heap.size w w'):=by
 have hat:=aA.new w nd0
 have HAT:=hide hat
 have hsz:w.heap.size<(w.alloc (aD nd0)).heap.size:=by simp
 have HA:Hid (Below w.heap.size w (w.alloc (aD nd0))):=(Below.refl _ _).alloc (Nat.le_refl _) _
 have he':(e==0)=false:=by simpa using he
 clear hat
 go_enter Tryz.func55,Tryz.ntmps55
 go_wp2_with (go_at_call 65;refine (aa Wm).mono ?_;clear Wm;rintro x w2 ⟨m,p,hx,HB2⟩;rw [gD] at hx;subst hx;have si:Hid (aA w2 w.heap.size nd0):=((aa HB2).block _ hsz).trans (aa HAT);have hs2:=(aa HB2).size;have HA3:=aA.alloc (aA.alloc si (aD m)) (iH e p))
 have HB3:Hid (Below w.heap.size w ((w2.alloc (aD m)).alloc (iH e p))):=by
  have b2:=(aa HA).trans ((aa HB2).mono (by omega))
  exact (b2.alloc b2.size _).alloc (by have:=b2.size;simp;omega) _
 have hG:=heap_alloc_new (w2.alloc (aD m)) (iH e p)
 have hq:(w2.alloc (aD m)).heap.size=w2.heap.size+1:=by simp
 rw [hq] at hG
 have hrq:w.heap.size<w2.heap.size+1:=by omega
 clear he' HAT HA hq
 generalize (w2.alloc (aD m)).alloc (iH e p)=W3 at *
 generalize hqq:w2.heap.size+1=q at *
 obtain ⟨r0,r1,r2,r3,r4,r5,r6⟩:=aA.cells (aa HA3)
 have rf:=aA.fz (aa HA3)
 obtain ⟨g0,g1,gf⟩:=jG hG
 generalize hr:w.heap.size=r at *
 have e1:r≠q:=by omega
 have e2:q≠r:=by omega
 go_region_held3 (fun w'=>w'.cell? ⟨q,0,none⟩=some (.int .i64 e)) (go_keep) (fail)
 go_wp2_with fail
 subst hr
 exact NP rfl rfl rfl HA3 HB3 fun W' h1=>⟨rfl,h1⟩
end Go.Proofs.YtfolanohokflkaaGreatDoor
