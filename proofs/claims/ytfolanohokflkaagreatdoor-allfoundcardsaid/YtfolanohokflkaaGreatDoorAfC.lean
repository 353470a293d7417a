import Derived.Test.YtfolanohokflkaaGreatDoorBlB
import Derived.Test.YtfolanohokflkaaGreatDoorEaB
import Derived.Defers
import Derived.Recover
import Derived.Deep.QuietTactic
import Derived.BigQuiet
import Derived.Test.YtfolanohokflkaaGreatDoorBlW
import Derived.Test.YtfolanohokflkaaGreatDoorDcA
namespace Go.Proofs.YtfolanohokflkaaGreatDoor
open Go.RowKit
open Tm (eps)
set_option maxRecDepth 100000 in
set_option maxHeartbeats 8000000 in
theorem Oh {w:World} {q:Pt} {s u:ByteArray} {k0 k1 k2 k3 k4 k5 ix:Nat} {m:Nd} {Bd:Int} {F:Nat->Prop} (hq:bG s=.ok q) (hB0:0<=Bd) (sN:u.size<=60) (h0:Hid (au w k0 m)) (h1:w.cell? ⟨k1,0,none⟩=some (.string u)) (h2:w.cell? ⟨k2,0,none⟩=some (.int .i64 Bd)) (h3:w.cell? ⟨k3,0,none⟩=some (.int .i64 (ix:Int))) (hix:ix<=(gu u).length)
  (h4:w.heap[k4]? = some (.cells #[.int .i64 0,.int .i64 0] 72)) (h5:w.heap[k5]? = some (.cells #[.bool false] 4)) (h45:k4≠k5) (hd:k3<k4/\k2<k3/\k1<k3/\k0<k3/\k4<k5) (He:gJ w F m q) :
  Calls Tryz.prog 42 #[.pointer (some ⟨k0,0,none⟩),.pointer (some ⟨k1,0,none⟩),.pointer (some ⟨k2,0,none⟩),.pointer (some ⟨k3,0,none⟩),.pointer (some ⟨k4,0,none⟩),.pointer (some ⟨k5,0,none⟩)] w fun e w'=>(e=vF 7 0/\Hid (Below w.heap.size w w')/\Hid (∃ Bs,Aq Bs Bd (vI (cZ q) (gu u) ix)))\/(e=.returned (.tuple #[])/\Hid (xB w w' k4 k5 (pV (cZ q) (gu u) ix))):=by
 obtain ⟨Bs,yR,hsp⟩:=sM hq
 have hu:(gu u).length<=60:=Nat.le_trans (tY u) sN
 have hg:=G6 u
 obtain ⟨hsum,hnz⟩:=yj hq hu
 have hcn:Cn (cZ q):=rH (wC hq)
 have hS:=GX hcn hnz (L:=gu u) hg hu
 obtain ⟨fr,hfr⟩:∃ fr,pV (cZ q) (gu u) ix=fr:=⟨_,rfl⟩
 obtain ⟨V0,hv0⟩:∃ V0:qQ,vI (cZ q) (gu u) ix=V0:=⟨_,rfl⟩
 rw [hfr,hv0]
 have HOF:=Dn yR hsp hq
 have hbd:Below w.heap.size w (w.drewN 1):=⟨rfl,rfl,rfl,Nat.le_refl _,fun _ _=>rfl⟩
 have HN:=hide (nW (w:=w.drewN 1) (m:=m) (u:=u) (B:=Bd) (Bs:=Bs) (R:=TrR q) sN (hide fun X t hb ht=>aa HOF (w.drewN 1) F m X t (He.move fun k hk _=>⟨(show (w.drewN 1).heap[k]? = w.heap[k]? from rfl),hk⟩) hb ht))
 have HS:Hid (∀ (e:Ending) (w1:World),yK Bs (w.drewN 1) Bd (gu u) (TrR q) e w1->∃ sb:Nat,e=.returned (.pointer (some ⟨sb,0,none⟩))/\Hid (Below w.heap.size w w1)/\Hid (Calls Tryz.prog 44 #[.pointer (some ⟨sb,0,none⟩),.int .i64 (ix:Int)] w1 fun e w'=>(e=vF 7 0/\Hid (Below w.heap.size w w')/\Hid (∃ Bs,Aq Bs Bd V0))\/(e=.returned (.tuple #[.agg #[.int .i64 (((fr.getD (0,0)).1:Nat):Int),.int .i64 (((fr.getD (0,0)).2:Nat):Int)],.bool fr.isSome])/\Hid (Below w.heap.size w w')))):=by
  rintro e w1 ⟨sb,mb,cb,cap,n,t,T,S,C,rfl,hs,ha,hr,hb⟩
  obtain ⟨r1,r2,r3⟩:=aa hr
  have hb1:Below w.heap.size w w1:=hbd.trans (aa hb)
  have hp:T.length+mD (uy (cZ q) (nN (gu u))) T (S.map (·.1)++[])<=fU:=by
   have:=Hd (uy (cZ q) (nN (gu u))) T (S.map (·.1)++[])
   show T.length+_<=1000000000000
   omega
  refine ⟨sb,rfl,hide hb1,hide ((QD (V:=fun _=>False) yR hS (hide ⟨t,T,S,C,[],hs,hide FE.ne,hide r1,hide hp,hide hB0⟩) ha hu (by omega) (fun k hk=>hg _ (by simp [List.getD,hk])) (fun b k hk=>aaT hk)).mono ?_)⟩
  rintro e w' (⟨he,hb',ho⟩ | ⟨he,hs'⟩)
  ·exact .inl ⟨he,hide (hb1.trans (aa hb')),hide ⟨Bs,(aa ho).mono fun y hy=>hv0▸hy.elim False.elim id⟩⟩
  ·rw [hfr] at he
   exact .inr ⟨he,hide (hb1.trans (aa hs').below)⟩
 obtain ⟨c0,c1,c2,c3,c4,c5,c6⟩:=au.cells (aa h0)
 have hl0:k0<w.heap.size:=(Array.getElem?_eq_some_iff.1 (aa h0)).1
 have hl1:=World.block_lt_of_cell? w _ h1
 have hl2:=World.block_lt_of_cell? w _ h2
 have hl3:=World.block_lt_of_cell? w _ h3
 have hl4:k4<w.heap.size:=(Array.getElem?_eq_some_iff.1 h4).1
 have hl5:k5<w.heap.size:=(Array.getElem?_eq_some_iff.1 h5).1
 have HL:Hid (k0<w.heap.size/\k1<w.heap.size/\k2<w.heap.size/\k3<w.heap.size/\k4<w.heap.size/\k5<w.heap.size):=⟨hl0,hl1,hl2,hl3,hl4,hl5⟩
 obtain ⟨d1,d2,d3,d4,d5⟩:=hd
 have n04:k0≠k4:=by omega
 have n40:k4≠k0:=by omega
 have n14:k1≠k4:=by omega
 have n41:k4≠k1:=by omega
 have n24:k2≠k4:=by omega
 have n42:k4≠k2:=by omega
 have n34:k3≠k4:=by omega
 have n43:k4≠k3:=by omega
 have n05:k0≠k5:=by omega
 have n50:k5≠k0:=by omega
 have n15:k1≠k5:=by omega
 have n51:k5≠k1:=by omega
 have n25:k2≠k5:=by omega
 have n52:k5≠k2:=by omega
 have n35:k3≠k5:=by omega
 have n53:k5≠k3:=by omega
 have n54:k5≠k4:=by omega
 clear d1 d2 d3 d4 d5
 have H0:=h0
 have H1:=hide h1
 have H2:=hide h2
 have H3:=hide h3
 have H4:=hide h4
 have H5:=hide h5
 clear HOF h0 hfr hv0 hsum hnz hcn hS hsp hq He hbd h4 h5 hl0 hl1 hl2 hl3 hl4 hl5
 simp only [gm] at HN
 clear hu hg
 generalize gu u=cs at *
 generalize u=sx at *
 go_enter Tryz.func42,Tryz.ntmps42
 go_region_held (fun w'=>w'.cell? ⟨k0,0,none⟩=some (.int .i64 m.sh)/\w'.cell? ⟨k0,1,none⟩=some (.slice m.pa m.pn m.pc)/\w'.cell? ⟨k0,2,none⟩=some (.string m.ss)/\w'.cell? ⟨k0,3,none⟩=some (.int .i64 m.le)/\w'.cell? ⟨k0,4,none⟩=some (.int .i64 m.mo)/\w'.cell? ⟨k0,5,none⟩=some (.int .i64 m.fa)/\w'.cell? ⟨k0,6,none⟩=some (.int .i64 m.sz)/\w'.cell? ⟨k1,0,none⟩=some (.string sx)/\w'.cell? ⟨k2,0,none⟩=some (.int .i64 Bd)/\w'.cell? ⟨k3,0,none⟩=some (.int .i64 (ix:Int))) (go_keep)
  (first
   | (go_at_call 43;refine (aa HN).mono ?_;clear HN;intro ex w1 hx;obtain ⟨sb,rfl,HB1,HT1⟩:=aa HS ex w1 hx;clear hx HS;obtain ⟨e0,e1,e2,e3,e4,e5,e6⟩:=au.cells (aa (au.under HB1 H0));obtain ⟨hl0,hl1,hl2,hl3,hl4,hl5⟩:=aa HL;have g1:=aC HB1 hl1 (aa H1);have g2:=aC HB1 hl2 (aa H2);have g3:=aC HB1 hl3 (aa H3);clear hl0 hl1 hl2 hl3 hl4 hl5)
   | (go_at_call 44;refine (aa HT1).mono ?_;clear HT1;rintro ex w2 (⟨rfl,HB2,jh⟩ | ⟨rfl,HB2⟩);(exact ⟨rfl,.inl ⟨rfl,HB2,jh⟩⟩);obtain ⟨f0,f1,f2,f3,f4,f5,f6⟩:=au.cells (aa (au.under HB2 H0));obtain ⟨hl0,hl1,hl2,hl3,hl4,hl5⟩:=aa HL;have l1:=aC HB2 hl1 (aa H1);have l2:=aC HB2 hl2 (aa H2);have l3:=aC HB2 hl3 (aa H3);have B4:=((aa HB2).block _ hl4).trans (aa H4);have B5:=((aa HB2).block _ hl5).trans (aa H5);obtain ⟨m0,m1,mf⟩:=jD B4;have n0:w2.cell? ⟨k5,0,none⟩=some (.bool false):=(by simp [World.cell?,B5]);have nf:w2.frozen? ⟨k5,0,none⟩=false:=(by simp [World.frozen?,B5]);clear hl0 hl1 hl2 hl3 hl4 hl5))
 go_end0
 exact .inr ⟨rfl,Z5 (aa HB2) m0 m1 n0 h45⟩
set_option maxRecDepth 100000 in
set_option maxHeartbeats 4000000 in
theorem Ec {w:World} {q:Pt} {s u:ByteArray} {k0 k1 k2 k3 k4 k5 ix:Nat} {m:Nd} {Bd:Int} {F:Nat->Prop} (hq:bG s=.ok q) (hB0:0<=Bd) (sN:u.size<=60) (h0:Hid (au w k0 m)) (h1:w.cell? ⟨k1,0,none⟩=some (.string u)) (h2:w.cell? ⟨k2,0,none⟩=some (.int .i64 Bd)) (h3:w.cell? ⟨k3,0,none⟩=some (.int .i64 (ix:Int))) (hix:ix<=(gu u).length)
  (h4:w.heap[k4]? = some (.cells #[.int .i64 0,.int .i64 0] 72)) (h5:w.heap[k5]? = some (.cells #[.bool false] 4)) (hd:k3<k4/\k2<k3/\k1<k3/\k0<k3/\k4<k5) (He:gJ w F m q) :
  Calls Tryz.prog 41 #[.func (.func 42) #[] #[.pointer (some ⟨k0,0,none⟩),.pointer (some ⟨k1,0,none⟩),.pointer (some ⟨k2,0,none⟩),.pointer (some ⟨k3,0,none⟩),.pointer (some ⟨k4,0,none⟩),.pointer (some ⟨k5,0,none⟩)]] w fun e w'=>(e=.returned (.agg #[.int .i64 7,.int .i64 0])/\Hid (Below w.heap.size w w')/\Hid (∃ Bs,Aq Bs Bd (vI (cZ q) (gu u) ix)))\/(e=.returned (.agg #[.int .i64 0,.int .i64 0])/\Hid (xB w w' k4 k5 (pV (cZ q) (gu u) ix))):=by
 have hmf:∀ (fn:Fn) (first cap:Array Value) (w:World),(Instr.makeFunc fn first cap).run Tryz.prog w=.ok (.func fn first cap) w:=fun _ _ _ _=>rfl
 have hl1:=World.block_lt_of_cell? w _ h1
 have hl2:=World.block_lt_of_cell? w _ h2
 have hl3:=World.block_lt_of_cell? w _ h3
 have hl4:k4<w.heap.size:=(Array.getElem?_eq_some_iff.1 h4).1
 have hl5:k5<w.heap.size:=(Array.getElem?_eq_some_iff.1 h5).1
 have hA:Below w.heap.size w (w.alloc (.cells #[.int .i64 0,.int .i64 0] 74)):=(Below.refl _ _).alloc (Nat.le_refl _) _
 have HA:Hid (Below w.heap.size w (w.alloc (.cells #[.int .i64 0,.int .i64 0] 74))):=hA
 have HW:=hide (Oh (w:=w.alloc (.cells #[.int .i64 0,.int .i64 0] 74)) hq hB0 sN (au.alloc h0 _) (aC HA hl1 h1) (aC HA hl2 h2) (aC HA hl3 h3) hix ((hA.block _ hl4).trans h4) ((hA.block _ hl5).trans h5) (by omega) hd (He.move fun k hk hl=>⟨hA.block k hl,hk⟩))
 generalize pV (cZ q) (gu u) ix=fr at HW ⊢
 generalize vI (cZ q) (gu u) ix=V0 at HW ⊢
 have hnew:w.heap.size<(w.alloc (.cells #[.int .i64 0,.int .i64 0] 74)).heap.size:=by simp
 have c0:=bz w [.int .i64 0,.int .i64 0] 74 0 _ rfl
 have c1:=bz w [.int .i64 0,.int .i64 0] 74 1 _ rfl
 have Tg:w.heap.size≠k4:=by omega
 have hne5:w.heap.size≠k5:=by omega
 have HN:=hide hnew
 have C0:=hide c0
 have C1:=hide c1
 clear h0 h1 h2 h3 h4 h5 hl1 hl2 hl3 hl4 hl5 hnew c0 c1 He hq hix hd hA
 go_enter_defers Tryz.func41,Tryz.ntmps41
 go_wp2_with (go_at_call 42;refine (aa HW).mono ?_;clear HW;rintro e w1 (⟨rfl,HB,HO⟩ | ⟨rfl,HU⟩);rotate_left;have q0:w1.cell? ⟨w.heap.size,0,none⟩=some (.int .i64 0):=(by rw [World.cell?_of_block (a:=⟨w.heap.size,0,none⟩) ((aa HU).block _ (aa HN) Tg hne5)];exact aa C0);have q1:w1.cell? ⟨w.heap.size,1,none⟩=some (.int .i64 0):=(by rw [World.cell?_of_block (a:=⟨w.heap.size,1,none⟩) ((aa HU).block _ (aa HN) Tg hne5)];exact aa C1);have z0:w1.frozen? ⟨w.heap.size,0,none⟩=false:=(by rw [World.frozen?_of_block (a:=⟨w.heap.size,0,none⟩) ((aa HU).block _ (aa HN) Tg hne5)];exact World.frozen?_alloc_at _ _ _ _ rfl);have z1:w1.frozen? ⟨w.heap.size,1,none⟩=false:=(by rw [World.frozen?_of_block (a:=⟨w.heap.size,1,none⟩) ((aa HU).block _ (aa HN) Tg hne5)];exact World.frozen?_alloc_at _ _ _ _ rfl);rotate_left)
 ·have hn:=aa HN
  have q0:w1.cell? ⟨w.heap.size,0,none⟩=some (.int .i64 0):=by rw [(aa HB).cell (p:=⟨w.heap.size,0,none⟩) hn];exact aa C0
  have q1:w1.cell? ⟨w.heap.size,1,none⟩=some (.int .i64 0):=by rw [(aa HB).cell (p:=⟨w.heap.size,1,none⟩) hn];exact aa C1
  have fz:∀ k,w1.frozen? ⟨w.heap.size,k,none⟩=false:=fun k=>by rw [(aa HB).frozen (p:=⟨w.heap.size,k,none⟩) hn];exact World.frozen?_alloc_at _ _ _ _ rfl
  have hl1:=World.block_lt_of_cell? w1 _ q0
  refine leaves_cons (f:=70) (args:=#[.pointer (some ⟨w.heap.size,0,none⟩)]) (by simp) (by simp [go_sem]) ?_
  refine (yJ w.heap.size 7 0 (.int .i64 0) (.int .i64 0) [] w1 q0 q1 fz).mono ?_
  rintro x u' w'' ⟨rfl,rfl,rfl⟩
  show Leaves _ _ _ _ [] .returning _
  refine ⟨.agg #[.int .i64 7,.int .i64 0],?_,.inl ⟨rfl,?_,HO⟩⟩
  ·simp [results,Tryz.results41,go_sem,q0,q1,hl1]
  ·exact xx (((((Up.below ((Below.refl _ _).alloc (Nat.le_refl _) _)).trans (Up.below (aa HB))).trans (Up.set _ _ _ _)).trans (Up.set _ _ _ _)).trans (Up.below ((Below.refl _ _).alloc (Nat.le_refl _) _)))
 ·have hl1:=World.block_lt_of_cell? w1 _ q0
  refine leaves_cons (f:=70) (args:=#[.pointer (some ⟨w.heap.size,0,none⟩)]) (by simp) (by simp [go_sem]) ?_
  refine (qC ⟨w.heap.size,0,none⟩ _).mono ?_
  rintro e u' w'' ⟨rfl,rfl,rfl⟩
  show Leaves _ _ _ _ [] .returning _
  refine ⟨.agg #[.int .i64 0,.int .i64 0],?_,.inr ⟨rfl,?_⟩⟩
  ·simp [results,Tryz.results41,go_sem,q0,q1]
  ·exact xB.mr (xB.mr ((aa HU).after (aa HA)) _ _ (Nat.le_refl _) (Ne.symm Tg) (Ne.symm hne5)) _ _ (Nat.le_refl _) (Ne.symm Tg) (Ne.symm hne5)
set_option maxRecDepth 100000 in
set_option maxHeartbeats 8000000 in
theorem XH {w:World} {p u:ByteArray} {z:Pn} {x:Nat} (hq:bG p=.ok z.1) (hs:p.size<=60) (sN:u.size<=60) (ht:Hid (Lib.Utf8Tabs 4 5 w)) (hR:Hid (jl p=.ok z)) (hz:¬ 60<z.2) (hfr:∀ b e,pV (cZ z.1) (gu u) (Hy u x)=some (b,e)->b<(pts u).length/\e<(pts u).length) :
  Calls Tryz.prog 25 #[.string p,.string u,.int .i64 (x:Int),.int .i64 200] w fun e w'=>((e=.returned (.tuple #[.int .i64 0,.int .i64 0,.int .i64 7])/\Hid (∃ Bs,Aq Bs 200 (vI (cZ z.1) (gu u) (Hy u x))))\/e=.returned (fdV u x (pV (cZ z.1) (gu u) (Hy u x))))/\Hid (Below w.heap.size w w'):=by
 have s1:(w.alloc (.cells #[.string u] 9)).heap.size=w.heap.size+1:=by simp
 obtain ⟨wb,hwb⟩:∃ wb,(w.alloc (.cells #[.string u] 9)).alloc (.cells #[.int .i64 200] 3)=wb:=⟨_,rfl⟩
 have Dq:Hid (Below w.heap.size w wb):=by
  rw [<-hwb]
  exact ((Below.refl _ _).alloc (Nat.le_refl _) _).alloc (by rw [s1];omega) _
 have htb:Hid (Lib.Utf8Tabs 4 5 wb):=jE ht Dq
 have b1:wb.cell? ⟨w.heap.size,0,none⟩=some (.string u):=by
  rw [<-hwb,World.cell?_alloc_past _ _ _ (by show w.heap.size<_;rw [s1];omega)]
  exact az rfl 0 rfl
 have b2:wb.cell? ⟨w.heap.size+1,0,none⟩=some (.int .i64 200):=by
  rw [<-hwb,<-s1]
  exact az rfl 0 rfl
 have Ns:=hide (qD (w:=wb) (u:=u) (B:=200) hs sN htb hR hz (by omega) (by omega))
 have HPL:=hide (fun W=>Du u W sN)
 have hmf:∀ (fn:Fn) (first cap:Array Value) (w:World),(Instr.makeFunc fn first cap).run Tryz.prog w=.ok (.func fn first cap) w:=fun _ _ _ _=>rfl
 have TD:Hid (∀ (w2:World) (m:Nd),Hid (Below wb.heap.size wb w2)->(w2.alloc (aB m)).cell? ⟨w.heap.size,0,none⟩=some (.string u)):=fun w2 m h2=>by
  have hl:=World.block_lt_of_cell? _ _ b1
  have h1:=aC h2 hl b1
  rw [World.cell?_alloc_past _ _ _ (World.block_lt_of_cell? _ _ h1)]
  exact h1
 by_cases hx:x∈pts u
 ·obtain ⟨hil,hie⟩:=N_ hx
  have hix:Hy u x<=(gu u).length:=by have:=lK u;omega
  have NG:Hid (∀ (W:World) (g cap B:Nat),Hid (W.ownsRow B 3 1 (.slice (some ⟨g,0,none⟩) (pts u).length cap) (pts u).length (ints (ay (pts u))))->Calls Tryz.prog 40 #[.slice (some ⟨g,0,none⟩) (pts u).length cap,.int .i64 (x:Int)] W fun e w'=>e=.returned (.tuple #[.int .i64 ((Hy u x:Nat):Int),.bool true])/\∃ q,w'=W.drewN q):=fun W g cap B ho=>by
   have h:=Dv (x:=x) sN ho
   rw [decide_eq_true hx] at h
   exact h
  generalize aeL:Hy u x=ix at *
  have HAF:Hid (∀ (w2 w4:World) (m:Nd),Hid (Below wb.heap.size wb w2)->Hid (aV w2 (fun k=>wb.heap.size<k) m z)->Hid (Below (w2.alloc (aB m)).heap.size (w2.alloc (aB m)) w4)->Calls Tryz.prog 41 #[.func (.func 42) #[] #[.pointer (some ⟨w2.heap.size,0,none⟩),.pointer (some ⟨w.heap.size,0,none⟩),.pointer (some ⟨w.heap.size+1,0,none⟩),.pointer (some ⟨w4.heap.size,0,none⟩),.pointer (some ⟨w4.heap.size+1,0,none⟩),.pointer (some ⟨w4.heap.size+1+1,0,none⟩)]] (((w4.alloc (.cells #[.int .i64 (ix:Int)] 3)).alloc (.cells #[.int .i64 0,.int .i64 0] 72)).alloc (.cells #[.bool false] 4)) fun e w'=>(e=.returned (.agg #[.int .i64 7,.int .i64 0])/\Hid (Below w4.heap.size w4 w')/\Hid (∃ Bs,Aq Bs 200 (vI (cZ z.1) (gu u) ix)))\/(e=.returned (.agg #[.int .i64 0,.int .i64 0])/\Hid (xB w4 w' (w4.heap.size+1) (w4.heap.size+1+1) (pV (cZ z.1) (gu u) ix)))):=by
   intro w2 w4 m hb hn hb4
   have t1:(w4.alloc (.cells #[.int .i64 (ix:Int)] 3)).heap.size=w4.heap.size+1:=by simp
   have t2:((w4.alloc (.cells #[.int .i64 (ix:Int)] 3)).alloc (.cells #[.int .i64 0,.int .i64 0] 72)).heap.size=w4.heap.size+1+1:=by simp
   have hq0:=Below.refl w4.heap.size w4
   have hA:Below w4.heap.size w4 (((w4.alloc (.cells #[.int .i64 (ix:Int)] 3)).alloc (.cells #[.int .i64 0,.int .i64 0] 72)).alloc (.cells #[.bool false] 4)):=((hq0.alloc (Nat.le_refl _) _).alloc (by rw [t1];omega) _).alloc (by rw [t2];omega) _
   have c3:(((w4.alloc (.cells #[.int .i64 (ix:Int)] 3)).alloc (.cells #[.int .i64 0,.int .i64 0] 72)).alloc (.cells #[.bool false] 4)).cell? ⟨w4.heap.size,0,none⟩=some (.int .i64 (ix:Int)):=by
    rw [World.cell?_alloc_past _ _ _ (by show w4.heap.size<_;rw [t2];omega),World.cell?_alloc_past _ _ _ (by show w4.heap.size<_;rw [t1];omega)]
    exact az rfl 0 rfl
   have c4:(((w4.alloc (.cells #[.int .i64 (ix:Int)] 3)).alloc (.cells #[.int .i64 0,.int .i64 0] 72)).alloc (.cells #[.bool false] 4)).heap[w4.heap.size+1]? = some (.cells #[.int .i64 0,.int .i64 0] 72):=by
    rw [Below.heap_alloc _ _ _ (by rw [t2];omega),<-t1]
    exact heap_alloc_new _ _
   have c5:(((w4.alloc (.cells #[.int .i64 (ix:Int)] 3)).alloc (.cells #[.int .i64 0,.int .i64 0] 72)).alloc (.cells #[.bool false] 4)).heap[w4.heap.size+1+1]? = some (.cells #[.bool false] 4):=by
    rw [<-t2]
    exact heap_alloc_new _ _
   generalize ((w4.alloc (.cells #[.int .i64 (ix:Int)] 3)).alloc (.cells #[.int .i64 0,.int .i64 0] 72)).alloc (.cells #[.bool false] 4)=A at *
   have t3:(w2.alloc (aB m)).heap.size=w2.heap.size+1:=by simp
   have LJ:Below w2.heap.size w2 w4:=((Below.refl _ _).alloc (Nat.le_refl _) _).trans ((aa hb4).mono (by rw [t3];omega))
   have h24:=LJ.size
   have ad7:Below w2.heap.size w2 A:=LJ.trans (hA.mono h24)
   have hbA:Below wb.heap.size wb A:=(aa hb).trans (ad7.mono (aa hb).size)
   have h4s:=(aa hb4).size
   have hn0:au A w2.heap.size m:=by
    have e1:=(aa hb4).block w2.heap.size (by rw [t3];omega)
    exact (hA.block _ (by rw [t3] at h4s;omega)).trans (e1.trans (au.new w2 m))
   have aeM:=World.block_lt_of_cell? _ _ b1
   have ad8:=World.block_lt_of_cell? _ _ b2
   have hw2:=(aa hb).size
   refine (Ec (w:=A) (k0:=w2.heap.size) (k1:=w.heap.size) (k2:=w.heap.size+1) (k3:=w4.heap.size) (k4:=w4.heap.size+1) (k5:=w4.heap.size+1+1) (m:=m) (Bd:=200) hq (by omega) sN (hide hn0) (aC (hide hbA) aeM b1) (aC (hide hbA) ad8 b2) c3 hix c4 c5 ?_ ((aa hn).2.move fun k hk hl=>⟨ad7.block k hl,hk⟩)).mono ?_
   ·have q1:w.heap.size+1<wb.heap.size:=ad8
    rw [t3] at h4s
    refine ⟨by omega,by omega,by omega,by omega,by omega⟩
   ·rintro e w' (⟨he,hu,ho⟩ | ⟨he,hu⟩)
    ·exact .inl ⟨he,hide (hA.trans ((aa hu).mono hA.size)),ho⟩
    ·exact .inr ⟨he,hide ((aa hu).after hA)⟩
  have Y6:Hid (∀ b e,pV (cZ z.1) (gu u) ix=some (b,e)->b<(pts u).length/\e<(pts u).length):=hfr
  have HXP:=hide hx
  generalize pV (cZ z.1) (gu u) ix=fr at *
  generalize vI (cZ z.1) (gu u) ix=V0 at *
  have hpf:=qH u
  clear ht htb hR hz hs b1 b2 s1 hq hfr hil hie hix aeL hx
  have HRW:Hid (∀ (W4 W6:World) (B g cap n0:Nat) (o:Option (Nat×Nat)),Hid (W4.ownsRow B 3 1 (.slice (some ⟨g,0,none⟩) (pts u).length cap) (pts u).length (ints (ay (pts u))))->Hid (xB W4 W6 (W4.heap.size+1) (W4.heap.size+1+1) o)->∀ j,j<(pts u).length->W6.cell? ⟨g,j,none⟩=some (.int .i64 (((pts u).getD j 0:Nat):Int))):=fun W4 W6 B g cap n0 o ho hu j hj=>by
   have h1:=nX (aa ho) hj
   have hl:g<W4.heap.size:=World.block_lt_of_cell? _ _ h1
   rw [World.cell?_of_block (a:=⟨g,j,none⟩) ((aa hu).block g hl (by omega) (by omega)),h1]
   simp [List.getD,hj]
  have TA:Hid (∀ (w2 W4 W6:World) (m:Nd) (o:Option (Nat×Nat)),Hid (Below wb.heap.size wb w2)->Hid (Below (w2.alloc (aB m)).heap.size (w2.alloc (aB m)) W4)->Hid (xB W4 W6 (W4.heap.size+1) (W4.heap.size+1+1) o)->Below w.heap.size w W6):=fun w2 W4 W6 m o h2 h4 h6=>by
   have t3:(w2.alloc (aB m)).heap.size=w2.heap.size+1:=by simp
   have LJ:Below w2.heap.size w2 W4:=((Below.refl _ _).alloc (Nat.le_refl _) _).trans ((aa h4).mono (by rw [t3];omega))
   have hbw:Below w.heap.size w W4:=(aa Dq).trans (((aa h2).trans (LJ.mono (aa h2).size)).mono (aa Dq).size)
   have g:=aa h6
   have q:=hbw.size
   exact ⟨g.os.trans hbw.os,g.tape.trans hbw.tape,g.output.trans hbw.output,Nat.le_trans q g.size,fun k hk=>(g.block k (by omega) (by omega) (by omega)).trans (hbw.block k hk)⟩
  have HFE:Hid (∀ (w2 W4 W6:World) (m:Nd),Hid (Below wb.heap.size wb w2)->Hid (Below (w2.alloc (aB m)).heap.size (w2.alloc (aB m)) W4)->Hid (Below W4.heap.size W4 W6)->Below w.heap.size w W6):=fun w2 W4 W6 m h2 h4 h6=>by
   have t3:(w2.alloc (aB m)).heap.size=w2.heap.size+1:=by simp
   have LJ:Below w2.heap.size w2 W4:=((Below.refl _ _).alloc (Nat.le_refl _) _).trans ((aa h4).mono (by rw [t3];omega))
   have hbw:Below w.heap.size w W4:=(aa Dq).trans (((aa h2).trans (LJ.mono (aa h2).size)).mono (aa Dq).size)
   exact hbw.trans ((aa h6).mono hbw.size)
  clear Dq sN
  subst hwb
  obtain ⟨b,e,hbe⟩:∃ b e,fr.getD (0,0)=(b,e):=⟨_,_,rfl⟩
  obtain ⟨hbl,hel⟩:b<(pts u).length/\e<(pts u).length:=by
   cases fr with
   | none=>cases hbe;exact ⟨oG u,oG u⟩
   | some be=>cases hbe;exact aa Y6 _ _ rfl
  have hbI:(b:Int)<((pts u).length:Int):=by omega
  have heI:(e:Int)<((pts u).length:Int):=by omega
  have hb0:(0:Int)<=(b:Int):=by omega
  have he0:(0:Int)<=(e:Int):=by omega
  obtain ⟨xb,hxb⟩:∃ xb,(pts u).getD b 0=xb:=⟨_,rfl⟩
  obtain ⟨xe,hxe⟩:∃ xe,(pts u).getD e 0=xe:=⟨_,rfl⟩
  obtain ⟨fs,hfs⟩:∃ fs,fr.isSome=fs:=⟨_,rfl⟩
  have HV:Hid (fdV u x fr=if fs=true then .tuple #[.int .i64 (xb:Int),.int .i64 (xe:Int),.int .i64 0] else .tuple #[.int .i64 (-1),.int .i64 (-1),.int .i64 0]):=by
   subst hfs hxb hxe
   unfold fdV
   rw [if_pos (aa HXP)]
   cases fr with
   | none=>rfl
   | some be=>cases hbe;rfl
  rw [aa HV]
  have HXB:=hide hxb
  have HXE:=hide hxe
  have GZ:=hide hbe
  have HFS:=hide hfs
  clear hxb hxe hbe hfs HV Y6
  cases fs
  all_goals
   simp only [Bool.false_eq_true,if_false,if_true]
   go_enter Tryz.func25,Tryz.ntmps25
   go_wp2_with (first
    | (go_at_call 38;refine (aa Ns).mono ?_;clear Ns;simp only [gm];rintro ex w2 ⟨m,rfl,HB2,iy⟩;have tx2:=aa TD w2 m HB2;clear TD)
    | (go_at_call 39;refine (aa HPL _).mono ?_;clear HPL;rintro ex w4 ⟨g,cap,rfl,qh,z8⟩)
    | (go_at_call 40;refine (aa NG w4 g cap _ z8).mono ?_;clear NG;rintro ex w5 ⟨rfl,qd,hw5⟩;have kz:Hid (Below (w2.alloc (aB m)).heap.size (w2.alloc (aB m)) w5):=(by rw [hw5];exact ⟨(aa qh).os,(aa qh).tape,(aa qh).output,(aa qh).size,(aa qh).block⟩);have oM:Hid (w5.ownsRow (w2.alloc (aB m)).heap.size 3 1 (.slice (some ⟨g,0,none⟩) (pts u).length cap) (pts u).length (ints (ay (pts u)))):=(by rw [hw5];exact z8);clear hw5)
    | (go_at_call 41;refine (aa HAF w2 w5 m HB2 iy kz).mono ?_;clear HAF;rintro ex w6 (⟨rfl,Dz,Mg⟩ | ⟨rfl,HU6⟩);rotate_left;have p0:=(aa HU6).c0;have p1:=(aa HU6).c1;have p2:=(aa HU6).c2;rw [aa GZ] at p0 p1;rw [aa HFS] at p2;have hl0:=World.block_lt_of_cell? _ _ p0;have hl2:=World.block_lt_of_cell? _ _ p2;have r0:=aa HRW w5 w6 _ g cap 0 _ oM HU6 b hbl;have r1:=aa HRW w5 w6 _ g cap 0 _ oM HU6 e hel;rw [aa HXB] at r0;rw [aa HXE] at r1;have hl3:=World.block_lt_of_cell? _ _ r0;rotate_left))
   ·have HW7:Hid (Below w.heap.size w (w6.alloc (.cells #[.int .i64 7,.int .i64 0] 74))):=by
     have hb6:=aa HFE w2 w5 w6 m HB2 kz Dz
     exact hb6.alloc hb6.size _
    have e0:(w6.alloc (.cells #[.int .i64 7,.int .i64 0] 74)).cell? ⟨w6.heap.size,0,none⟩=some (.int .i64 7):=az rfl 0 rfl
    generalize w6.alloc (.cells #[.int .i64 7,.int .i64 0] 74)=W7 at *
    go_quiet (fail)
    go_wp2_with fail
    go_ret3
    have h:=aa HW7
    exact ⟨.inl ⟨rfl,Mg⟩,⟨h.os,h.tape,h.output,h.size,h.block⟩⟩
   ·first
    | (go_ret3;have hb6:=aa TA w2 w5 w6 m _ HB2 kz HU6;exact ⟨.inr rfl,hb6.alloc hb6.size _⟩)
    | skip
    all_goals
     have HW7:Hid (Below w.heap.size w (w6.alloc (.cells #[.int .i64 0,.int .i64 0] 74))):=by
      have hb6:=aa TA w2 w5 w6 m _ HB2 kz HU6
      exact hb6.alloc hb6.size _
     have p0':(w6.alloc (.cells #[.int .i64 0,.int .i64 0] 74)).cell? ⟨w5.heap.size+1,0,none⟩=some (.int .i64 (b:Int)):=by rw [World.cell?_alloc_past _ _ _ hl0];exact p0
     have p1':(w6.alloc (.cells #[.int .i64 0,.int .i64 0] 74)).cell? ⟨w5.heap.size+1,1,none⟩=some (.int .i64 (e:Int)):=by rw [World.cell?_alloc_past _ _ _ hl0];exact p1
     have r0':(w6.alloc (.cells #[.int .i64 0,.int .i64 0] 74)).cell? ⟨g,b,none⟩=some (.int .i64 (xb:Int)):=by rw [World.cell?_alloc_past _ _ _ hl3];exact r0
     have r1':(w6.alloc (.cells #[.int .i64 0,.int .i64 0] 74)).cell? ⟨g,e,none⟩=some (.int .i64 (xe:Int)):=by rw [World.cell?_alloc_past _ _ _ hl3];exact r1
     clear p0 p1 p2 r0 r1 hl0 hl2 hl3 HU6
     generalize w6.alloc (.cells #[.int .i64 0,.int .i64 0] 74)=W7 at *
     go_quiet (fail)
     go_wp2_with fail
     go_ret3
     have h:=aa HW7
     exact ⟨.inr rfl,⟨h.os,h.tape,h.output,h.size,h.block⟩⟩
 ·have NG:Hid (∀ (W:World) (g cap B:Nat),Hid (W.ownsRow B 3 1 (.slice (some ⟨g,0,none⟩) (pts u).length cap) (pts u).length (ints (ay (pts u))))->Calls Tryz.prog 40 #[.slice (some ⟨g,0,none⟩) (pts u).length cap,.int .i64 (x:Int)] W fun e w'=>e=.returned (.tuple #[.int .i64 ((Hy u x:Nat):Int),.bool false])/\∃ q,w'=W.drewN q):=fun W g cap B ho=>by
   have h:=Dv (x:=x) sN ho
   rw [decide_eq_false hx] at h
   exact h
  unfold fdV
  rw [if_neg hx]
  generalize Hy u x=ix at *
  have TA:Hid (∀ (w2 W4:World) (m:Nd),Hid (Below wb.heap.size wb w2)->Hid (Below (w2.alloc (aB m)).heap.size (w2.alloc (aB m)) W4)->Below w.heap.size w W4):=fun w2 W4 m h2 h4=>by
   have t3:(w2.alloc (aB m)).heap.size=w2.heap.size+1:=by simp
   have LJ:Below w2.heap.size w2 W4:=((Below.refl _ _).alloc (Nat.le_refl _) _).trans ((aa h4).mono (by rw [t3];omega))
   exact (aa Dq).trans (((aa h2).trans (LJ.mono (aa h2).size)).mono (aa Dq).size)
  have hpf:=qH u
  clear ht htb hR hz hs b1 b2 s1 hq hfr hx Dq sN
  subst hwb
  go_enter Tryz.func25,Tryz.ntmps25
  go_wp2_with (first
   | (go_at_call 38;refine (aa Ns).mono ?_;clear Ns;simp only [gm];rintro ex w2 ⟨m,rfl,HB2,iy⟩;have tx2:=aa TD w2 m HB2;clear TD)
   | (go_at_call 39;refine (aa HPL _).mono ?_;clear HPL;rintro ex w4 ⟨g,cap,rfl,qh,z8⟩)
   | (go_at_call 40;refine (aa NG w4 g cap _ z8).mono ?_;clear NG;rintro ex w5 ⟨rfl,qd,hw5⟩;have kz:Hid (Below (w2.alloc (aB m)).heap.size (w2.alloc (aB m)) w5):=(by rw [hw5];exact ⟨(aa qh).os,(aa qh).tape,(aa qh).output,(aa qh).size,(aa qh).block⟩);clear hw5))
  go_ret3
  have hb5:=aa TA w2 w5 m HB2 kz
  exact ⟨.inr rfl,hb5.alloc hb5.size _⟩
theorem LK {q:Tm} {L:List Int}:∀ (f b:Nat) (y:Tm),frV q L f b y->∃ v,y=aI q v
 | 0,_,_,h=>False.elim h
 | f+1,b,y,h=>by
  rcases h with ⟨j,_,h⟩ | h
  ·exact ⟨_,h⟩
  ·exact LK f (b+1) y h.2
theorem acK {Bs:List Int} {Bd:Int} {q:Tm} {L:List Int} {b:Nat} (h:Aq Bs Bd (vI q L b)):Ovr Bs Bd q:=by
 obtain ⟨T,M,h1,h2,h3,h4⟩:=h
 refine ⟨T,M,h1,h2,h3,fun n hn=>?_⟩
 obtain ⟨y,a,b⟩:=h4 n hn
 obtain ⟨v,rfl⟩:=LK _ _ _ a
 exact ⟨v,b⟩
theorem aau {t:ByteArray} (hs:t.size<=60):aaU t:=by
 intro W i ht hi
 have hq:bG ⟨#[40,41]⟩=.ok (fI []).1:=Lr
 have e:cZ (fI []).1=eps:=rfl
 have h:=XH (w:=W) (p:=⟨#[40,41]⟩) (u:=t) (z:=fI []) (x:=i) hq (by decide) hs ht (hide Oa) (by decide) (by
  intro b c hbc
  rw [e] at hbc
  by_cases hle:Hy t i<=(gu t).length
  ·rw [Xn hle] at hbc
   cases hbc
   rw [lK]
   omega
  ·rw [Am hle] at hbc
   cases hbc)
 refine h.mono ?_
 rintro x w' ⟨hx,hb⟩
 refine ⟨?_,hb⟩
 rcases hx with ⟨_,ho⟩ | hx
 ·obtain ⟨Bs,ho⟩:=aa ho
  exact absurd (acK ho) (by rw [e];exact aaf Bs)
 rw [hx,e]
 unfold fdV
 by_cases hm:i∈pts t
 ·obtain ⟨hl,he⟩:=N_ hm
  have hle:Hy t i<=(gu t).length:=by rw [lK] at hl;omega
  rw [if_pos hm,Xn hle]
  have eg:(pts t).getD (Hy t i) 0=i:=by
   have:(pts t).getD (Hy t i) 0=(pts t)[Hy t i]:=by simp [List.getD,hl]
   rw [this,he]
  simp only [eg,if_pos hm]
 ·rw [if_neg hm]
  simp only [if_neg hm]
end Go.Proofs.YtfolanohokflkaaGreatDoor
namespace Go.Proofs.YtfolanohokflkaaGreatDoor
open Go.RowKit
def LM (c:Int) (n:Nat):Nat:=((if c<0 then -(c+1) else c) % (n:Int)).toNat
theorem Ti (c:Int) {n:Nat} (h:0<n):((LM c n:Nat):Int)=(if c<0 then -(c+1) else c) % (n:Int):=by
 unfold LM
 have h2:=Int.emod_nonneg (if c<0 then -(c+1) else c) (show (n:Int)≠0 by omega)
 omega
set_option maxRecDepth 100000 in
set_option maxHeartbeats 4000000 in
theorem XI {w:World} {c:Int} {n:Nat} (hc0:-9223372036854775808<=c) (hc1:c<=9223372036854775807) (hn:0<n) (hn1:n<=1000) :
  Calls Tryz.prog 24 #[.int .i64 c,.int .i64 (n:Int)] w fun x w'=>x=.returned (.int .i64 ((LM c n:Nat):Int))/\w'=w:=by
 rw [Ti c hn]
 have hz:((n:Int)==0)=false:=by simp;omega
 by_cases h:c<0
 ·rw [if_pos h]
  go_enter Tryz.func24,Tryz.ntmps24
  go_wp2_with fail
  go_ret
  refine ⟨?_,rfl⟩
  have e:-((c+1).tmod (n:Int))=-(c+1) % (n:Int):=by rw [<-Int.neg_tmod,Int.tmod_eq_emod_of_nonneg (by omega)]
  exact congrArg (fun v=>Ending.returned (.int .i64 v)) e
 ·rw [if_neg h]
  go_enter Tryz.func24,Tryz.ntmps24
  go_wp2_with fail
  go_ret
  exact ⟨rfl,rfl⟩
theorem LQ {t:ByteArray} {i j:Nat} (hij:i<j) (hj:j<(pts t).length):pt t i<pt t j:=by
 have h:=Hg t
 rw [List.pairwise_iff_getElem] at h
 have:=h i j (by omega) hj hij
 rw [vD (by omega),vD hj] at this
 exact this
theorem aaV {t:ByteArray} {k:Nat} (h:k<(pts t).length):pt t k∈pts t:=by
 rw [<-vD h]
 exact List.getElem_mem h
theorem ad9 {t:ByteArray} {k:Nat} (h:k<(pts t).length):Hy t (pt t k)=k:=by
 obtain ⟨hl,he⟩:=N_ (aaV h)
 rw [vD hl] at he
 rcases Nat.lt_trichotomy (Hy t (pt t k)) k with q | q | q
 ·have:=LQ q h;omega
 ·exact q
 ·have:=LQ q hl;omega
section
variable {P:Pt} {t:ByteArray} {k:Nat}
end
def fnW (A:List Nat):Option (Nat×Nat)->Value
 | none=>.tuple #[.int .i64 (-1),.int .i64 (-1),.int .i64 0]
 | some (b,e)=>.tuple #[.int .i64 ((A.getD b 0:Nat):Int),.int .i64 ((A.getD e 0:Nat):Int),.int .i64 0]
def QF (A:List Nat) (c:Nat):Int:=if c<A.length then ((A.getD c 0:Nat):Int) else -1
structure AfK (T:List (Nat×Nat)->ByteArray) (D:Nat->ByteArray) (A:List Nat) (d:List (Nat×Nat)) (b e:Nat) (U1 U2 U3 U4:ByteArray):Prop where
 e4:T (d++[(b,e)])=U4
 n0:d≠[]->(T d).toList.isEmpty=false
 k0:d≠[]->∀ W:World,(Op.stringOp .add (T d) ⟨#[44]⟩).run Tryz.prog W=.ok (.string U1) W
 k1:d=[]->U1=⟨#[]⟩/\T d=⟨#[]⟩
 k2:∀ W:World,(Op.stringOp .add U1 (D (A.getD b 0))).run Tryz.prog W=.ok (.string U2) W
 k3:∀ W:World,(Op.stringOp .add U2 ⟨#[45]⟩).run Tryz.prog W=.ok (.string U3) W
 k4:∀ W:World,(Op.stringOp .add U3 (D (A.getD e 0))).run Tryz.prog W=.ok (.string U4) W
structure AfR (I:List (Nat×Nat)->Nat->Prop) (A:List Nat) (d:List (Nat×Nat)) (b e:Nat):Prop where
 bl:b<A.length
 el:e<A.length
 be:b<=e
 sb:A.getD b 0<100
 se:A.getD e 0<100
 nx:I (d++[(b,e)]) (max (b+1) e)
 ne:b<e->A.getD b 0≠A.getD e 0
structure AfH (w:World) (p t u:ByteArray) (A:List Nat) (X:ByteArray) (N:Prop) (I:List (Nat×Nat)->Nat->Prop) (T:List (Nat×Nat)->ByteArray) (D:Nat->ByteArray) (R:World->Nat->Nat->Prop):Prop where
 len:A.length<=100
 aw:Calls Tryz.prog 16 #[] w fun x w'=>x=.returned (.bool true)/\Hid (Below w.heap.size w w')
 ri:∀ W:World,Hid (Below w.heap.size w W)->Calls Tryz.prog 17 #[.string p] W fun x w'=>x=.returned (.bool true)/\Hid (Below W.heap.size W w')
 cu:∀ W:World,Calls Tryz.prog 18 #[.string t,.int .i64 30] W fun x w'=>x=.returned (.string u)/\w'=W
 st:∀ W:World,Hid (Below w.heap.size w W)->Calls Tryz.prog 21 #[.string u] W fun x w'=>∃ g cap,x=.returned (.tuple #[.slice (some ⟨g,0,none⟩) A.length cap,.bool true])/\Hid (Below W.heap.size W w')/\Hid (R w' g cap)
 rw:∀ (W W':World) (g cap:Nat),Hid (R W g cap)->Hid (Below W.heap.size W W')->∀ b,b<A.length->Calls Tryz.prog 28 #[.slice (some ⟨g,0,none⟩) A.length cap,.int .i64 ((A.getD b 0:Nat):Int)] W' fun e w'=>e=.returned (.int .i64 (QF A (b+1)))/\w'=W'
 fa:∀ W:World,Hid (Below w.heap.size w W)->Calls Tryz.prog 26 #[.string p,.string u,.int .i64 200] W fun e w'=>(e=.returned (.tuple #[.string ⟨#[]⟩,.int .i64 7])\/(e=.returned (.tuple #[.string X,.int .i64 0])/\Hid N))/\Hid (Below W.heap.size W w')
 i0:I [] 0
 t0:T []=⟨#[]⟩
 a0:QF A 0=0
 ic:∀ d c,I d c->c<=A.length/\d.length<=c
 ie:∀ d c,I d c->¬ c<A.length->T d=X
 fi:∀ (W:World) (d:List (Nat×Nat)) (c:Nat),Hid N->Hid (I d c)->Hid (Below w.heap.size w W)->c<A.length->∃ fr,Hid (fr=none->T d=X)/\Hid (∀ b e,fr=some (b,e)->AfR I A d b e/\∃ U1 U2 U3 U4,AfK T D A d b e U1 U2 U3 U4)/\Hid (Calls Tryz.prog 25 #[.string p,.string u,.int .i64 ((A.getD c 0:Nat):Int),.int .i64 200] W fun x w'=>x=.returned (fnW A fr)/\Hid (Below W.heap.size W w'))
 pk:∀ x,x<100->∀ W:World,Calls Tryz.prog 24 #[.int .i64 ((x:Nat):Int),.int .i64 1000] W fun e w'=>e=.returned (.int .i64 (x:Int))/\w'=W
 dc:∀ x,x<100->∀ W:World,Calls Tryz.prog 27 #[.int .i64 ((x:Nat):Int)] W fun e w'=>e=.returned (.string (D x))/\w'=W
set_option maxRecDepth 100000 in
set_option maxHeartbeats 40000000 in
theorem Tj {w:World} {p t u:ByteArray} {A:List Nat} {X:ByteArray} {N:Prop} {I:List (Nat×Nat)->Nat->Prop} {T:List (Nat×Nat)->ByteArray} {D:Nat->ByteArray} {R:World->Nat->Nat->Prop} (H:Hid (AfH w p t u A X N I T D R)) :
  Calls Tryz.prog 9 #[.string p,.string t] w fun e w'=>e=.returned (.bool true)/\Hid (Below w.heap.size w w'):=by
 have hA:=(aa H).len
 go_enter Tryz.func9,Tryz.ntmps9
 go_wp2_with (first
  | (go_at_call 16;refine (aa H).aw.mono ?_;rintro x w1 ⟨rfl,B1⟩)
  | (go_at_call 17;refine ((aa H).ri w1 B1).mono ?_;rintro x w2 ⟨rfl,hb2⟩;have B2:=jF B1 hb2;clear hb2)
  | (go_at_call 18;refine ((aa H).cu w2).mono ?_;rintro x w3 ⟨rfl,rfl⟩)
  | (go_at_call 21;refine ((aa H).st _ B2).mono ?_;rintro x w5 ⟨g,cap,rfl,hb5,oM⟩;have B5:=jF B2 hb5;clear hb5)
  | (go_at_call 26;refine ((aa H).fa _ B5).mono ?_;rintro x w6 ⟨hx,hb6⟩;have B6:=jF B5 hb6;rcases hx with rfl | ⟨rfl,HNO⟩))
 ·go_ret
  exact ⟨rfl,B6⟩
 ·go_loopw [12,13,14] (fun s a r wr=>∃ (d:List (Nat×Nat)) (c:Nat),s=.string (T d)/\a=.int .i64 (QF A c)/\r=.int .i64 (d.length:Int)/\Hid (I d c)/\Hid (Below w6.heap.size w6 wr)) (fun _ _ r _=>1000 - (intOf r).toNat)
  case atStart=>exact ⟨[],0,by rw [(aa H).t0],by rw [(aa H).a0],rfl,hide (aa H).i0,hide (Below.refl _ _)⟩
  case round=>
   obtain ⟨d,c,rfl,rfl,rfl,HI,HB⟩:=hrel
   obtain ⟨afd,hdl⟩:=(aa H).ic d c (aa HI)
   have hdI:(d.length:Int)<=2*(A.length:Int):=by omega
   have BR:=jF B6 HB
   by_cases hc:c<A.length
   ·rw [show QF A c=((A.getD c 0:Nat):Int) from by unfold QF;rw [if_pos hc]]
    obtain ⟨fr,TA,HFS,DZ⟩:=(aa H).fi wr d c HNO HI BR hc
    cases fr with
    | none=>
     have HE:Hid (T d=X):=aa TA rfl
     clear TA HFS HI
     simp only [fnW] at DZ
     generalize T d=U0 at *
     obtain rfl:U0=X:=HE
     generalize A.getD c 0=xc at *
     go_wp2_with (go_at_call 25;refine (aa DZ).mono ?_;clear DZ;rintro x w7 ⟨rfl,LU⟩;have B7:=jF BR LU;clear LU)
     go_ret
     exact ⟨rfl,B7⟩
    | some be=>
     obtain ⟨b,e⟩:=be
     obtain ⟨⟨hbl,hel,hbe,hsb,hse,hnx,hnq⟩,U1,U2,U3,U4,⟨e4,n0,k0,k1,k2,k3,k4⟩⟩:=aa HFS b e rfl
     have HPA:=hide ((aa H).pk (A.getD b 0) hsb)
     have HPB:=hide ((aa H).pk (A.getD e 0) hse)
     have HDA:=hide ((aa H).dc (A.getD b 0) hsb)
     have HDB:=hide ((aa H).dc (A.getD e 0) hse)
     have HBH:Hid (∀ W,Hid (Below w6.heap.size w6 W)->Calls Tryz.prog 28 #[.slice (some ⟨g,0,none⟩) A.length cap,.int .i64 ((A.getD b 0:Nat):Int)] W fun e w'=>e=.returned (.int .i64 (QF A (b+1)))/\w'=W):=fun W hW=>(aa H).rw w5 W g cap oM (jF hb6 hW) b hbl
     have hd0:d=[]\/d≠[]:=by cases d<;>simp
     have hlt:b=e\/b<e:=by omega
     have HFI:Hid (∀ w8,Hid (Below w6.heap.size w6 w8)->∀ a',(b=e->a'=QF A (b+1))->(b<e->a'=((A.getD e 0:Nat):Int))->(∃ d_1 c,Value.string U4=Value.string (T d_1)/\Value.int .i64 a'=Value.int .i64 (QF A c)/\Value.int .i64 (d.length+1)=Value.int .i64 d_1.length/\Hid (I d_1 c)/\Hid (Below w6.heap.size w6 w8))/\1000 - (intOf (Value.int .i64 (d.length+1))).toNat<1000 - (intOf (Value.int .i64 d.length)).toNat):=fun w8 hb8 a' h1 h2=>by
      refine ⟨⟨d++[(b,e)],max (b+1) e,by rw [e4],?_,by rw [List.length_append];rfl,hide hnx,hb8⟩,by simp [intOf];omega⟩
      rcases hlt with q | q
      ·rw [h1 q,show max (b+1) e=b+1 from by omega]
      ·rw [h2 q,show max (b+1) e=e from by omega]
       unfold QF
       rw [if_pos hel]
     clear TA HFS HI hnx e4
     simp only [fnW] at DZ
     generalize T d=U0 at *
     generalize D (A.getD b 0)=Da at *
     generalize D (A.getD e 0)=De at *
     generalize QF A (b+1)=ab at *
     generalize A.getD c 0=xc at *
     have h4:(b=e/\A.getD b 0=A.getD e 0)\/(b<e/\¬ ((A.getD b 0:Nat):Int)=((A.getD e 0:Nat):Int)):=hlt.imp (fun q=>⟨q,by rw [q]⟩) fun q=>⟨q,by have:=hnq q;omega⟩
     generalize A.getD b 0=xb at *
     generalize A.getD e 0=xe at *
     clear hlt
     rcases h4 with ⟨hlt,hx⟩ | ⟨hlt,hx⟩
     subst hx
     replace HFI:Hid (∀ w8,Hid (Below w6.heap.size w6 w8)->_):=fun w8 hb8=>aa HFI w8 hb8 ab (fun _=>rfl) (fun q=>absurd hlt (Nat.ne_of_lt q))
     rotate_left
     replace HFI:Hid (∀ w8,Hid (Below w6.heap.size w6 w8)->_):=fun w8 hb8=>aa HFI w8 hb8 _ (fun q=>absurd q (Nat.ne_of_lt hlt)) (fun _=>rfl)
     all_goals
      clear hlt hbe hel hbl hsb hse hnq
      rcases hd0 with hd0 | hd0
      obtain ⟨rfl,rfl⟩:=k1 hd0
      rotate_left
      have k0':=k0 hd0
      have n0':=n0 hd0
     all_goals
      clear k0 k1 n0 hd0
      go_wp2_with (first
       | (go_at_call 25;refine (aa DZ).mono ?_;clear DZ;rintro x w7 ⟨rfl,LU⟩;have B7:=jF HB LU;clear LU)
       | (have H':=HPA;clear HPA;go_at_call 24;refine (aa H' _).mono ?_;clear H';rintro x w8 ⟨rfl,rfl⟩)
       | (have H':=HDA;clear HDA;go_at_call 27;refine (aa H' _).mono ?_;clear H';rintro x w8 ⟨rfl,rfl⟩)
       | (have H':=HPB;clear HPB;go_at_call 24;refine (aa H' _).mono ?_;clear H';rintro x w8 ⟨rfl,rfl⟩)
       | (have H':=HDB;clear HDB;go_at_call 27;refine (aa H' _).mono ?_;clear H';rintro x w8 ⟨rfl,rfl⟩)
       | (go_at_call 28;refine (aa HBH _ B7).mono ?_;clear HBH;rintro x w8 ⟨rfl,rfl⟩))
      exact aa HFI _ B7
   ·rw [show QF A c=-1 from by unfold QF;rw [if_neg hc]]
    have HE:Hid (T d=X):=(aa H).ie d c (aa HI) hc
    clear HI
    generalize T d=U0 at *
    obtain rfl:U0=X:=HE
    go_wp2_with fail
    go_ret
    exact ⟨rfl,BR⟩
end Go.Proofs.YtfolanohokflkaaGreatDoor
