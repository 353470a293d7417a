import Derived.Test.YtfolanohokflkaaGreatDoorProC
import Derived.Test.YtfolanohokflkaaGreatDoorClsB
import Derived.Test.YtfolanohokflkaaGreatDoorBecB
import Derived.WalkKit
import Derived.WalkSpells
import Derived.WalkLawsBesides
import Derived.WalkMore
import Derived.Deep.QuietTactic
import Derived.BigQuiet
import Derived.Deep.RegionHeld3
import Derived.Test.YtfolanohokflkaaGreatDoorBcF
namespace Go.Proofs.YtfolanohokflkaaGreatDoor
open Go.RowKit
set_option maxRecDepth 100000 in
set_option maxHeartbeats 4000000 in
theorem CL (w:World) (B:Int):Calls Tryz.prog 71 #[.int .i64 B] w fun e w'=>∃ mb,e=.returned (.agg #[.int .i64 B,.map (some mb)])/\Hid (Met w' mb [])/\w.heap.size<=mb/\Hid (Below w.heap.size w w'):=by
 have hm1:∀ w:World,(Instr.makeMap 103 none).run Tryz.prog w=.ok (.map (some w.heap.size)) (w.alloc (mkMap [])):=fun w=>rfl
 go_enter Tryz.func71,Tryz.ntmps71
 go_wp2_with fail
 have hsz:(w.alloc (.cells #[.int .i64 B,.map (some (w.heap.size+1))] 105)).heap.size=w.heap.size+1:=by simp
 have k0:((w.alloc (.cells #[.int .i64 B,.map (some (w.heap.size+1))] 105)).alloc (mkMap [])).cell? ⟨w.heap.size,0,none⟩=some (.int .i64 B):=by
  rw [World.cell?_of_block (a:=⟨w.heap.size,0,none⟩) (Below.heap_alloc _ _ w.heap.size (by rw [hsz];omega))]
  exact aB rfl 0 rfl
 have k1:((w.alloc (.cells #[.int .i64 B,.map (some (w.heap.size+1))] 105)).alloc (mkMap [])).cell? ⟨w.heap.size,1,none⟩=some (.map (some (w.heap.size+1))):=by
  rw [World.cell?_of_block (a:=⟨w.heap.size,1,none⟩) (Below.heap_alloc _ _ w.heap.size (by rw [hsz];omega))]
  exact aB rfl 1 rfl
 refine bodyPost_ret (v:=.agg #[.int .i64 B,.map (some (w.heap.size+1))]) ?_ rfl ⟨w.heap.size+1,rfl,hide ⟨?_,(fun n hn=>by cases hn),List.nodup_nil⟩,by omega,?_⟩
 ·simp [results,Tryz.results71,go_sem,k0,k1]
 ·have h:=heap_alloc_new (w.alloc (.cells #[.int .i64 B,.map (some (w.heap.size+1))] 105)) (mkMap [])
  rw [hsz] at h
  exact h
 ·exact ((Below.refl w.heap.size w).alloc (Nat.le_refl _) _).alloc (by rw [hsz];omega) _
end Go.Proofs.YtfolanohokflkaaGreatDoor
namespace Go.Proofs.YtfolanohokflkaaGreatDoor
open Go.RowKit
theorem kU.block {w:World} {t:TB} {g cap:Nat} {dn:List Int} (h:kU w t g cap dn):∃ cur,w.heap[g]? = some (.cells cur 21 (0,0)):=by
 obtain ⟨hl,hx | ⟨g',cap',cur,hv,hb',hg,rest⟩⟩:=h.own
 ·exact absurd hx.1 (by simp)
 ·have e':g'=g:=by injection hv with e;injection e with e;injection e with e;exact e.symm
  subst e'
  exact ⟨cur,hg⟩
section
variable {w0 w w':World} {b0 mb tb:Nat} {t t':TB} {T:List Te} {S C S' C':List (Value×Value)} {M M':List Nat} {KP:Nat->Prop}
end
end Go.Proofs.YtfolanohokflkaaGreatDoor
namespace Go.Proofs.YtfolanohokflkaaGreatDoor
open Go.RowKit
structure G5 (w:World) (sb mb tb:Nat) (B:Int) (n0:Nat) (L:List Int) (ao:Option Addr) (cap:Nat) (KP:Nat->Prop):Prop where
 c0:w.cell? ⟨sb,0,none⟩=some (.pointer (some ⟨tb,0,none⟩))
 c1:w.cell? ⟨sb,1,none⟩=some (.int .i64 B)
 c2:w.cell? ⟨sb,2,none⟩=some (.map (some mb))
 c3:w.cell? ⟨sb,3,none⟩=some (.int .i64 n0)
 c4:w.cell? ⟨sb,4,none⟩=some (.slice ao L.length cap)
 kp:KP sb
 row:∀ k,k<L.length->∃ g,ao=some ⟨g,0,none⟩/\KP g/\w.cell? ⟨g,k,none⟩=some (.int .i32 (L.getD k 0))
section
variable {w0 w:World} {b0 sb mb tb:Nat} {t:TB} {T:List Te} {S C:List (Value×Value)} {M:List Nat} {KP:Nat->Prop} {B:Int} {n0:Nat} {L:List Int} {ao:Option Addr} {cap:Nat}
end
end Go.Proofs.YtfolanohokflkaaGreatDoor
namespace Go.Proofs.YtfolanohokflkaaGreatDoor
open Go.RowKit
open Tm (eps)
theorem iI.besides {w w':World} {t:TB} {T:List Te} {C:List (Value×Value)} {mb:Nat} {l0:List (Value×Value)} (h:iI w t T C) (hm:w.heap[mb]? = some (mkMap l0)) (hb:∀ k,k<w.heap.size->k≠mb->w'.heap[k]? = w.heap[k]?):iI w' t T C:=by
 refine ⟨h.1,fun p hp=>?_⟩
 obtain ⟨n,g,cap,l,y,e,h1,h2,h2',h3⟩:=h.2 p hp
 obtain ⟨cur,hg⟩:=h3.block
 refine ⟨n,g,cap,l,y,e,h1,h2,h2',h3.move (hb g h3.lt (fun e=>?_))⟩
 subst e
 rw [hg] at hm
 cases hm
structure oz (B:List Int) (w0 w:World) (b0 mb tb:Nat) (t:TB) (T:List Te) (S C:List (Value×Value)) (M:List Nat) (KP:Nat->Prop):Prop where
 sz:Sz B w t T S C
 met:Met w mb M
 etb:t.tb=tb
 apart:¬ TF t mb
 VO:∀ k,KP k->k<w.heap.size/\¬ TF t k/\k≠mb
 keep:∀ k,KP k->w.heap[k]? = w0.heap[k]?
 foot:∀ k,TF t k->b0<=k
 mb0:b0<=mb
 size:b0<=w.heap.size
 below:Below b0 w0 w
section
variable {Bs:List Int} {w0 w w':World} {b0 mb tb:Nat} {t t':TB} {T T':List Te} {S C S' C':List (Value×Value)} {M M':List Nat} {KP:Nat->Prop}
theorem oz.mlt (h:oz Bs w0 w b0 mb tb t T S C M KP):mb<w.heap.size:=(Array.getElem?_eq_some_iff.1 h.met.at_).1
theorem oz.bec (h:Hid (oz Bs w0 w b0 mb tb t T S C M KP)) (h1:Hid (Sz Bs w' t' T' S' C')) (h4:bg t t' w w'):Hid (oz Bs w0 w' b0 mb tb t' T' S' C' M KP):=by
 have g:=aa h
 have f:=h4
 have hm:=g.mlt
 have hft:∀ k,k<w.heap.size->¬ TF t k->¬ TF t' k:=fun k hk hn hf=>by
  rcases f.foot hf with e | e
  ·exact hn e
  ·omega
 refine ⟨aa h1,g.met.move (f.block mb hm g.apart),f.tb.trans g.etb,hft mb hm g.apart,fun k hk=>?_,fun k hk=>?_,fun k hk=>?_,g.mb0,Nat.le_trans g.size f.size,?_⟩
 ·obtain ⟨a1,a2,a3⟩:=g.VO k hk
  exact ⟨Nat.lt_of_lt_of_le a1 f.size,hft k a1 a2,a3⟩
 ·obtain ⟨a1,a2,a3⟩:=g.VO k hk
  exact (f.block k a1 a2).trans (g.keep k hk)
 ·rcases f.foot hk with e | e
  ·exact g.foot k e
  ·exact Nat.le_trans g.size e
 ·exact ⟨f.os.trans g.below.os,f.tape.trans g.below.tape,f.output.trans g.below.output,Nat.le_trans g.below.size f.size,fun k hk=>(f.block k (Nat.lt_of_lt_of_le hk g.size) (fun hf=>by have:=g.foot k hf;omega)).trans (g.below.block k hk)⟩
theorem oz.meet (h:Hid (oz Bs w0 w b0 mb tb t T S C M KP)) (h1:Hid (Met w' mb M')) (hs:w.heap.size<=w'.heap.size) (ho:w'.os=w.os) (ht:w'.tape=w.tape) (hu:w'.output=w.output) (hb:∀ k,k<w.heap.size->k≠mb->w'.heap[k]? = w.heap[k]?):Hid (oz Bs w0 w' b0 mb tb t T S C M' KP):=by
 have g:=aa h
 have hm:=g.mlt
 refine ⟨⟨g.sz.tab.move (fun k hk hl=>hb k hl (fun e=>g.apart (e▸hk))),g.sz.ti,g.sz.cv.besides g.met.at_ hb,g.sz.sv⟩,aa h1,g.etb,g.apart,fun k hk=>?_,fun k hk=>?_,g.foot,g.mb0,Nat.le_trans g.size hs,?_⟩
 ·obtain ⟨a1,a2,a3⟩:=g.VO k hk
  exact ⟨Nat.lt_of_lt_of_le a1 hs,a2,a3⟩
 ·obtain ⟨a1,a2,a3⟩:=g.VO k hk
  exact (hb k a1 a3).trans (g.keep k hk)
 ·exact ⟨ho.trans g.below.os,ht.trans g.below.tape,hu.trans g.below.output,Nat.le_trans g.below.size hs,fun k hk=>(hb k (Nat.lt_of_lt_of_le hk g.size) (fun e=>by have:=g.mb0;omega)).trans (g.below.block k hk)⟩
theorem oz.cell (h:oz Bs w0 w b0 mb tb t T S C M KP) {k j:Nat} {x:Value} (hk:KP k) (hx:w0.cell? ⟨k,j,none⟩=some x):w.cell? ⟨k,j,none⟩=some x:=by
 rw [World.cell?_of_block (a:=⟨k,j,none⟩) (h.keep k hk)]
 exact hx
theorem oz.cells {sb n0:Nat} {Bd:Int} {L:List Int} {ao:Option Addr} {cap:Nat} (g:oz Bs w0 w b0 mb tb t T S C M KP) (h:G5 w0 sb mb tb Bd n0 L ao cap KP):w.cell? ⟨sb,0,none⟩=some (.pointer (some ⟨tb,0,none⟩))/\w.cell? ⟨sb,1,none⟩=some (.int .i64 Bd)/\w.cell? ⟨sb,2,none⟩=some (.map (some mb))/\w.cell? ⟨sb,3,none⟩=some (.int .i64 n0)/\w.cell? ⟨sb,4,none⟩=some (.slice ao L.length cap):=
 ⟨g.cell h.kp h.c0,g.cell h.kp h.c1,g.cell h.kp h.c2,g.cell h.kp h.c3,g.cell h.kp h.c4⟩
theorem CO (M:List Nat) (n:Nat):(kX M n).length<=M.length+1:=by
 unfold kX
 split
 ·omega
 ·simp
theorem KD {n:Nat} {Bd:Int} (h:Hid (oz Bs w0 w b0 mb tb t T S C M KP)) (hn:n<=gB) (hB:((M.length+1:Nat):Int)<=Bd) :
  Calls Tryz.prog 100 #[.agg #[.int .i64 Bd,.map (some mb)],.int .i64 n] w fun e w'=>e=.returned (.bool (decide (n∉M)))/\Hid (oz Bs w0 w' b0 mb tb t T S C (kX M n) KP):=by
 refine (Aw (B:=Bd) (n:=n) (hide (aa h).met) hn).mono ?_
 rintro x w2 ⟨e,Hz,s2,o2,t2,u2,b2⟩
 rw [if_neg (by have:=CO M n;omega)] at e
 exact ⟨e,oz.meet h Hz s2 o2 t2 u2 b2⟩
theorem Fg {q:Tm} {L:List Int} {k:Nat} (hk:k<L.length):aJ q (L.take (k+1))=aL (L.getD k 0) (aJ q (L.take k)):=by
 have:∀ (a:List Int) (c:Int) (t:Tm),aJ t (a++[c])=aL c (aJ t a):=by
  intro a
  induction a with
  | nil=>intro c t;rfl
  | cons x a ih=>intro c t;exact ih c (aL x t)
 rw [List.take_succ_eq_append_getElem hk,this]
 simp [List.getD,hk]
end
set_option maxRecDepth 100000 in
set_option maxHeartbeats 4000000 in
theorem DW {Q:Ending->World->Prop} {Bs:List Int} {G:List Gx} {Vd:Tm->Int->Prop} {q0:Tm} {w:World} {b0 sb mb tb:Nat} {t:TB} {T:List Te} {S C:List (Value×Value)} {KP:Nat->Prop} {Bd:Int} {n0:Nat} {L:List Int} {ao:Option Addr} {cap:Nat}
  (Ej:Bs.length<=480) (hS:Ni G Vd) (h:Hid (oz Bs w w b0 mb tb t T S C [] KP)) (ha:Hid (G5 w sb mb tb Bd n0 L ao cap KP)) (hL:L.length<=60) (hsy:∀ k,k<L.length->aG (L.getD k 0)=true) (hr:Rp T n0 q0) (hV:∀ k,k<L.length->Vd (aJ q0 (L.take k)) (L.getD k 0)) (hp:T.length+mQ G T (S.map (·.1)++[])<=gB) (hBd:((L.length+1:Nat):Int)<=Bd)
  (HQ:Hid (∀ w',Hid (Below b0 w w')->Q (.returned (.bool (cB (aJ q0 L)))) w')) :
  Calls Tryz.prog 67 #[.pointer (some ⟨sb,0,none⟩)] w Q:=by
 obtain ⟨c0,c1,c2,c3,c4⟩:=(aa h).cells (aa ha)
 have HR:Hid (∀ k,k<L.length->∃ g,ao=some ⟨g,0,none⟩/\KP g/\w.cell? ⟨g,k,none⟩=some (.int .i32 (L.getD k 0))):=(aa ha).row
 have HM:=hide (KD (Bd:=Bd) h (show n0<=gB by have:=hr.lt;omega) (by simp only [List.length_nil];omega))
 have HRP:=hide hr
 have HV:=hide hV
 have HSS:=hide hS
 clear hr hV hS
 go_enter Tryz.func67,Tryz.ntmps67
 go_wp2_with (go_at_call 100;refine (aa HM).mono ?_;clear HM;rintro x w2 ⟨rfl,HS2⟩;clear c0 c1 c2 c3 c4;obtain ⟨c0,c1,c2,c3,c4⟩:=(aa HS2).cells (aa ha))
 clear c0 c1 c2 c3 c4
 go_loopw [3,21] (fun v i wr=>∃ (k n:Nat) (t':TB) (T':List Te) (S' C':List (Value×Value)) (M:List Nat),k<=L.length/\v=.int .i64 (n:Int)/\i=.int .i64 (k:Int)/\Hid (Rp T' n (aJ q0 (L.take k)))/\Hid (M.length<=k+1)/\Hid (T'.length+mQ G T' (S'.map (·.1)++[])<=gB)/\Hid (oz Bs w wr b0 mb tb t' T' S' C' M KP)) (fun _ i _=>L.length - (intOf i).toNat)
 case atStart=>exact ⟨0,n0,t,T,S,C,kX [] n0,Nat.zero_le _,rfl,rfl,HRP,hide (CO [] n0),hide hp,HS2⟩
 case round=>
  obtain ⟨k,n,t',T',S',C',M,hk,rfl,rfl,HN,HML,tQ,Fh⟩:=hrel
  clear HS2
  obtain ⟨c0,c1,c2,c3,c4⟩:=(aa Fh).cells (aa ha)
  by_cases hlt:k<L.length
  ·obtain ⟨g,rfl,hKg,hcg⟩:=aa HR k hlt
   have cg:=(aa Fh).cell hKg hcg
   have hsk:=hsy k hlt
   have HDT:=hide (Fg (q:=q0) hlt)
   have Pf:=hide (CK Ej (aa HSS) n _ (aa HV k hlt) wr t' T' S' C' [] (L.getD k 0) (aa HN) hsk (Seg.refl _ _) (fun v hv=>by cases hv) (hide (aa Fh).sz) (aa tQ))
   rw [(aa Fh).etb] at Pf
   generalize L.getD k 0=c at *
   clear hcg
   go_wp2_with (first
    | (go_at_call 101;refine (aa Pf).mono ?_;clear Pf;rintro x w3 ⟨r,t3,T3,S3,C3,rfl,hbr,yo,lI⟩;have mG:=oz.bec Fh yo (aa lI).fr;clear c0 c1 c2 c3 c4 cg;obtain ⟨c0,c1,c2,c3,c4⟩:=(aa mG).cells (aa ha);have nS:Hid (T3.length+mQ G T3 (S3.map (·.1)++[])<=gB):=(by show _<=_;have h1:=(aa lI).pay;have h2:=aa tQ;omega);have hrl:r<=gB:=(by have h1:=hbr.lt;have h2:=aa nS;omega);have HM3:=hide (KD (Bd:=Bd) (n:=r) mG hrl (by have:=aa HML;omega));have YX:=hide hbr;clear hbr)
    | (go_at_call 100;refine (aa HM3).mono ?_;clear HM3;rintro x w4 ⟨rfl,SI⟩))
   go_roundw
   case rel=>
    refine ⟨k+1,r,t3,T3,S3,C3,_,by omega,rfl,by go_num,?_,?_,nS,SI⟩
    ·show Rp _ _ _
     rw [aa HDT];exact aa YX
    ·show _<=_
     have h1:=CO M r
     have h2:=aa HML
     omega
   case measure=>simp [intOf];omega
  ·obtain rfl:k=L.length:=by omega
   rw [List.take_length] at HN
   obtain ⟨x,hx⟩:=(aa Fh).sz.ti.at (aa HN)
   have hxn:=(aa Fh).sz.ti.null (aa HN) hx
   obtain ⟨g,d0,-,-,-,-,d5⟩:=(aa Fh).sz.tab.at hx
   rw [(aa Fh).etb] at d0
   rw [hxn] at d5
   have hlN:(n:Int)<(T'.length:Int):=by have:=(aa HN).lt;omega
   have hn0:(0:Int)<=(n:Int):=by omega
   clear HR HV HSS hx hxn
   go_wp2_with fail
   exact aa HQ _ (aa Fh).below
end Go.Proofs.YtfolanohokflkaaGreatDoor
namespace Go.Proofs.YtfolanohokflkaaGreatDoor
open Go.RowKit
open Tm (eps)
def qL (q:Tm) (L:List Int) (b k:Nat):Bool:=cB (aJ q ((L.drop b).take k))
def G6 (q:Tm) (L:List Int) (b:Nat):Nat->Option Nat
 | 0=>none
 | k+1=>if qL q L b k=true then some (b+k) else G6 q L b k
def VP (q:Tm) (L:List Int) (b:Nat):Option Nat:=G6 q L b (L.length - b+1)
def acS (o:Option Nat):Value:=.int .i64 ((o.getD 0:Nat):Int)
def acT (o:Option Nat):Value:=.bool o.isSome
theorem VQ (q:Tm) (a b:List Int):aJ q (a++b)=aJ (aJ q a) b:=by unfold aJ;rw [List.foldl_append]
theorem tH:∀ w:List Int,aJ aH w=aH
 | []=>rfl
 | c::w=>by show aJ (aL c aH) w=aH;rw [show aL c aH=aH from rfl];exact tH w
theorem KE {q:Tm} {L:List Int} {b k:Nat} (h:aJ q ((L.drop b).take k)=aH):∀ j,G6 q L b (k+j)=G6 q L b k
 | 0=>rfl
 | j+1=>by
  show (if qL q L b (k+j)=true then some (b+(k+j)) else G6 q L b (k+j))=_
  have e:qL q L b (k+j)=false:=by
   unfold qL
   rw [List.take_add,VQ,h,tH]
   rfl
  rw [if_neg (by rw [e];decide),KE h j]
theorem Y3 {q:Tm} {L:List Int} {b k:Nat} (h:b+k<L.length):aJ q ((L.drop b).take (k+1))=aL (L.getD (b+k) 0) (aJ q ((L.drop b).take k)):=by
 have h':k<(L.drop b).length:=by rw [List.length_drop];omega
 rw [Fg h']
 congr 1
 simp [List.getD]
def VR (Bs:List Int) (Bd:Int) (q:Tm):Prop:=∃ (T:List Te) (M:List Nat),TI Bs T/\M.Nodup/\Bd<(M.length:Int)/\∀ n∈M,∃ v,Rp T n (aJ q v)
def Xp (T:List Te) (q:Tm) (M:List Nat):Prop:=∀ n∈M,∃ v,Rp T n (aJ q v)
theorem Xp.add {T:List Te} {q:Tm} {M:List Nat} (h:Xp T q M) {n:Nat} {v:List Int} (hn:Rp T n (aJ q v)):Xp T q (kX M n):=by
 unfold kX
 split
 ·exact h
 ·intro m hm
  rcases List.mem_append.1 hm with e | e
  ·exact h m e
  ·rw [List.mem_singleton] at e
   exact ⟨v,e▸hn⟩
theorem Xp.mono {T X:List Te} {q:Tm} {M:List Nat} (h:Xp T q M):Xp (T++X) q M:=fun n hn=>by
 obtain ⟨v,hv⟩:=h n hn
 exact ⟨v,hv.mono⟩
section
variable {Bs:List Int} {w0 w w':World} {b0 mb tb:Nat} {t t':TB} {T T':List Te} {S C S' C':List (Value×Value)} {M M':List Nat} {KP:Nat->Prop}
theorem Y4 {n:Nat} {Bd:Int} {q:Tm} {v:List Int} (h:Hid (oz Bs w0 w b0 mb tb t T S C M KP)) (hM:Hid (Xp T q M)) (hr:Hid (Rp T n (aJ q v))) (hn:n<=gB) (hb:Bd<((kX M n).length:Int)) :
  Calls Tryz.prog 100 #[.agg #[.int .i64 Bd,.map (some mb)],.int .i64 n] w fun e w'=>e=zg 7 0/\Hid (Below b0 w0 w')/\Hid (VR Bs Bd q):=by
 refine (Aw (B:=Bd) (n:=n) (hide (aa h).met) hn).mono ?_
 rintro x w2 ⟨e,Hz,s2,o2,t2,u2,b2⟩
 have HS:=oz.meet h Hz s2 o2 t2 u2 b2
 rw [if_pos hb] at e
 exact ⟨e,hide (aa HS).below,hide ⟨T,kX M n,(aa HS).sz.ti,(aa HS).met.nd,hb,(aa hM).add (aa hr)⟩⟩
theorem Y5 {n:Nat} {Bd:Int} (h:Hid (oz Bs w0 w b0 mb tb t T S C M KP)) (hn:n<=gB) (hb:¬ Bd<((kX M n).length:Int)) :
  Calls Tryz.prog 100 #[.agg #[.int .i64 Bd,.map (some mb)],.int .i64 n] w fun e w'=>e=.returned (.bool (decide (n∉M)))/\Hid (oz Bs w0 w' b0 mb tb t T S C (kX M n) KP):=by
 refine (Aw (B:=Bd) (n:=n) (hide (aa h).met) hn).mono ?_
 rintro x w2 ⟨e,Hz,s2,o2,t2,u2,b2⟩
 rw [if_neg hb] at e
 exact ⟨e,oz.meet h Hz s2 o2 t2 u2 b2⟩
theorem oz.drewN (h:Hid (oz Bs w0 w b0 mb tb t T S C M KP)) (q:Nat):Hid (oz Bs w0 (w.drewN q) b0 mb tb t T S C M KP):=by
 have g:=aa h
 exact ⟨aa (Sz.drewN (hide g.sz) q),g.met.move rfl,g.etb,g.apart,g.VO,g.keep,g.foot,g.mb0,g.size,⟨g.below.os,g.below.tape,g.below.output,g.below.size,g.below.block⟩⟩
theorem oz.null {n:Nat} {y:Tm} (h:oz Bs w0 w b0 mb tb t T S C M KP) (hn:Rp T n y):∃ g cap,w.cell? ⟨tb,22,none⟩=some (.slice (some ⟨g,0,none⟩) T.length cap)/\w.cell? ⟨g,n*5+4,none⟩=some (.bool (cB y)):=by
 obtain ⟨x,hx⟩:=h.sz.ti.at hn
 have hxn:=h.sz.ti.null hn hx
 obtain ⟨g,d0,-,-,-,-,d5⟩:=h.sz.tab.at hx
 rw [h.etb] at d0
 rw [hxn] at d5
 exact ⟨g,_,d0,d5⟩
end
structure Fj (Bs:List Int) (G:List Gx) (q0:Tm) (n0:Nat) (w0 w:World) (b0 mb tb:Nat) (KP:Nat->Prop):Prop where
 ex:∃ (t:TB) (T:List Te) (S C:List (Value×Value)) (M:List Nat),Hid (oz Bs w0 w b0 mb tb t T S C M KP)/\Hid (Xp T q0 M)/\Hid (Rp T n0 q0)/\Hid (T.length+mQ G T (S.map (·.1)++[])<=gB)
def LgO (Bs:List Int) (G:List Gx) (q0:Tm) (n0:Nat) (Bd:Int) (w0:World) (b0 mb tb:Nat) (KP:Nat->Prop) (o:Option Nat) (e:Ending) (w':World):Prop:=
 (e=zg 7 0/\Hid (Below b0 w0 w')/\Hid (VR Bs Bd q0))\/(e=.returned (.tuple #[acS o,acT o])/\Hid (Fj Bs G q0 n0 w0 w' b0 mb tb KP))
set_option maxRecDepth 100000 in
set_option maxHeartbeats 8000000 in
theorem KF {Bs:List Int} {G:List Gx} {Vd:Tm->Int->Prop} {q0:Tm} {w0 w:World} {b0 sb mb tb:Nat} {KP:Nat->Prop} {Bd:Int} {n0 b:Nat} {L:List Int} {ao:Option Addr} {cap:Nat}
  (Ej:Bs.length<=480) (hS:Ni G Vd) (h:Hid (Fj Bs G q0 n0 w0 w b0 mb tb KP)) (ha:Hid (G5 w0 sb mb tb Bd n0 L ao cap KP)) (hL:L.length<=60) (hb:b<=L.length) (hsy:∀ k,k<L.length->aG (L.getD k 0)=true) (hV:∀ k,b+k<L.length->Vd (aJ q0 ((L.drop b).take k)) (L.getD (b+k) 0)) :
  Calls Tryz.prog 72 #[.pointer (some ⟨sb,0,none⟩),.int .i64 (b:Int)] w (LgO Bs G q0 n0 Bd w0 b0 mb tb KP (VP q0 L b)):=by
 obtain ⟨t,T,S,C,M,dK,HM0,Gs,HP0⟩:=(aa h).ex
 obtain ⟨c0,c1,c2,c3,c4⟩:=(aa dK).cells (aa ha)
 have HR:Hid (∀ k,k<L.length->∃ g,ao=some ⟨g,0,none⟩/\KP g/\w0.cell? ⟨g,k,none⟩=some (.int .i32 (L.getD k 0))):=(aa ha).row
 have HV:=hide hV
 have HSS:=hide hS
 have HB:=hide Ej
 clear hV hS h Ej
 go_enter Tryz.func72,Tryz.ntmps72
 go_wp2_with fail
 clear c0 c1 c2 c3 c4
 go_loopw [4,5,6,7] (fun en fo nu pl wr=>∃ (k n:Nat) (t':TB) (T':List Te) (S' C':List (Value×Value)) (M':List Nat),b+k<=L.length/\en=acS (G6 q0 L b k)/\fo=acT (G6 q0 L b k)/\nu=.int .i64 (n:Int)/\pl=.int .i64 ((b+k:Nat):Int)/\Hid (Rp T' n (aJ q0 ((L.drop b).take k)))/\Hid (Rp T' n0 q0)/\Hid (Xp T' q0 M')/\Hid (T'.length+mQ G T' (S'.map (·.1)++[])<=gB)/\Hid (oz Bs w0 wr b0 mb tb t' T' S' C' M' KP)) (fun _ _ _ pl _=>L.length - (intOf pl).toNat)
 case atStart=>exact ⟨0,n0,t,T,S,C,M,hb,rfl,rfl,rfl,rfl,Gs,Gs,HM0,HP0,dK⟩
 case round=>
  obtain ⟨k,n,t',T',S',C',M',hk,rfl,rfl,rfl,rfl,HN,HN0,HMO,tQ,Fh⟩:=hrel
  clear dK HM0 Gs HP0
  obtain ⟨c0,c1,c2,c3,c4⟩:=(aa Fh).cells (aa ha)
  have hnl:n<=gB:=by have h1:=(aa HN).lt;have h2:=aa tQ;omega
  by_cases hov:Bd<((kX M' n).length:Int)
  ·have HM:=hide (Y4 Fh HMO HN hnl hov)
   clear HR HV HSS HN HN0 HMO tQ Fh hov
   go_wp2_with (go_at_call 100;refine (aa HM).mono ?_;clear HM;rintro x w2 ⟨rfl,HB2,jl⟩)
   exact ⟨rfl,.inl ⟨rfl,HB2,jl⟩⟩
  ·have HM:=hide (Y5 Fh hnl hov)
   have VS:=hide ((aa HMO).add (aa HN))
   have hn0:(0:Int)<=(n:Int):=by omega
   have hlN:(n:Int)<(T'.length:Int):=by have:=(aa HN).lt;omega
   have HE:Hid (∀ w2,Hid (oz Bs w0 w2 b0 mb tb t' T' S' C' (kX M' n) KP)->Fj Bs G q0 n0 w0 w2 b0 mb tb KP):=fun w2 h2=>⟨t',T',S',C',_,h2,VS,HN0,tQ⟩
   by_cases hz:n=0
   ·subst hz
    have hvd:aJ q0 ((L.drop b).take k)=aH:=(aa HN).uniq (aa Fh).sz.ti.r0
    have HLG:Hid (VP q0 L b=G6 q0 L b k):=by
     show _=_
     unfold VP
     rw [show L.length - b+1=k+(L.length - b+1 - k) from by omega]
     exact KE hvd _
    rw [aa HLG]
    have HNU:Hid (∀ w2,Hid (oz Bs w0 w2 b0 mb tb t' T' S' C' (kX M' 0) KP)->∃ g cap,w2.cell? ⟨tb,22,none⟩=some (.slice (some ⟨g,0,none⟩) T'.length cap)/\w2.cell? ⟨g,0*5+4,none⟩=some (.bool false)):=fun w2 h2=>by
     have:=(aa h2).null (aa HN)
     rw [hvd] at this
     exact this
    clear HR HV HSS HN HN0 HMO tQ hov VS hvd HLG
    generalize G6 q0 L b k=o at *
    go_wp2_with (go_at_call 100;refine (aa HM).mono ?_;clear HM;rintro x w2 ⟨rfl,HS2⟩;clear c0 c1 c2 c3 c4;obtain ⟨c0,c1,c2,c3,c4⟩:=(aa HS2).cells (aa ha);obtain ⟨g5,cp5,d0,d5⟩:=aa HNU w2 HS2)
    go_ret2
    exact .inr ⟨rfl,hide (aa HE _ HS2)⟩
   ·have hzI:((n:Int)==0)=false:=by simp;omega
    have HNU:Hid (∀ w2,Hid (oz Bs w0 w2 b0 mb tb t' T' S' C' (kX M' n) KP)->∃ g cap,w2.cell? ⟨tb,22,none⟩=some (.slice (some ⟨g,0,none⟩) T'.length cap)/\w2.cell? ⟨g,n*5+4,none⟩=some (.bool (qL q0 L b k))):=fun w2 h2=>(aa h2).null (aa HN)
    have Kr:Hid (G6 q0 L b (k+1)=if qL q0 L b k=true then some (b+k) else G6 q0 L b k):=rfl
    by_cases hlast:b+k=L.length
    ·have HLG:Hid (VP q0 L b=G6 q0 L b (k+1)):=by
      show _=_
      unfold VP
      rw [show L.length - b+1=k+1 from by omega]
     rw [aa HLG,aa Kr]
     clear HR HV HSS HN HN0 HMO tQ hov VS HLG Kr
     generalize G6 q0 L b k=o at *
     generalize qL q0 L b k=tf at *
     rw [hlast]
     cases tf
     ·go_wp2_with (go_at_call 100;refine (aa HM).mono ?_;clear HM;rintro x w2 ⟨rfl,HS2⟩;clear c0 c1 c2 c3 c4;obtain ⟨c0,c1,c2,c3,c4⟩:=(aa HS2).cells (aa ha);obtain ⟨g5,cp5,d0,d5⟩:=aa HNU w2 HS2)
      go_ret2
      exact .inr ⟨rfl,hide (aa HE _ HS2)⟩
     ·go_wp2_with (go_at_call 100;refine (aa HM).mono ?_;clear HM;rintro x w2 ⟨rfl,HS2⟩;clear c0 c1 c2 c3 c4;obtain ⟨c0,c1,c2,c3,c4⟩:=(aa HS2).cells (aa ha);obtain ⟨g5,cp5,d0,d5⟩:=aa HNU w2 HS2)
      go_ret2
      exact .inr ⟨rfl,hide (aa HE _ HS2)⟩
    ·have hlt:b+k<L.length:=by omega
     obtain ⟨g,rfl,hKg,hcg⟩:=aa HR (b+k) hlt
     have hsk:=hsy (b+k) hlt
     have HDT:=hide (Y3 (q:=q0) hlt)
     have HVK:=hide (aa HV k hlt)
     have Pf:Hid (∀ (w2:World) (q:Nat),Hid (oz Bs w0 w2 b0 mb tb t' T' S' C' (kX M' n) KP)->Calls Tryz.prog 101 #[.pointer (some ⟨tb,0,none⟩),.int .i64 n,.int .i32 (L.getD (b+k) 0)] (w2.drewN q) (BO Bs G [] (fun i=>i<=n) 0 (aL (L.getD (b+k) 0) (aJ q0 ((L.drop b).take k))) (w2.drewN q) t' T' S')):=fun w2 q h2=>by
      have h3:=oz.drewN h2 q
      have h:=CK (aa HB) (aa HSS) n _ (aa HVK) (w2.drewN q) t' T' S' C' [] (L.getD (b+k) 0) (aa HN) hsk (Seg.refl _ _) (fun v hv=>by cases hv) (hide (aa h3).sz) (aa tQ)
      rw [(aa h3).etb] at h
      exact h
     have HCG:=hide hcg
     have aej:((b+k:Nat):Int)<(L.length:Int):=by omega
     have hneq:(((b+k:Nat):Int)==(L.length:Int))=false:=by simp;omega
     clear HR HV HSS hov HVK hcg hsy hlt hlast
     have hLI:L.length<=60:=hL
     generalize L.getD (b+k) 0=c at *
     generalize hpk:b+k=pk at *
     have RQ:Hid (∀ (r:Nat) (t3:TB) (T3:List Te) (S3 C3:List (Value×Value)) (w2 w3:World),Hid (oz Bs w0 w2 b0 mb tb t' T' S' C' (kX M' n) KP)->Rp T3 r (aL c (aJ q0 ((L.drop b).take k)))->Hid (Sz Bs w3 t3 T3 S3 C3)->Hid (Nx G [] (fun i=>i<=n) 0 (w2.drewN 1) t' T' S' w3 t3 T3 S3)->∃ (k' n':Nat) (t4:TB) (T4:List Te) (S4 C4:List (Value×Value)) (M4:List Nat),k'=k+1/\n'=r/\Hid (Rp T4 n' (aJ q0 ((L.drop b).take k')))/\Hid (Rp T4 n0 q0)/\Hid (Xp T4 q0 M4)/\Hid (T4.length+mQ G T4 (S4.map (·.1)++[])<=gB)/\Hid (oz Bs w0 w3 b0 mb tb t4 T4 S4 C4 M4 KP)):=by
      intro r t3 T3 S3 C3 w2 w3 h2 hr hy hx
      have hs:=oz.bec (oz.drewN h2 1) hy (aa hx).fr
      obtain ⟨X,rfl⟩:=(aa hx).sub
      refine ⟨k+1,r,t3,_,S3,C3,_,rfl,rfl,?_,hide (aa HN0).mono,hide (aa VS).mono,?_,hs⟩
      ·show Rp _ _ _
       rw [aa HDT];exact hr
      ·show _<=_
       have h1:=(aa hx).pay
       have h3:=aa tQ
       omega
     have Y6:Hid (∀ (t3:TB) (T3:List Te) (S3 C3:List (Value×Value)) (w2 w3:World),Hid (oz Bs w0 w2 b0 mb tb t' T' S' C' (kX M' n) KP)->Hid (Sz Bs w3 t3 T3 S3 C3)->Hid (Nx G [] (fun i=>i<=n) 0 (w2.drewN 1) t' T' S' w3 t3 T3 S3)->Hid (oz Bs w0 w3 b0 mb tb t3 T3 S3 C3 (kX M' n) KP)):=fun t3 T3 S3 C3 w2 w3 h2 hy hx=>oz.bec (oz.drewN h2 1) hy (aa hx).fr
     clear HN HN0 HMO tQ VS HDT HE
     generalize hwt:qL q0 L b k=tf at *
     cases tf
     ·go_wp2_with (go_at_call 100;refine (aa HM).mono ?_;clear HM;rintro x w2 ⟨rfl,HS2⟩;clear c0 c1 c2 c3 c4;obtain ⟨c0,c1,c2,c3,c4⟩:=(aa HS2).cells (aa ha);obtain ⟨g5,cp5,d0,d5⟩:=aa HNU w2 HS2;have cg:=(aa HS2).cell hKg (aa HCG))
      have VT:=hide (aa Pf w2 1 HS2)
      clear Pf HNU d0 d5 c1 c2 c3
      go_region_held3 (fun w'=>w'.cell? ⟨sb,0,none⟩=some (.pointer (some ⟨tb,0,none⟩))/\w'.cell? ⟨sb,4,none⟩=some (.slice (some ⟨g,0,none⟩) L.length cap)/\w'.cell? ⟨g,pk,none⟩=some (.int .i32 c)) (go_keep)
       (first | (go_at_call 101;refine (aa VT).mono ?_;clear VT;rintro x w3 ⟨r,t3,T3,S3,C3,rfl,hbr,yo,lI⟩;have mG:=aa Y6 t3 T3 S3 C3 w2 w3 HS2 yo lI;have SQ:=hide (aa RQ r t3 T3 S3 C3 w2 w3 HS2 hbr yo lI);clear hbr Y6 RQ;obtain ⟨e0,e1,e2,e3,e4⟩:=(aa mG).cells (aa ha);have cg3:=(aa mG).cell hKg (aa HCG);clear e1 e2 e3))
      go_wp2_with fail
      go_roundw
      case rel=>
       obtain ⟨k',n',t4,T4,S4,C4,M4,rfl,rfl,q1,q2,q3,q4,q5⟩:=aa SQ
       refine ⟨k+1,_,t4,T4,S4,C4,M4,by omega,?_,?_,rfl,?_,q1,q2,q3,q4,q5⟩
       ·rw [aa Kr];rfl
       ·rw [aa Kr];rfl
       ·subst hpk;go_num
      case measure=>simp [intOf];omega
     ·go_wp2_with (go_at_call 100;refine (aa HM).mono ?_;clear HM;rintro x w2 ⟨rfl,HS2⟩;clear c0 c1 c2 c3 c4;obtain ⟨c0,c1,c2,c3,c4⟩:=(aa HS2).cells (aa ha);obtain ⟨g5,cp5,d0,d5⟩:=aa HNU w2 HS2;have cg:=(aa HS2).cell hKg (aa HCG))
      have VT:=hide (aa Pf w2 1 HS2)
      clear Pf HNU d0 d5 c1 c2 c3
      go_region_held3 (fun w'=>w'.cell? ⟨sb,0,none⟩=some (.pointer (some ⟨tb,0,none⟩))/\w'.cell? ⟨sb,4,none⟩=some (.slice (some ⟨g,0,none⟩) L.length cap)/\w'.cell? ⟨g,pk,none⟩=some (.int .i32 c)) (go_keep)
       (first | (go_at_call 101;refine (aa VT).mono ?_;clear VT;rintro x w3 ⟨r,t3,T3,S3,C3,rfl,hbr,yo,lI⟩;have mG:=aa Y6 t3 T3 S3 C3 w2 w3 HS2 yo lI;have SQ:=hide (aa RQ r t3 T3 S3 C3 w2 w3 HS2 hbr yo lI);clear hbr Y6 RQ;obtain ⟨e0,e1,e2,e3,e4⟩:=(aa mG).cells (aa ha);have cg3:=(aa mG).cell hKg (aa HCG);clear e1 e2 e3))
      go_wp2_with fail
      go_roundw
      case rel=>
       obtain ⟨k',n',t4,T4,S4,C4,M4,rfl,rfl,q1,q2,q3,q4,q5⟩:=aa SQ
       refine ⟨k+1,_,t4,T4,S4,C4,M4,by omega,?_,?_,rfl,?_,q1,q2,q3,q4,q5⟩
       ·rw [aa Kr];rfl
       ·rw [aa Kr];rfl
       ·subst hpk;go_num
      case measure=>simp [intOf];omega
end Go.Proofs.YtfolanohokflkaaGreatDoor
namespace Go.Proofs.YtfolanohokflkaaGreatDoor
open Go.RowKit
open Tm (eps)
def frS (q:Tm) (L:List Int):Nat->Nat->Option (Nat×Nat)
 | 0,_=>none
 | f+1,b=>match VP q L b with
  | some e=>some (b,e)
  | none=>frS q L f (b+1)
def zB (q:Tm) (L:List Int) (b:Nat):Option (Nat×Nat):=frS q L (L.length+1 - b) b
theorem KG {q:Tm} {L:List Int} {b:Nat} (h:b<=L.length):zB q L b=match VP q L b with
  | some e=>some (b,e)
  | none=>zB q L (b+1):=by
 unfold zB
 rw [show L.length+1 - b=(L.length+1 - (b+1))+1 from by omega]
 rfl
theorem G7 {q:Tm} {L:List Int} {b:Nat} (h:¬ b<=L.length):zB q L b=none:=by
 unfold zB
 rw [show L.length+1 - b=0 from by omega]
 rfl
section
variable {Bs:List Int} {G:List Gx} {q0:Tm} {n0:Nat} {w0 w w':World} {b0 sb mb tb:Nat} {KP:Nat->Prop} {o:Obj}
theorem Fj.below (h:Fj Bs G q0 n0 w0 w b0 mb tb KP):Below b0 w0 w:=by
 obtain ⟨t,T,S,C,M,h1,-⟩:=h.ex
 exact (aa h1).below
theorem Fj.size (h:Fj Bs G q0 n0 w0 w b0 mb tb KP):b0<=w.heap.size:=by
 obtain ⟨t,T,S,C,M,h1,-⟩:=h.ex
 exact (aa h1).size
theorem Fj.VO (h:Fj Bs G q0 n0 w0 w b0 mb tb KP) {k:Nat} (hk:KP k):k<w.heap.size/\w.heap[k]? = w0.heap[k]? := by
 obtain ⟨t,T,S,C,M,h1,-⟩:=h.ex
 exact ⟨((aa h1).VO k hk).1,(aa h1).keep k hk⟩
theorem Fj.base (h:Hid (Fj Bs G q0 n0 w0 w b0 mb tb KP)) (o:Obj):Hid (Fj Bs G q0 n0 (w.alloc o) (w.alloc o) b0 mb tb (fun k=>KP k\/k=w.heap.size)):=by
 obtain ⟨t,T,S,C,M,h1,h2,h3,h4⟩:=(aa h).ex
 have g:=aa h1
 have hb:Below w.heap.size w (w.alloc o):=(Below.refl _ _).alloc (Nat.le_refl _) _
 have hm:=g.mlt
 refine ⟨t,T,S,C,M,⟨aa (Sz.below (hide g.sz) hb),g.met.move (hb.block _ hm),g.etb,g.apart,fun k hk=>?_,fun _ _=>rfl,g.foot,g.mb0,Nat.le_trans g.size hb.size,Below.refl _ _⟩,h2,h3,h4⟩
 rcases hk with hk | hk
 ·obtain ⟨a1,a2,a3⟩:=g.VO k hk
  exact ⟨Nat.lt_of_lt_of_le a1 hb.size,a2,a3⟩
 ·subst hk
  exact ⟨by simp,fun hf=>absurd (g.sz.tab.foot hf) (Nat.lt_irrefl _),by omega⟩
theorem G5.base {Bd:Int} {L:List Int} {ao:Option Addr} {cap:Nat} (ha:Hid (G5 w0 sb mb tb Bd n0 L ao cap KP)) (h:Hid (Fj Bs G q0 n0 w0 w b0 mb tb KP)) (o:Obj):Hid (G5 (w.alloc o) sb mb tb Bd n0 L ao cap (fun k=>KP k\/k=w.heap.size)):=by
 have a:=aa ha
 have hb:Below w.heap.size w (w.alloc o):=(Below.refl _ _).alloc (Nat.le_refl _) _
 have mv:∀ {k j:Nat} {x:Value},KP k->w0.cell? ⟨k,j,none⟩=some x->(w.alloc o).cell? ⟨k,j,none⟩=some x:=fun {k j x} hk hx=>by
  obtain ⟨a1,a2⟩:=(aa h).VO hk
  rw [World.cell?_of_block (a:=⟨k,j,none⟩) ((hb.block k a1).trans a2)]
  exact hx
 refine ⟨mv a.kp a.c0,mv a.kp a.c1,mv a.kp a.c2,mv a.kp a.c3,mv a.kp a.c4,.inl a.kp,fun k hk=>?_⟩
 obtain ⟨g,e,h1,h2⟩:=a.row k hk
 exact ⟨g,e,.inl h1,mv h1 h2⟩
end
def adH (o:Option (Nat×Nat)):Value:=.agg #[.int .i64 (((o.getD (0,0)).1:Nat):Int),.int .i64 (((o.getD (0,0)).2:Nat):Int)]
def FrO (Bs:List Int) (q0:Tm) (Bd:Int) (w0:World) (b0:Nat) (o:Option (Nat×Nat)) (e:Ending) (w':World):Prop:=
 (e=zg 7 0/\Hid (Below b0 w0 w')/\Hid (VR Bs Bd q0))\/(e=.returned (.tuple #[adH o,.bool o.isSome])/\Hid (Below b0 w0 w'))
theorem G8 {W:World} {rb:Nat} {x0 y0 x y:Value} (h0:W.cell? ⟨rb,0,none⟩=some x0) (h1:W.cell? ⟨rb,1,none⟩=some y0):((W.setCell ⟨rb,0,none⟩ x).setCell ⟨rb,1,none⟩ y).cell? ⟨rb,0,none⟩=some x/\((W.setCell ⟨rb,0,none⟩ x).setCell ⟨rb,1,none⟩ y).cell? ⟨rb,1,none⟩=some y:=by
 have a0:=World.cell?_setCell_same W ⟨rb,0,none⟩ x h0
 have a1:(W.setCell ⟨rb,0,none⟩ x).cell? ⟨rb,1,none⟩=some y0:=by rw [World.cell?_setCell_other _ _ _ _ (by simp)];exact h1
 exact ⟨by rw [World.cell?_setCell_other _ _ _ _ (by simp)];exact a0,World.cell?_setCell_same _ _ _ a1⟩
theorem Fp {Q:Ending->World->Prop} {a:Act} {W:World} {rb:Nat} {x y:Value} {f:Bool} (h2:a.tmps.getD 4 undef=.pointer (some ⟨rb,0,none⟩)) (h3:a.tmps.getD 5 undef=.bool f) (hd:a.defers=[]) (k0:W.cell? ⟨rb,0,none⟩=some x) (k1:W.cell? ⟨rb,1,none⟩=some y) (hq:Q (.returned (.tuple #[.agg #[x,y],.bool f])) W):bodyPost Tryz.prog Tryz.f44 Q .ret a W:=by
 refine bodyPost_ret (v:=.tuple #[.agg #[x,y],.bool f]) ?_ hd hq
 have h2':a.tmps[4]?.getD undef=.pointer (some ⟨rb,0,none⟩):=by simpa using h2
 have h3':a.tmps[5]?.getD undef=.bool f:=by simpa using h3
 simp [results,Tryz.results44,h2',h3',go_sem,k0,k1]
set_option maxRecDepth 100000 in
set_option maxHeartbeats 8000000 in
theorem R4 {Bs:List Int} {G:List Gx} {Vd:Tm->Int->Prop} {q0:Tm} {w:World} {b0 sb mb tb:Nat} {KP:Nat->Prop} {Bd:Int} {n0 b:Nat} {L:List Int} {ao:Option Addr} {cap:Nat}
  (Ej:Bs.length<=480) (hS:Ni G Vd) (h:Hid (Fj Bs G q0 n0 w w b0 mb tb KP)) (ha:Hid (G5 w sb mb tb Bd n0 L ao cap KP)) (hL:L.length<=60) (hb:b<=L.length) (hsy:∀ k,k<L.length->aG (L.getD k 0)=true) (hV:∀ b k,b+k<L.length->Vd (aJ q0 ((L.drop b).take k)) (L.getD (b+k) 0)) :
  Calls Tryz.prog 44 #[.pointer (some ⟨sb,0,none⟩),.int .i64 (b:Int)] w (FrO Bs q0 Bd w b0 (zB q0 L b)):=by
 obtain ⟨W1,hW1⟩:∃ W1,w.alloc (.cells #[.int .i64 0,.int .i64 0] 72)=W1:=⟨_,rfl⟩
 have H0:=Fj.base h (.cells #[.int .i64 0,.int .i64 0] 72)
 have HA0:=G5.base ha h (.cells #[.int .i64 0,.int .i64 0] 72)
 rw [hW1] at H0 HA0
 have HL:=hide (fun (wr:World) (k:Nat) (h:Hid (Fj Bs G q0 n0 W1 wr b0 mb tb (fun k=>KP k\/k=w.heap.size))) (hk:k<=L.length)=>KF (w:=wr) (b:=k) Ej hS h HA0 hL hk hsy (fun j hj=>hV k j hj))
 have QJ:Hid (Below b0 w W1):=by
  rw [<-hW1]
  exact (Below.refl _ _).alloc (aa h).size _
 have z0:W1.cell? ⟨w.heap.size,0,none⟩=some (.int .i64 0):=by rw [<-hW1];exact aB rfl 0 rfl
 have z1:W1.cell? ⟨w.heap.size,1,none⟩=some (.int .i64 0):=by rw [<-hW1];exact aB rfl 1 rfl
 have zf:∀ j,W1.frozen? ⟨w.heap.size,j,none⟩=false:=fun j=>by rw [<-hW1];exact World.frozen?_alloc_at _ _ _ _ rfl
 have HC:Hid (∀ (wr:World),Hid (Fj Bs G q0 n0 W1 wr b0 mb tb (fun k=>KP k\/k=w.heap.size))->wr.cell? ⟨w.heap.size,0,none⟩=some (.int .i64 0)/\wr.cell? ⟨w.heap.size,1,none⟩=some (.int .i64 0)/\(∀ j,wr.frozen? ⟨w.heap.size,j,none⟩=false)/\wr.cell? ⟨sb,4,none⟩=some (.slice ao L.length cap)):=fun wr hr=>by
  obtain ⟨-,e⟩:=(aa hr).VO (k:=w.heap.size) (.inr rfl)
  obtain ⟨-,e2⟩:=(aa hr).VO (aa HA0).kp
  refine ⟨?_,?_,fun j=>?_,?_⟩
  ·rw [World.cell?_of_block (a:=⟨w.heap.size,0,none⟩) e];exact z0
  ·rw [World.cell?_of_block (a:=⟨w.heap.size,1,none⟩) e];exact z1
  ·rw [World.frozen?_of_block (a:=⟨w.heap.size,j,none⟩) e];exact zf j
  ·rw [World.cell?_of_block (a:=⟨sb,4,none⟩) e2];exact (aa HA0).c4
 have hb0:b0<=w.heap.size:=(aa h).size
 clear h ha Ej hS hsy hV HA0 z0 z1 zf
 subst hW1
 go_enter Tryz.func44,Tryz.ntmps44
 go_wp2_with fail
 go_loopw [6] (fun v wr=>∃ k:Nat,k<=L.length+1/\v=.int .i64 (k:Int)/\Hid (zB q0 L b=zB q0 L k)/\Hid (Fj Bs G q0 n0 (w.alloc (.cells #[.int .i64 0,.int .i64 0] 72)) wr b0 mb tb (fun k=>KP k\/k=w.heap.size))) (fun v _=>L.length+1 - (intOf v).toNat)
 case atStart=>exact ⟨b,by omega,rfl,rfl,H0⟩
 case round=>
  obtain ⟨k,hk,rfl,HFR,Fh⟩:=hrel
  clear H0
  obtain ⟨c0,c1,cf,c4⟩:=aa HC wr Fh
  rw [aa HFR]
  by_cases hlt:k<=L.length
  ·have VU:=hide (aa HL wr k Fh hlt)
   have SL:(k:Int)<=(L.length:Int):=by omega
   have HST:=hide (KG (q:=q0) hlt)
   unfold LgO at VU
   rw [aa HST]
   cases hlg:VP q0 L k with
   | none=>
    rw [hlg] at VU
    have VU:Hid (Calls Tryz.prog 72 #[.pointer (some ⟨sb,0,none⟩),.int .i64 (k:Int)] wr fun e w'=>(e=zg 7 0/\Hid (Below b0 (w.alloc (.cells #[.int .i64 0,.int .i64 0] 72)) w')/\Hid (VR Bs Bd q0))\/(e=.returned (.tuple #[.int .i64 0,.bool false])/\Hid (Fj Bs G q0 n0 (w.alloc (.cells #[.int .i64 0,.int .i64 0] 72)) w' b0 mb tb (fun k=>KP k\/k=w.heap.size)))):=VU
    clear HL
    go_wp2_with (go_at_call 72;refine (aa VU).mono ?_;clear VU;rintro x w2 (⟨rfl,HB2,jl⟩ | ⟨rfl,HS2⟩);rotate_left;clear c0 c1 cf c4;obtain ⟨c0,c1,cf,c4⟩:=aa HC w2 HS2;rotate_left)
    ·exact ⟨rfl,.inl ⟨rfl,hide ((aa QJ).trans (aa HB2)),jl⟩⟩
    ·go_roundw
     case rel=>
      refine ⟨k+1,by omega,by go_num,?_,HS2⟩
      exact hide rfl
     case measure=>simp [intOf];omega
   | some e=>
    rw [hlg] at VU
    have VU:Hid (Calls Tryz.prog 72 #[.pointer (some ⟨sb,0,none⟩),.int .i64 (k:Int)] wr fun x w'=>(x=zg 7 0/\Hid (Below b0 (w.alloc (.cells #[.int .i64 0,.int .i64 0] 72)) w')/\Hid (VR Bs Bd q0))\/(x=.returned (.tuple #[.int .i64 (e:Int),.bool true])/\Hid (Fj Bs G q0 n0 (w.alloc (.cells #[.int .i64 0,.int .i64 0] 72)) w' b0 mb tb (fun k=>KP k\/k=w.heap.size)))):=VU
    clear HL
    go_wp2_with (go_at_call 72;refine (aa VU).mono ?_;clear VU;rintro x w2 (⟨rfl,HB2,jl⟩ | ⟨rfl,HS2⟩);rotate_left;clear c0 c1 cf c4;obtain ⟨c0,c1,cf,c4⟩:=aa HC w2 HS2;rotate_left)
    ·exact ⟨rfl,.inl ⟨rfl,hide ((aa QJ).trans (aa HB2)),jl⟩⟩
    ·obtain ⟨k0,k1⟩:=G8 (x:=.int .i64 (k:Int)) (y:=.int .i64 (e:Int)) c0 c1
     refine Fp rfl rfl rfl k0 k1 (.inr ⟨rfl,?_⟩)
     exact ((aa QJ).trans (aa HS2).below).setCell hb0 _ |>.setCell hb0 _
  ·have SL:¬ (k:Int)<=(L.length:Int):=by omega
   rw [G7 hlt]
   clear HL
   go_wp2_with fail
   rw [aa HFR,G7 hlt]
   obtain ⟨k0,k1⟩:=G8 (x:=.int .i64 0) (y:=.int .i64 0) c0 c1
   refine Fp rfl rfl rfl k0 k1 (.inr ⟨rfl,?_⟩)
   exact ((aa QJ).trans (aa Fh).below).setCell hb0 _ |>.setCell hb0 _
end Go.Proofs.YtfolanohokflkaaGreatDoor
namespace Go.Proofs.YtfolanohokflkaaGreatDoor
open Go.RowKit
def yt (s:ByteArray):Nat->Nat->List Int
 | 0,_=>[]
 | b+1,i=>if i<s.size then ((Utf8.decode s i).1:Int)::yt s b (i+(Utf8.decode s i).2) else []
theorem Fq (s:ByteArray):∀ (b i:Nat) (acc:Array Value),Conv.runesFrom s b i acc=acc++((yt s b i).map (Value.int .i32)).toArray
 | 0,i,acc=>by simp [Conv.runesFrom,yt]
 | b+1,i,acc=>by
  rw [Conv.runesFrom,yt]
  split
  ·show Conv.runesFrom s b (i+(Utf8.decode s i).2) (acc.push (.int .i32 (Int.ofNat (Utf8.decode s i).1)))=_
   rw [Fq s b]
   simp
  ·simp
def kS (s:ByteArray):List Int:=yt s s.size 0
theorem R5 (s:ByteArray):Conv.runesFrom s s.size 0 #[]=((kS s).map (Value.int .i32)).toArray:=by
 rw [Fq];simp [kS]
theorem KH (s:ByteArray):∀ b i,(yt s b i).length<=b
 | 0,_=>by simp [yt]
 | b+1,i=>by
  rw [yt]
  split
  ·have:=KH s b (i+(Utf8.decode s i).2);simp only [List.length_cons];omega
  ·simp
theorem KI (s:ByteArray):∀ b i,∀ c∈yt s b i,aG c=true
 | 0,_,_,h=>by simp [yt] at h
 | b+1,i,c,h=>by
  rw [yt] at h
  split at h
  ·rcases List.mem_cons.1 h with e | e
   ·rw [e];exact Bg s i
   ·exact KI s b _ c e
  ·cases h
theorem Pg (s:ByteArray):∀ c∈kS s,aG c=true:=KI _ _ _
theorem Ab (s:ByteArray):(kS s).length<=s.size:=KH _ _ _
theorem VV (w:World) (u:ByteArray) (hl:(kS u).length<=1000):∃ cap w1,(convert 9 107 (.string u)).run Tryz.prog w=.ok (.slice (some ⟨w.heap.size,0,none⟩) (kS u).length cap) w1/\Below w.heap.size w w1/\w.heap.size<w1.heap.size/\∀ j,j<(kS u).length->w1.cell? ⟨w.heap.size,j,none⟩=some (.int .i32 ((kS u).getD j 0)):=by
 have hr:=R5 u
 generalize kS u=cs at *
 have hsz:(Conv.runesFrom u u.size 0 #[]).size=cs.length:=by rw [hr,List.size_toArray,List.length_map]
 have h:=run_runes_of_string (P:=Tryz.prog) w 9 107 21 u Tryz.underlying9 Tryz.underlying107 Tryz.underlying21 (by rw [hsz];omega)
 rw [hsz,hr] at h
 refine ⟨_,_,h,?_,by rw [World.size_alloc];exact Nat.lt_succ_self _,fun j hj=>?_⟩
 ·have hb:=(Below.refl w.heap.size w).alloc (Nat.le_refl _) (.cells ((cs.map (Value.int .i32)).toArray++Array.replicate (grownCap w cs.length 0 21 - cs.length) (.int .i32 0)) 21)
  exact ⟨hb.os,hb.tape,hb.output,hb.size,hb.block⟩
 ·have hn:=heap_alloc_new w.drew (.cells ((cs.map (Value.int .i32)).toArray++Array.replicate (grownCap w cs.length 0 21 - cs.length) (.int .i32 0)) 21)
  have hn':(w.drew.alloc (.cells ((cs.map (Value.int .i32)).toArray++Array.replicate (grownCap w cs.length 0 21 - cs.length) (.int .i32 0)) 21)).heap[w.heap.size]? = _:=hn
  simp only [World.cell?,hn']
  simp only [Option.isSome_none,Bool.false_eq_true,if_false]
  rw [Array.getElem?_append_left (by simpa using hj)]
  simp [List.getD,hj]
end Go.Proofs.YtfolanohokflkaaGreatDoor
