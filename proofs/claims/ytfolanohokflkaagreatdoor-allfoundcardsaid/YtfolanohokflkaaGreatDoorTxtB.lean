import Derived.Test.YtfolanohokflkaaGreatDoorProC
import Derived.Test.YtfolanohokflkaaGreatDoorBsA
import Derived.Test.YtfolanohokflkaaGreatDoorBecB
import Derived.WalkKit
import Derived.WalkSpells
import Derived.WalkLawsBesides
import Derived.WalkMore
import Derived.Deep.QuietTactic
import Derived.BigQuiet
import Derived.Deep.RegionHeld3
import Derived.Test.YtfolanohokflkaaGreatDoorBcF
namespace Go.Proofs.YtfolanohokflkaaGreatDoor
open Go.RowKit
set_option maxRecDepth 100000 in
set_option maxHeartbeats 4000000 in
theorem CV (w:World) (B:Int):Calls Tryz.prog 71 #[.int .i64 B] w fun e w'=>∃ mb,e=.returned (.agg #[.int .i64 B,.map (some mb)])/\Hid (Met w' mb [])/\w.heap.size<=mb/\Hid (Below w.heap.size w w'):=by
 have hm1:∀ w:World,(Instr.makeMap 103 none).run Tryz.prog w=.ok (.map (some w.heap.size)) (w.alloc (mkMap [])):=fun w=>rfl
 go_enter Tryz.func71,Tryz.ntmps71
 go_wp2_with fail
 have hsz:(w.alloc (.cells #[.int .i64 B,.map (some (w.heap.size+1))] 105)).heap.size=w.heap.size+1:=by simp
 have k0:((w.alloc (.cells #[.int .i64 B,.map (some (w.heap.size+1))] 105)).alloc (mkMap [])).cell? ⟨w.heap.size,0,none⟩=some (.int .i64 B):=by
  rw [World.cell?_of_block (a:=⟨w.heap.size,0,none⟩) (Below.heap_alloc _ _ w.heap.size (by rw [hsz];omega))]
  exact az rfl 0 rfl
 have k1:((w.alloc (.cells #[.int .i64 B,.map (some (w.heap.size+1))] 105)).alloc (mkMap [])).cell? ⟨w.heap.size,1,none⟩=some (.map (some (w.heap.size+1))):=by
  rw [World.cell?_of_block (a:=⟨w.heap.size,1,none⟩) (Below.heap_alloc _ _ w.heap.size (by rw [hsz];omega))]
  exact az rfl 1 rfl
 refine bodyPost_ret (v:=.agg #[.int .i64 B,.map (some (w.heap.size+1))]) ?_ rfl ⟨w.heap.size+1,rfl,hide ⟨?_,(fun n hn=>by cases hn),List.nodup_nil⟩,by omega,?_⟩
 ·simp [results,Tryz.results71,go_sem,k0,k1]
 ·have h:=heap_alloc_new (w.alloc (.cells #[.int .i64 B,.map (some (w.heap.size+1))] 105)) (mkMap [])
  rw [hsz] at h
  exact h
 ·exact ((Below.refl w.heap.size w).alloc (Nat.le_refl _) _).alloc (by rw [hsz];omega) _
theorem kU.block {w:World} {t:TB} {g cap:Nat} {dn:List Int} (h:kU w t g cap dn):∃ cur,w.heap[g]? = some (.cells cur 21 (0,0)):=by
 obtain ⟨hl,hx | ⟨g',cap',cur,hv,hb',hg,rest⟩⟩:=h.own
 ·exact absurd hx.1 (by simp)
 ·have e':g'=g:=by injection hv with e;injection e with e;injection e with e;exact e.symm
  subst e'
  exact ⟨cur,hg⟩
section
variable {w0 w w':World} {b0 mb tb:Nat} {t t':TB} {T:List Te} {S C S' C':List (Value×Value)} {M M':List Nat} {KP:Nat->Prop}
end
structure vv (w:World) (sb mb tb:Nat) (B:Int) (n0:Nat) (L:List Int) (ao:Option Addr) (cap:Nat) (KP:Nat->Prop):Prop where
 c0:w.cell? ⟨sb,0,none⟩=some (.pointer (some ⟨tb,0,none⟩))
 c1:w.cell? ⟨sb,1,none⟩=some (.int .i64 B)
 c2:w.cell? ⟨sb,2,none⟩=some (.map (some mb))
 c3:w.cell? ⟨sb,3,none⟩=some (.int .i64 n0)
 c4:w.cell? ⟨sb,4,none⟩=some (.slice ao L.length cap)
 kp:KP sb
 row:∀ k,k<L.length->∃ g,ao=some ⟨g,0,none⟩/\KP g/\w.cell? ⟨g,k,none⟩=some (.int .i32 (L.getD k 0))
section
variable {w0 w:World} {b0 sb mb tb:Nat} {t:TB} {T:List Te} {S C:List (Value×Value)} {M:List Nat} {KP:Nat->Prop} {B:Int} {n0:Nat} {L:List Int} {ao:Option Addr} {cap:Nat}
end
end Go.Proofs.YtfolanohokflkaaGreatDoor
namespace Go.Proofs.YtfolanohokflkaaGreatDoor
open Go.RowKit
open Tm (eps)
theorem iC.besides {w w':World} {t:TB} {T:List Te} {C:List (Value×Value)} {mb:Nat} {l0:List (Value×Value)} (h:iC w t T C) (hm:w.heap[mb]? = some (mkMap l0)) (hb:∀ k,k<w.heap.size->k≠mb->w'.heap[k]? = w.heap[k]?):iC w' t T C:=by
 refine ⟨h.1,fun p hp=>?_⟩
 obtain ⟨n,g,cap,l,y,e,h1,h2,h2',h3⟩:=h.2 p hp
 obtain ⟨cur,hg⟩:=h3.block
 refine ⟨n,g,cap,l,y,e,h1,h2,h2',h3.move (hb g h3.lt (fun e=>?_))⟩
 subst e
 rw [hg] at hm
 cases hm
structure mV (B:List Int) (w0 w:World) (b0 mb tb:Nat) (t:TB) (T:List Te) (S C:List (Value×Value)) (M:List Nat) (KP:Nat->Prop):Prop where
 sz:Sz B w t T S C
 met:Met w mb M
 Sn:t.tb=tb
 apart:¬ TF t mb
 yE:∀ k,KP k->k<w.heap.size/\¬ TF t k/\k≠mb
 keep:∀ k,KP k->w.heap[k]? = w0.heap[k]?
 foot:∀ k,TF t k->b0<=k
 XZ:b0<=mb
 size:b0<=w.heap.size
 below:Below b0 w0 w
section
variable {Bs:List Int} {w0 w w':World} {b0 mb tb:Nat} {t t':TB} {T T':List Te} {S C S' C':List (Value×Value)} {M M':List Nat} {KP:Nat->Prop}
theorem mV.mlt (h:mV Bs w0 w b0 mb tb t T S C M KP):mb<w.heap.size:=(Array.getElem?_eq_some_iff.1 h.met.at_).1
theorem mV.bec (h:Hid (mV Bs w0 w b0 mb tb t T S C M KP)) (h1:Hid (Sz Bs w' t' T' S' C')) (h4:a_ t t' w w'):Hid (mV Bs w0 w' b0 mb tb t' T' S' C' M KP):=by
 have g:=aa h
 have f:=h4
 have hm:=g.mlt
 have hft:∀ k,k<w.heap.size->¬ TF t k->¬ TF t' k:=fun k hk hn hf=>by
  rcases f.foot hf with e | e
  ·exact hn e
  ·omega
 refine ⟨aa h1,g.met.move (f.block mb hm g.apart),f.tb.trans g.Sn,hft mb hm g.apart,fun k hk=>?_,fun k hk=>?_,fun k hk=>?_,g.XZ,Nat.le_trans g.size f.size,?_⟩
 ·obtain ⟨a1,a2,a3⟩:=g.yE k hk
  exact ⟨Nat.lt_of_lt_of_le a1 f.size,hft k a1 a2,a3⟩
 ·obtain ⟨a1,a2,a3⟩:=g.yE k hk
  exact (f.block k a1 a2).trans (g.keep k hk)
 ·rcases f.foot hk with e | e
  ·exact g.foot k e
  ·exact Nat.le_trans g.size e
 ·exact ⟨f.os.trans g.below.os,f.tape.trans g.below.tape,f.output.trans g.below.output,Nat.le_trans g.below.size f.size,fun k hk=>(f.block k (Nat.lt_of_lt_of_le hk g.size) (fun hf=>by have:=g.foot k hf;omega)).trans (g.below.block k hk)⟩
theorem mV.meet (h:Hid (mV Bs w0 w b0 mb tb t T S C M KP)) (h1:Hid (Met w' mb M')) (hs:w.heap.size<=w'.heap.size) (ho:w'.os=w.os) (ht:w'.tape=w.tape) (hu:w'.output=w.output) (hb:∀ k,k<w.heap.size->k≠mb->w'.heap[k]? = w.heap[k]?):Hid (mV Bs w0 w' b0 mb tb t T S C M' KP):=by
 have g:=aa h
 have hm:=g.mlt
 refine ⟨⟨g.sz.tab.move (fun k hk hl=>hb k hl (fun e=>g.apart (e▸hk))),g.sz.ti,g.sz.cv.besides g.met.at_ hb,g.sz.sv⟩,aa h1,g.Sn,g.apart,fun k hk=>?_,fun k hk=>?_,g.foot,g.XZ,Nat.le_trans g.size hs,?_⟩
 ·obtain ⟨a1,a2,a3⟩:=g.yE k hk
  exact ⟨Nat.lt_of_lt_of_le a1 hs,a2,a3⟩
 ·obtain ⟨a1,a2,a3⟩:=g.yE k hk
  exact (hb k a1 a3).trans (g.keep k hk)
 ·exact ⟨ho.trans g.below.os,ht.trans g.below.tape,hu.trans g.below.output,Nat.le_trans g.below.size hs,fun k hk=>(hb k (Nat.lt_of_lt_of_le hk g.size) (fun e=>by have:=g.XZ;omega)).trans (g.below.block k hk)⟩
theorem mV.cell (h:mV Bs w0 w b0 mb tb t T S C M KP) {k j:Nat} {x:Value} (hk:KP k) (hx:w0.cell? ⟨k,j,none⟩=some x):w.cell? ⟨k,j,none⟩=some x:=by
 rw [World.cell?_of_block (a:=⟨k,j,none⟩) (h.keep k hk)]
 exact hx
theorem mV.cells {sb n0:Nat} {Bd:Int} {L:List Int} {ao:Option Addr} {cap:Nat} (g:mV Bs w0 w b0 mb tb t T S C M KP) (h:vv w0 sb mb tb Bd n0 L ao cap KP):w.cell? ⟨sb,0,none⟩=some (.pointer (some ⟨tb,0,none⟩))/\w.cell? ⟨sb,1,none⟩=some (.int .i64 Bd)/\w.cell? ⟨sb,2,none⟩=some (.map (some mb))/\w.cell? ⟨sb,3,none⟩=some (.int .i64 n0)/\w.cell? ⟨sb,4,none⟩=some (.slice ao L.length cap):=
 ⟨g.cell h.kp h.c0,g.cell h.kp h.c1,g.cell h.kp h.c2,g.cell h.kp h.c3,g.cell h.kp h.c4⟩
theorem CW (M:List Nat) (n:Nat):(kr M n).length<=M.length+1:=by
 unfold kr
 split
 ·omega
 ·simp
theorem KE {n:Nat} {Bd:Int} (h:Hid (mV Bs w0 w b0 mb tb t T S C M KP)) (hn:n<=fU) (hB:((M.length+1:Nat):Int)<=Bd) :
  Calls Tryz.prog 100 #[.agg #[.int .i64 Bd,.map (some mb)],.int .i64 n] w fun e w'=>e=.returned (.bool (decide (n∉M)))/\Hid (mV Bs w0 w' b0 mb tb t T S C (kr M n) KP):=by
 refine (AU (B:=Bd) (n:=n) (hide (aa h).met) hn).mono ?_
 rintro x w2 ⟨e,Hw,s2,o2,t2,u2,b2⟩
 rw [if_neg (by have:=CW M n;omega)] at e
 exact ⟨e,mV.meet h Hw s2 o2 t2 u2 b2⟩
theorem Ff {q:Tm} {L:List Int} {k:Nat} (hk:k<L.length):aI q (L.take (k+1))=aK (L.getD k 0) (aI q (L.take k)):=by
 have:∀ (a:List Int) (c:Int) (t:Tm),aI t (a++[c])=aK c (aI t a):=by
  intro a
  induction a with
  | nil=>intro c t;rfl
  | cons x a ih=>intro c t;exact ih c (aK x t)
 rw [List.take_succ_eq_append_getElem hk,this]
 simp [List.getD,hk]
end
set_option maxRecDepth 100000 in
set_option maxHeartbeats 4000000 in
theorem D8 {Q:Ending->World->Prop} {Bs:List Int} {G:List Gx} {Vd:Tm->Int->Prop} {q0:Tm} {w:World} {b0 sb mb tb:Nat} {t:TB} {T:List Te} {S C:List (Value×Value)} {KP:Nat->Prop} {Bd:Int} {n0:Nat} {L:List Int} {ao:Option Addr} {cap:Nat}
  (yR:Bs.length<=480) (hS:Kn G Vd) (h:Hid (mV Bs w w b0 mb tb t T S C [] KP)) (ha:Hid (vv w sb mb tb Bd n0 L ao cap KP)) (hL:L.length<=60) (hsy:∀ k,k<L.length->aF (L.getD k 0)=true) (hr:Rp T n0 q0) (hV:∀ k,k<L.length->Vd (aI q0 (L.take k)) (L.getD k 0)) (hp:T.length+mD G T (S.map (·.1)++[])<=fU) (hBd:((L.length+1:Nat):Int)<=Bd)
  (HQ:Hid (∀ w',Hid (Below b0 w w')->Q (.returned (.bool (di (aI q0 L)))) w')) :
  Calls Tryz.prog 67 #[.pointer (some ⟨sb,0,none⟩)] w Q:=by
 obtain ⟨c0,c1,c2,c3,c4⟩:=(aa h).cells (aa ha)
 have HR:Hid (∀ k,k<L.length->∃ g,ao=some ⟨g,0,none⟩/\KP g/\w.cell? ⟨g,k,none⟩=some (.int .i32 (L.getD k 0))):=(aa ha).row
 have HM:=hide (KE (Bd:=Bd) h (show n0<=fU by have:=hr.lt;omega) (by simp only [List.length_nil];omega))
 have HRP:=hide hr
 have HV:=hide hV
 have HSS:=hide hS
 clear hr hV hS
 go_enter Tryz.func67,Tryz.ntmps67
 go_wp2_with (go_at_call 100;refine (aa HM).mono ?_;clear HM;rintro x w2 ⟨rfl,HS2⟩;clear c0 c1 c2 c3 c4;obtain ⟨c0,c1,c2,c3,c4⟩:=(aa HS2).cells (aa ha))
 clear c0 c1 c2 c3 c4
 go_loopw [3,21] (fun v i wr=>∃ (k n:Nat) (t':TB) (T':List Te) (S' C':List (Value×Value)) (M:List Nat),k<=L.length/\v=.int .i64 (n:Int)/\i=.int .i64 (k:Int)/\Hid (Rp T' n (aI q0 (L.take k)))/\Hid (M.length<=k+1)/\Hid (T'.length+mD G T' (S'.map (·.1)++[])<=fU)/\Hid (mV Bs w wr b0 mb tb t' T' S' C' M KP)) (fun _ i _=>L.length - (intOf i).toNat)
 case atStart=>exact ⟨0,n0,t,T,S,C,kr [] n0,Nat.zero_le _,rfl,rfl,HRP,hide (CW [] n0),hide hp,HS2⟩
 case round=>
  obtain ⟨k,n,t',T',S',C',M,hk,rfl,rfl,HN,HML,uk,Al⟩:=hrel
  clear HS2
  obtain ⟨c0,c1,c2,c3,c4⟩:=(aa Al).cells (aa ha)
  by_cases hlt:k<L.length
  ·obtain ⟨g,rfl,hKg,hcg⟩:=aa HR k hlt
   have cg:=(aa Al).cell hKg hcg
   have hsk:=hsy k hlt
   have HDT:=hide (Ff (q:=q0) hlt)
   have PI:=hide (CU yR (aa HSS) n _ (aa HV k hlt) wr t' T' S' C' [] (L.getD k 0) (aa HN) hsk (Seg.refl _ _) (fun v hv=>by cases hv) (hide (aa Al).sz) (aa uk))
   rw [(aa Al).Sn] at PI
   generalize L.getD k 0=c at *
   clear hcg
   go_wp2_with (first
    | (go_at_call 101;refine (aa PI).mono ?_;clear PI;rintro x w3 ⟨r,t3,T3,S3,C3,rfl,hbr,yD,lI⟩;have mg:=mV.bec Al yD (aa lI).fr;clear c0 c1 c2 c3 c4 cg;obtain ⟨c0,c1,c2,c3,c4⟩:=(aa mg).cells (aa ha);have nS:Hid (T3.length+mD G T3 (S3.map (·.1)++[])<=fU):=(by show _<=_;have h1:=(aa lI).pay;have h2:=aa uk;omega);have hrl:r<=fU:=(by have h1:=hbr.lt;have h2:=aa nS;omega);have HM3:=hide (KE (Bd:=Bd) (n:=r) mg hrl (by have:=aa HML;omega));have Zv:=hide hbr;clear hbr)
    | (go_at_call 100;refine (aa HM3).mono ?_;clear HM3;rintro x w4 ⟨rfl,Tv⟩))
   go_roundw
   case rel=>
    refine ⟨k+1,r,t3,T3,S3,C3,_,by omega,rfl,by go_num,?_,?_,nS,Tv⟩
    ·show Rp _ _ _
     rw [aa HDT];exact aa Zv
    ·show _<=_
     have h1:=CW M r
     have h2:=aa HML
     omega
   case measure=>simp [intOf];omega
  ·obtain rfl:k=L.length:=by omega
   rw [List.take_length] at HN
   obtain ⟨x,hx⟩:=(aa Al).sz.ti.at (aa HN)
   have hxn:=(aa Al).sz.ti.null (aa HN) hx
   obtain ⟨g,d0,-,-,-,-,d5⟩:=(aa Al).sz.tab.at hx
   rw [(aa Al).Sn] at d0
   rw [hxn] at d5
   have hlN:(n:Int)<(T'.length:Int):=by have:=(aa HN).lt;omega
   have hn0:(0:Int)<=(n:Int):=by omega
   clear HR HV HSS hx hxn
   go_wp2_with fail
   exact aa HQ _ (aa Al).below
def CX (q:Tm) (L:List Int) (b k:Nat):Bool:=di (aI q ((L.drop b).take k))
def KF (q:Tm) (L:List Int) (b:Nat):Nat->Option Nat
 | 0=>none
 | k+1=>if CX q L b k=true then some (b+k) else KF q L b k
def Sq (q:Tm) (L:List Int) (b:Nat):Option Nat:=KF q L b (L.length - b+1)
def adG (o:Option Nat):Value:=.int .i64 ((o.getD 0:Nat):Int)
def adH (o:Option Nat):Value:=.bool o.isSome
theorem KG (q:Tm) (a b:List Int):aI q (a++b)=aI (aI q a) b:=by unfold aI;rw [List.foldl_append]
theorem pU:∀ w:List Int,aI aG w=aG
 | []=>rfl
 | c::w=>by show aI (aK c aG) w=aG;rw [show aK c aG=aG from rfl];exact pU w
theorem KH {q:Tm} {L:List Int} {b k:Nat} (h:aI q ((L.drop b).take k)=aG):∀ j,KF q L b (k+j)=KF q L b k
 | 0=>rfl
 | j+1=>by
  show (if CX q L b (k+j)=true then some (b+(k+j)) else KF q L b (k+j))=_
  have e:CX q L b (k+j)=false:=by
   unfold CX
   rw [List.take_add,KG,h,pU]
   rfl
  rw [if_neg (by rw [e];decide),KH h j]
theorem ZB {q:Tm} {L:List Int} {b k:Nat} (h:b+k<L.length):aI q ((L.drop b).take (k+1))=aK (L.getD (b+k) 0) (aI q ((L.drop b).take k)):=by
 have h':k<(L.drop b).length:=by rw [List.length_drop];omega
 rw [Ff h']
 congr 1
 simp [List.getD]
def Ovr (Bs:List Int) (Bd:Int) (q:Tm):Prop:=∃ (T:List Te) (M:List Nat),TI Bs T/\M.Nodup/\Bd<(M.length:Int)/\∀ n∈M,∃ v,Rp T n (aI q v)
section
variable {Bs:List Int} {w0 w w':World} {b0 mb tb:Nat} {t t':TB} {T T':List Te} {S C S' C':List (Value×Value)} {M M':List Nat} {KP:Nat->Prop}
theorem ZC {n:Nat} {Bd:Int} (h:Hid (mV Bs w0 w b0 mb tb t T S C M KP)) (hn:n<=fU) (hb:¬ Bd<((kr M n).length:Int)) :
  Calls Tryz.prog 100 #[.agg #[.int .i64 Bd,.map (some mb)],.int .i64 n] w fun e w'=>e=.returned (.bool (decide (n∉M)))/\Hid (mV Bs w0 w' b0 mb tb t T S C (kr M n) KP):=by
 refine (AU (B:=Bd) (n:=n) (hide (aa h).met) hn).mono ?_
 rintro x w2 ⟨e,Hw,s2,o2,t2,u2,b2⟩
 rw [if_neg hb] at e
 exact ⟨e,mV.meet h Hw s2 o2 t2 u2 b2⟩
theorem mV.drewN (h:Hid (mV Bs w0 w b0 mb tb t T S C M KP)) (q:Nat):Hid (mV Bs w0 (w.drewN q) b0 mb tb t T S C M KP):=by
 have g:=aa h
 exact ⟨aa (Sz.drewN (hide g.sz) q),g.met.move rfl,g.Sn,g.apart,g.yE,g.keep,g.foot,g.XZ,g.size,⟨g.below.os,g.below.tape,g.below.output,g.below.size,g.below.block⟩⟩
theorem mV.null {n:Nat} {y:Tm} (h:mV Bs w0 w b0 mb tb t T S C M KP) (hn:Rp T n y):∃ g cap,w.cell? ⟨tb,22,none⟩=some (.slice (some ⟨g,0,none⟩) T.length cap)/\w.cell? ⟨g,n*5+4,none⟩=some (.bool (di y)):=by
 obtain ⟨x,hx⟩:=h.sz.ti.at hn
 have hxn:=h.sz.ti.null hn hx
 obtain ⟨g,d0,-,-,-,-,d5⟩:=h.sz.tab.at hx
 rw [h.Sn] at d0
 rw [hxn] at d5
 exact ⟨g,_,d0,d5⟩
end
def frS (q:Tm) (L:List Int):Nat->Nat->Option (Nat×Nat)
 | 0,_=>none
 | f+1,b=>match Sq q L b with
  | some e=>some (b,e)
  | none=>frS q L f (b+1)
def pV (q:Tm) (L:List Int) (b:Nat):Option (Nat×Nat):=frS q L (L.length+1 - b) b
theorem KI {q:Tm} {L:List Int} {b:Nat} (h:b<=L.length):pV q L b=match Sq q L b with
  | some e=>some (b,e)
  | none=>pV q L (b+1):=by
 unfold pV
 rw [show L.length+1 - b=(L.length+1 - (b+1))+1 from by omega]
 rfl
theorem Am {q:Tm} {L:List Int} {b:Nat} (h:¬ b<=L.length):pV q L b=none:=by
 unfold pV
 rw [show L.length+1 - b=0 from by omega]
 rfl
section
variable {Bs:List Int} {G:List Gx} {q0:Tm} {n0:Nat} {w0 w w':World} {b0 sb mb tb:Nat} {KP:Nat->Prop} {o:Obj}
end
def aeB (o:Option (Nat×Nat)):Value:=.agg #[.int .i64 (((o.getD (0,0)).1:Nat):Int),.int .i64 (((o.getD (0,0)).2:Nat):Int)]
theorem G5 {W:World} {rb:Nat} {x0 y0 x y:Value} (h0:W.cell? ⟨rb,0,none⟩=some x0) (h1:W.cell? ⟨rb,1,none⟩=some y0):((W.setCell ⟨rb,0,none⟩ x).setCell ⟨rb,1,none⟩ y).cell? ⟨rb,0,none⟩=some x/\((W.setCell ⟨rb,0,none⟩ x).setCell ⟨rb,1,none⟩ y).cell? ⟨rb,1,none⟩=some y:=by
 have a0:=World.cell?_setCell_same W ⟨rb,0,none⟩ x h0
 have a1:(W.setCell ⟨rb,0,none⟩ x).cell? ⟨rb,1,none⟩=some y0:=by rw [World.cell?_setCell_other _ _ _ _ (by simp)];exact h1
 exact ⟨by rw [World.cell?_setCell_other _ _ _ _ (by simp)];exact a0,World.cell?_setCell_same _ _ _ a1⟩
theorem Fg {Q:Ending->World->Prop} {a:Act} {W:World} {rb:Nat} {x y:Value} {f:Bool} (h2:a.tmps.getD 4 undef=.pointer (some ⟨rb,0,none⟩)) (h3:a.tmps.getD 5 undef=.bool f) (hd:a.defers=[]) (k0:W.cell? ⟨rb,0,none⟩=some x) (k1:W.cell? ⟨rb,1,none⟩=some y) (hq:Q (.returned (.tuple #[.agg #[x,y],.bool f])) W):bodyPost Tryz.prog Tryz.f44 Q .ret a W:=by
 refine bodyPost_ret (v:=.tuple #[.agg #[x,y],.bool f]) ?_ hd hq
 have h2':a.tmps[4]?.getD undef=.pointer (some ⟨rb,0,none⟩):=by simpa using h2
 have h3':a.tmps[5]?.getD undef=.bool f:=by simpa using h3
 simp [results,Tryz.results44,h2',h3',go_sem,k0,k1]
end Go.Proofs.YtfolanohokflkaaGreatDoor
namespace Go.Proofs.YtfolanohokflkaaGreatDoor
open Go.RowKit
def yF (s:ByteArray):Nat->Nat->List Int
 | 0,_=>[]
 | b+1,i=>if i<s.size then ((Utf8.decode s i).1:Int)::yF s b (i+(Utf8.decode s i).2) else []
theorem Fh (s:ByteArray):∀ (b i:Nat) (acc:Array Value),Conv.runesFrom s b i acc=acc++((yF s b i).map (Value.int .i32)).toArray
 | 0,i,acc=>by simp [Conv.runesFrom,yF]
 | b+1,i,acc=>by
  rw [Conv.runesFrom,yF]
  split
  ·show Conv.runesFrom s b (i+(Utf8.decode s i).2) (acc.push (.int .i32 (Int.ofNat (Utf8.decode s i).1)))=_
   rw [Fh s b]
   simp
  ·simp
def gu (s:ByteArray):List Int:=yF s s.size 0
theorem Sr (s:ByteArray):Conv.runesFrom s s.size 0 #[]=((gu s).map (Value.int .i32)).toArray:=by
 rw [Fh];simp [gu]
theorem KJ (s:ByteArray):∀ b i,(yF s b i).length<=b
 | 0,_=>by simp [yF]
 | b+1,i=>by
  rw [yF]
  split
  ·have:=KJ s b (i+(Utf8.decode s i).2);simp only [List.length_cons];omega
  ·simp
theorem KL (s:ByteArray):∀ b i,∀ c∈yF s b i,aF c=true
 | 0,_,_,h=>by simp [yF] at h
 | b+1,i,c,h=>by
  rw [yF] at h
  split at h
  ·rcases List.mem_cons.1 h with e | e
   ·rw [e];exact Bu s i
   ·exact KL s b _ c e
  ·cases h
theorem G6 (s:ByteArray):∀ c∈gu s,aF c=true:=KL _ _ _
theorem tY (s:ByteArray):(gu s).length<=s.size:=KJ _ _ _
theorem Wt (w:World) (u:ByteArray) (hl:(gu u).length<=1000):∃ cap w1,(convert 9 107 (.string u)).run Tryz.prog w=.ok (.slice (some ⟨w.heap.size,0,none⟩) (gu u).length cap) w1/\Below w.heap.size w w1/\w.heap.size<w1.heap.size/\∀ j,j<(gu u).length->w1.cell? ⟨w.heap.size,j,none⟩=some (.int .i32 ((gu u).getD j 0)):=by
 have hr:=Sr u
 generalize gu u=cs at *
 have hsz:(Conv.runesFrom u u.size 0 #[]).size=cs.length:=by rw [hr,List.size_toArray,List.length_map]
 have h:=run_runes_of_string (P:=Tryz.prog) w 9 107 21 u Tryz.underlying9 Tryz.underlying107 Tryz.underlying21 (by rw [hsz];omega)
 rw [hsz,hr] at h
 refine ⟨_,_,h,?_,by rw [World.size_alloc];exact Nat.lt_succ_self _,fun j hj=>?_⟩
 ·have hb:=(Below.refl w.heap.size w).alloc (Nat.le_refl _) (.cells ((cs.map (Value.int .i32)).toArray++Array.replicate (grownCap w cs.length 0 21 - cs.length) (.int .i32 0)) 21)
  exact ⟨hb.os,hb.tape,hb.output,hb.size,hb.block⟩
 ·have hn:=heap_alloc_new w.drew (.cells ((cs.map (Value.int .i32)).toArray++Array.replicate (grownCap w cs.length 0 21 - cs.length) (.int .i32 0)) 21)
  have hn':(w.drew.alloc (.cells ((cs.map (Value.int .i32)).toArray++Array.replicate (grownCap w cs.length 0 21 - cs.length) (.int .i32 0)) 21)).heap[w.heap.size]? = _:=hn
  simp only [World.cell?,hn']
  simp only [Option.isSome_none,Bool.false_eq_true,if_false]
  rw [Array.getElem?_append_left (by simpa using hj)]
  simp [List.getD,hj]
end Go.Proofs.YtfolanohokflkaaGreatDoor
