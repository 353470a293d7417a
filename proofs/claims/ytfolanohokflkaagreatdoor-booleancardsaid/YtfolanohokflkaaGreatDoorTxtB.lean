import Derived.Test.YtfolanohokflkaaGreatDoorBcF
import Derived.Test.YtfolanohokflkaaGreatDoorSrB
import Derived.WalkKit
import Derived.WalkSpells
import Derived.WalkLawsBesides
import Derived.WalkMore
namespace Go.Proofs.YtfolanohokflkaaGreatDoor
open Go.RowKit
open Tm (eps)
theorem iK.besides {w w':World} {t:TB} {T:List Te} {C:List (Value×Value)} {mb:Nat} {l0:List (Value×Value)} (h:iK w t T C) (hm:w.heap[mb]? = some (mkMap l0)) (hb:∀ k,k<w.heap.size->k≠mb->w'.heap[k]? = w.heap[k]?):iK w' t T C:=by
 refine ⟨h.1,fun p hp=>?_⟩
 obtain ⟨n,g,cap,l,y,e,h1,h2,h2',h3⟩:=h.2 p hp
 obtain ⟨cur,hg⟩:=h3.block
 refine ⟨n,g,cap,l,y,e,h1,h2,h2',h3.move (hb g h3.lt (fun e=>?_))⟩
 subst e
 rw [hg] at hm
 cases hm
structure F3 (B:List Int) (w0 w:World) (b0 mb tb:Nat) (t:TB) (T:List Te) (S C:List (Value×Value)) (M:List Nat) (KP:Nat->Prop):Prop where
 sz:Sz B w t T S C
 met:Met w mb M
 etb:t.tb=tb
 apart:¬ TF t mb
 kap:∀ k,KP k->k<w.heap.size/\¬ TF t k/\k≠mb
 keep:∀ k,KP k->w.heap[k]? = w0.heap[k]?
 foot:∀ k,TF t k->b0<=k
 mb0:b0<=mb
 size:b0<=w.heap.size
 below:Below b0 w0 w
section
variable {Bs:List Int} {w0 w w':World} {b0 mb tb:Nat} {t t':TB} {T T':List Te} {S C S' C':List (Value×Value)} {M M':List Nat} {KP:Nat->Prop}
theorem F3.mlt (h:F3 Bs w0 w b0 mb tb t T S C M KP):mb<w.heap.size:=(Array.getElem?_eq_some_iff.1 h.met.at_).1
theorem F3.bec (h:Hid (F3 Bs w0 w b0 mb tb t T S C M KP)) (h1:Hid (Sz Bs w' t' T' S' C')) (h4:bg t t' w w'):Hid (F3 Bs w0 w' b0 mb tb t' T' S' C' M KP):=by
 have g:=aa h
 have f:=h4
 have hm:=g.mlt
 have hft:∀ k,k<w.heap.size->¬ TF t k->¬ TF t' k:=fun k hk hn hf=>by
  rcases f.foot hf with e | e
  ·exact hn e
  ·omega
 refine ⟨aa h1,g.met.move (f.block mb hm g.apart),f.tb.trans g.etb,hft mb hm g.apart,fun k hk=>?_,fun k hk=>?_,fun k hk=>?_,g.mb0,Nat.le_trans g.size f.size,?_⟩
 ·obtain ⟨a1,a2,a3⟩:=g.kap k hk
  exact ⟨Nat.lt_of_lt_of_le a1 f.size,hft k a1 a2,a3⟩
 ·obtain ⟨a1,a2,a3⟩:=g.kap k hk
  exact (f.block k a1 a2).trans (g.keep k hk)
 ·rcases f.foot hk with e | e
  ·exact g.foot k e
  ·exact Nat.le_trans g.size e
 ·exact ⟨f.os.trans g.below.os,f.tape.trans g.below.tape,f.output.trans g.below.output,Nat.le_trans g.below.size f.size,fun k hk=>(f.block k (Nat.lt_of_lt_of_le hk g.size) (fun hf=>by have:=g.foot k hf;omega)).trans (g.below.block k hk)⟩
theorem F3.meet (h:Hid (F3 Bs w0 w b0 mb tb t T S C M KP)) (h1:Hid (Met w' mb M')) (hs:w.heap.size<=w'.heap.size) (ho:w'.os=w.os) (ht:w'.tape=w.tape) (hu:w'.output=w.output) (hb:∀ k,k<w.heap.size->k≠mb->w'.heap[k]? = w.heap[k]?):Hid (F3 Bs w0 w' b0 mb tb t T S C M' KP):=by
 have g:=aa h
 have hm:=g.mlt
 refine ⟨⟨g.sz.tab.move (fun k hk hl=>hb k hl (fun e=>g.apart (e▸hk))),g.sz.ti,g.sz.cv.besides g.met.at_ hb,g.sz.sv⟩,aa h1,g.etb,g.apart,fun k hk=>?_,fun k hk=>?_,g.foot,g.mb0,Nat.le_trans g.size hs,?_⟩
 ·obtain ⟨a1,a2,a3⟩:=g.kap k hk
  exact ⟨Nat.lt_of_lt_of_le a1 hs,a2,a3⟩
 ·obtain ⟨a1,a2,a3⟩:=g.kap k hk
  exact (hb k a1 a3).trans (g.keep k hk)
 ·exact ⟨ho.trans g.below.os,ht.trans g.below.tape,hu.trans g.below.output,Nat.le_trans g.below.size hs,fun k hk=>(hb k (Nat.lt_of_lt_of_le hk g.size) (fun e=>by have:=g.mb0;omega)).trans (g.below.block k hk)⟩
theorem F3.cell (h:F3 Bs w0 w b0 mb tb t T S C M KP) {k j:Nat} {x:Value} (hk:KP k) (hx:w0.cell? ⟨k,j,none⟩=some x):w.cell? ⟨k,j,none⟩=some x:=by
 rw [World.cell?_of_block (a:=⟨k,j,none⟩) (h.keep k hk)]
 exact hx
theorem F3.cells {sb n0:Nat} {Bd:Int} {L:List Int} {ao:Option Addr} {cap:Nat} (g:F3 Bs w0 w b0 mb tb t T S C M KP) (h:aaJ w0 sb mb tb Bd n0 L ao cap KP):w.cell? ⟨sb,0,none⟩=some (.pointer (some ⟨tb,0,none⟩))/\w.cell? ⟨sb,1,none⟩=some (.int .i64 Bd)/\w.cell? ⟨sb,2,none⟩=some (.map (some mb))/\w.cell? ⟨sb,3,none⟩=some (.int .i64 n0)/\w.cell? ⟨sb,4,none⟩=some (.slice ao L.length cap):=
 ⟨g.cell h.kp h.c0,g.cell h.kp h.c1,g.cell h.kp h.c2,g.cell h.kp h.c3,g.cell h.kp h.c4⟩
theorem BU (M:List Nat) (n:Nat):(wM M n).length<=M.length+1:=by
 unfold wM
 split
 ·omega
 ·simp
theorem JD {n:Nat} {Bd:Int} (h:Hid (F3 Bs w0 w b0 mb tb t T S C M KP)) (hn:n<=gW) (hB:((M.length+1:Nat):Int)<=Bd) :
  Calls Tryz.prog 100 #[.agg #[.int .i64 Bd,.map (some mb)],.int .i64 n] w fun e w'=>e=.returned (.bool (decide (n∉M)))/\Hid (F3 Bs w0 w' b0 mb tb t T S C (wM M n) KP):=by
 refine (RS (B:=Bd) (n:=n) (hide (aa h).met) hn).mono ?_
 rintro x w2 ⟨e,NZ,s2,o2,t2,u2,b2⟩
 rw [if_neg (by have:=BU M n;omega)] at e
 exact ⟨e,F3.meet h NZ s2 o2 t2 u2 b2⟩
theorem QP {q:Tm} {L:List Int} {k:Nat} (hk:k<L.length):aO q (L.take (k+1))=aG (L.getD k 0) (aO q (L.take k)):=by
 have:∀ (a:List Int) (c:Int) (t:Tm),aO t (a++[c])=aG c (aO t a):=by
  intro a
  induction a with
  | nil=>intro c t;rfl
  | cons x a ih=>intro c t;exact ih c (aG x t)
 rw [List.take_succ_eq_append_getElem hk,this]
 simp [List.getD,hk]
end
set_option maxRecDepth 100000 in
set_option maxHeartbeats 4000000 in
theorem Dc {Q:Ending->World->Prop} {Bs:List Int} {G:List Gx} {Vd:Tm->Int->Prop} {q0:Tm} {w:World} {b0 sb mb tb:Nat} {t:TB} {T:List Te} {S C:List (Value×Value)} {KP:Nat->Prop} {Bd:Int} {n0:Nat} {L:List Int} {ao:Option Addr} {cap:Nat}
  (RY:Bs.length<=480) (hS:Us G Vd) (h:Hid (F3 Bs w w b0 mb tb t T S C [] KP)) (ha:Hid (aaJ w sb mb tb Bd n0 L ao cap KP)) (hL:L.length<=60) (hsy:∀ k,k<L.length->aC (L.getD k 0)=true) (hr:Rp T n0 q0) (hV:∀ k,k<L.length->Vd (aO q0 (L.take k)) (L.getD k 0)) (hp:T.length+nW G T (S.map (·.1)++[])<=gW) (hBd:((L.length+1:Nat):Int)<=Bd)
  (HQ:Hid (∀ w',Hid (Below b0 w w')->Q (.returned (.bool (cO (aO q0 L)))) w')) :
  Calls Tryz.prog 67 #[.pointer (some ⟨sb,0,none⟩)] w Q:=by
 obtain ⟨c0,c1,c2,c3,c4⟩:=(aa h).cells (aa ha)
 have HR:Hid (∀ k,k<L.length->∃ g,ao=some ⟨g,0,none⟩/\KP g/\w.cell? ⟨g,k,none⟩=some (.int .i32 (L.getD k 0))):=(aa ha).row
 have HM:=hide (JD (Bd:=Bd) h (show n0<=gW by have:=hr.lt;omega) (by simp only [List.length_nil];omega))
 have HRP:=hide hr
 have HV:=hide hV
 have HSS:=hide hS
 clear hr hV hS
 go_enter Tryz.func67,Tryz.ntmps67
 go_wp2_with (go_at_call 100;refine (aa HM).mono ?_;clear HM;rintro x w2 ⟨rfl,HS2⟩;clear c0 c1 c2 c3 c4;obtain ⟨c0,c1,c2,c3,c4⟩:=(aa HS2).cells (aa ha))
 clear c0 c1 c2 c3 c4
 go_loopw [3,21] (fun v i wr=>∃ (k n:Nat) (t':TB) (T':List Te) (S' C':List (Value×Value)) (M:List Nat),k<=L.length/\v=.int .i64 (n:Int)/\i=.int .i64 (k:Int)/\Hid (Rp T' n (aO q0 (L.take k)))/\Hid (M.length<=k+1)/\Hid (T'.length+nW G T' (S'.map (·.1)++[])<=gW)/\Hid (F3 Bs w wr b0 mb tb t' T' S' C' M KP)) (fun _ i _=>L.length - (intOf i).toNat)
 case atStart=>exact ⟨0,n0,t,T,S,C,wM [] n0,Nat.zero_le _,rfl,rfl,HRP,hide (BU [] n0),hide hp,HS2⟩
 case round=>
  obtain ⟨k,n,t',T',S',C',M,hk,rfl,rfl,HN,HML,zn,V3⟩:=hrel
  clear HS2
  obtain ⟨c0,c1,c2,c3,c4⟩:=(aa V3).cells (aa ha)
  by_cases hlt:k<L.length
  ·obtain ⟨g,rfl,hKg,hcg⟩:=aa HR k hlt
   have cg:=(aa V3).cell hKg hcg
   have hsk:=hsy k hlt
   have HDT:=hide (QP (q:=q0) hlt)
   have XY:=hide (Mq RY (aa HSS) n _ (aa HV k hlt) wr t' T' S' C' [] (L.getD k 0) (aa HN) hsk (Seg.refl _ _) (fun v hv=>by cases hv) (hide (aa V3).sz) (aa zn))
   rw [(aa V3).etb] at XY
   generalize L.getD k 0=c at *
   clear hcg
   go_wp2_with (first
    | (go_at_call 101;refine (aa XY).mono ?_;clear XY;rintro x w3 ⟨r,t3,T3,S3,C3,rfl,hbr,C_,mJ⟩;have oD:=F3.bec V3 C_ (aa mJ).fr;clear c0 c1 c2 c3 c4 cg;obtain ⟨c0,c1,c2,c3,c4⟩:=(aa oD).cells (aa ha);have nO:Hid (T3.length+nW G T3 (S3.map (·.1)++[])<=gW):=(by show _<=_;have h1:=(aa mJ).pay;have h2:=aa zn;omega);have hrl:r<=gW:=(by have h1:=hbr.lt;have h2:=aa nO;omega);have HM3:=hide (JD (Bd:=Bd) (n:=r) oD hrl (by have:=aa HML;omega));have XR:=hide hbr;clear hbr)
    | (go_at_call 100;refine (aa HM3).mono ?_;clear HM3;rintro x w4 ⟨rfl,Rm⟩))
   go_roundw
   case rel=>
    refine ⟨k+1,r,t3,T3,S3,C3,_,by omega,rfl,by go_num,?_,?_,nO,Rm⟩
    ·show Rp _ _ _
     rw [aa HDT];exact aa XR
    ·show _<=_
     have h1:=BU M r
     have h2:=aa HML
     omega
   case measure=>simp [intOf];omega
  ·obtain rfl:k=L.length:=by omega
   rw [List.take_length] at HN
   obtain ⟨x,hx⟩:=(aa V3).sz.ti.at (aa HN)
   have hxn:=(aa V3).sz.ti.null (aa HN) hx
   obtain ⟨g,d0,-,-,-,-,d5⟩:=(aa V3).sz.tab.at hx
   rw [(aa V3).etb] at d0
   rw [hxn] at d5
   have hlN:(n:Int)<(T'.length:Int):=by have:=(aa HN).lt;omega
   have hn0:(0:Int)<=(n:Int):=by omega
   clear HR HV HSS hx hxn
   go_wp2_with fail
   exact aa HQ _ (aa V3).below
end Go.Proofs.YtfolanohokflkaaGreatDoor
namespace Go.Proofs.YtfolanohokflkaaGreatDoor
open Go.RowKit
def BV (s:ByteArray):Nat->Nat->List Int
 | 0,_=>[]
 | b+1,i=>if i<s.size then ((Utf8.decode s i).1:Int)::BV s b (i+(Utf8.decode s i).2) else []
theorem En (s:ByteArray):∀ (b i:Nat) (acc:Array Value),Conv.runesFrom s b i acc=acc++((BV s b i).map (Value.int .i32)).toArray
 | 0,i,acc=>by simp [Conv.runesFrom,BV]
 | b+1,i,acc=>by
  rw [Conv.runesFrom,BV]
  split
  ·show Conv.runesFrom s b (i+(Utf8.decode s i).2) (acc.push (.int .i32 (Int.ofNat (Utf8.decode s i).1)))=_
   rw [En s b]
   simp
  ·simp
def sM (s:ByteArray):List Int:=BV s s.size 0
theorem QR (s:ByteArray):Conv.runesFrom s s.size 0 #[]=((sM s).map (Value.int .i32)).toArray:=by
 rw [En];simp [sM]
theorem JE (s:ByteArray):∀ b i,(BV s b i).length<=b
 | 0,_=>by simp [BV]
 | b+1,i=>by
  rw [BV]
  split
  ·have:=JE s b (i+(Utf8.decode s i).2);simp only [List.length_cons];omega
  ·simp
theorem JF (s:ByteArray):∀ b i,∀ c∈BV s b i,aC c=true
 | 0,_,_,h=>by simp [BV] at h
 | b+1,i,c,h=>by
  rw [BV] at h
  split at h
  ·rcases List.mem_cons.1 h with e | e
   ·rw [e];exact Al s i
   ·exact JF s b _ c e
  ·cases h
theorem Ob (s:ByteArray):∀ c∈sM s,aC c=true:=JF _ _ _
theorem F4 (s:ByteArray):(sM s).length<=s.size:=JE _ _ _
theorem UR (w:World) (u:ByteArray) (hl:(sM u).length<=1000):∃ cap w1,(convert 9 107 (.string u)).run Tryz.prog w=.ok (.slice (some ⟨w.heap.size,0,none⟩) (sM u).length cap) w1/\Below w.heap.size w w1/\w.heap.size<w1.heap.size/\∀ j,j<(sM u).length->w1.cell? ⟨w.heap.size,j,none⟩=some (.int .i32 ((sM u).getD j 0)):=by
 have hr:=QR u
 generalize sM u=cs at *
 have hsz:(Conv.runesFrom u u.size 0 #[]).size=cs.length:=by rw [hr,List.size_toArray,List.length_map]
 have h:=run_runes_of_string (P:=Tryz.prog) w 9 107 21 u Tryz.underlying9 Tryz.underlying107 Tryz.underlying21 (by rw [hsz];omega)
 rw [hsz,hr] at h
 refine ⟨_,_,h,?_,by rw [World.size_alloc];exact Nat.lt_succ_self _,fun j hj=>?_⟩
 ·have hb:=(Below.refl w.heap.size w).alloc (Nat.le_refl _) (.cells ((cs.map (Value.int .i32)).toArray++Array.replicate (grownCap w cs.length 0 21 - cs.length) (.int .i32 0)) 21)
  exact ⟨hb.os,hb.tape,hb.output,hb.size,hb.block⟩
 ·have hn:=heap_alloc_new w.drew (.cells ((cs.map (Value.int .i32)).toArray++Array.replicate (grownCap w cs.length 0 21 - cs.length) (.int .i32 0)) 21)
  have hn':(w.drew.alloc (.cells ((cs.map (Value.int .i32)).toArray++Array.replicate (grownCap w cs.length 0 21 - cs.length) (.int .i32 0)) 21)).heap[w.heap.size]? = _:=hn
  simp only [World.cell?,hn']
  simp only [Option.isSome_none,Bool.false_eq_true,if_false]
  rw [Array.getElem?_append_left (by simpa using hj)]
  simp [List.getD,hj]
end Go.Proofs.YtfolanohokflkaaGreatDoor
