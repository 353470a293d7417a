import Derived.Test.YtfolanohokflkaaGreatDoorTxtB
import Derived.Test.YtfolanohokflkaaGreatDoorNsB
import Derived.Test.YtfolanohokflkaaGreatDoorOgD
import Derived.Test.YtfolanohokflkaaGreatDoorLnR
import Derived.Deep.RegionHeld
import Derived.Defers
import Derived.Recover
import Derived.Test.YtfolanohokflkaaGreatDoorNdL
import Derived.Deep.QuietTactic
import Derived.BigQuiet
namespace Go.Proofs.YtfolanohokflkaaGreatDoor
open Go.RowKit
open Tm (eps)
def Dx (Bs:List Int) (w:World) (B:Int) (cs:List Int) (R:Nat->List Te->List (Value×Value)->Prop) (e:Ending) (w':World):Prop:=
 ∃ (sb mb cb cap n:Nat) (t:TB) (T:List Te) (S C:List (Value×Value)),e=.returned (.pointer (some ⟨sb,0,none⟩))/\Hid (oM Bs w' w' w.heap.size mb t.tb t T S C [] (fun k=>k=sb\/k=cb))/\Hid (Hm w' sb mb t.tb B n cs (some ⟨cb,0,none⟩) cap (fun k=>k=sb\/k=cb))/\Hid (R n T S)/\Hid (Below w.heap.size w w')
theorem Hz {w W:World} {t:TB} {T:List Te} {tb mb cb cap n:Nat} {B:Int} {cs:List Int} {R:Nat->List Te->List (Value×Value)->Prop} {Bs:List Int} {S C:List (Value×Value)} (htb:t.tb=tb) (hT:Hid (Sz Bs W t T S C)) (hM:Hid (Met W mb [])) (hr:Hid (∀ j,j<cs.length->W.cell? ⟨cb,j,none⟩=some (.int .i32 (cs.getD j 0)))) (hcb:cb<W.heap.size) (hcm:cb≠mb) (hct:¬ TF t cb) (hmt:¬ TF t mb) (hf:∀ k,TF t k->w.heap.size<=k) (hm0:w.heap.size<=mb) (hb:Hid (Below w.heap.size w W)) (hR:Hid (R n T S)) :
  Dx Bs w B cs R (.returned (.pointer (some ⟨W.heap.size,0,none⟩))) (W.alloc (.cells #[.pointer (some ⟨tb,0,none⟩),.int .i64 B,.map (some mb),.int .i64 n,.slice (some ⟨cb,0,none⟩) cs.length cap] 109)):=by
 subst htb
 have Wo:mb<W.heap.size:=(Array.getElem?_eq_some_iff.1 (aa hM).at_).1
 have hsz:(W.alloc (.cells #[.pointer (some ⟨t.tb,0,none⟩),.int .i64 B,.map (some mb),.int .i64 n,.slice (some ⟨cb,0,none⟩) cs.length cap] 109)).heap.size=W.heap.size+1:=by simp
 refine ⟨W.heap.size,mb,cb,cap,n,t,T,S,C,rfl,?_,?_,hR,(aa hb).alloc (aa hb).size _⟩
 ·refine ⟨aa (Sz.alloc hT _),(aa hM).move (Below.heap_alloc _ _ _ Wo),rfl,hmt,fun k hk=>?_,fun _ _=>rfl,hf,hm0,by rw [hsz];have:=(aa hb).size;omega,Below.refl _ _⟩
  rcases hk with rfl | rfl
  ·exact ⟨by rw [hsz];omega,fun h=>by have:=(aa hT).tab.foot h;omega,by omega⟩
  ·exact ⟨by rw [hsz];omega,hct,hcm⟩
 ·refine ⟨aA rfl 0 rfl,aA rfl 1 rfl,aA rfl 2 rfl,aA rfl 3 rfl,aA rfl 4 rfl,.inl rfl,fun k hk=>⟨cb,rfl,.inr rfl,?_⟩⟩
  rw [World.cell?_of_block (a:=⟨cb,k,none⟩) (Below.heap_alloc _ _ cb hcb)]
  exact aa hr k hk
set_option maxRecDepth 100000 in
set_option maxHeartbeats 4000000 in
theorem tq {w:World} {m:Nd} {u:ByteArray} {B:Int} {Bs:List Int} {R:Nat->List Te->List (Value×Value)->Prop} (hl:u.size<=60)
  (HO:Hid (∀ (X:World) (t:TB),Hid (Below w.heap.size w X)->Hid (bf X t nZ (ak nZ) [] [])->Calls Tryz.prog 52 #[.pointer (some ⟨t.tb,0,none⟩),gJ m] X fun e w'=>∃ (n:Nat) (t':TB) (T:List Te) (S C:List (Value×Value)),e=.returned (.int .i64 n)/\Hid (R n T S)/\Hid (Sz Bs w' t' T S C)/\Hid (bq t t' X w'))) :
  Calls Tryz.prog 43 #[gJ m,.string u,.int .i64 B] w (Dx Bs w B (mE u) R):=by
 have hcv:=fun w=>Xn w u (by have:=Ap u;omega)
 generalize mE u=cs at *
 obtain ⟨cap,hc⟩:=Classical.axiomOfChoice hcv
 obtain ⟨wc,hc⟩:=Classical.axiomOfChoice hc
 clear hcv
 have HCB:Hid (∀ w,Hid (Below w.heap.size w (wc w))):=fun w=>(hc w).2.1
 have HCR:Hid (∀ w:World,w.heap.size<(wc w).heap.size/\Hid (∀ j,j<cs.length->(wc w).cell? ⟨w.heap.size,j,none⟩=some (.int .i32 (cs.getD j 0)))):=fun w=>⟨(hc w).2.2.1,(hc w).2.2.2⟩
 have hcv:=fun w=>(hc w).1
 clear hc
 have HK:=hide (ax.new w m)
 have HA:Hid (Below w.heap.size w (w.alloc (aB m))):=(Below.refl _ _).alloc (Nat.le_refl _) _
 have hsz:(w.alloc (aB m)).heap.size=w.heap.size+1:=by simp
 have Tg:=hide hsz
 clear hsz
 generalize u=s at *
 simp only [gJ] at HO ⊢
 generalize hQ:Dx Bs w B cs R=QQ
 have HQ:=hide hQ
 clear hQ
 go_enter Tryz.func43,Tryz.ntmps43
 go_wp2_with (
  (go_at_call 58;refine (GK _).mono ?_;rintro x w1 ⟨t1,rfl,HT1,HB1,hF1⟩))
 have HF:Hid (∀ k,TF t1 k->w.heap.size+1<=k):=fun k hk=>by
  have h1:=hF1 k hk
  have h2:=aa Tg
  exact h2▸h1
 have hp:¬ TF t1 w.heap.size:=fun h=>by have:=aa HF _ h;omega
 have oz:Hid (NS w w1.drew w.heap.size m t1):=by
  have hb:Below w.heap.size w w1:=(aa HA).trans ((aa HB1).mono (aa HA).size)
  exact ⟨(show ax w1 w.heap.size m from aa (ax.under HB1 HK)),⟨hb.os,hb.tape,hb.output,hb.size,hb.block⟩,(aa HT1).drew 1⟩
 have HP:=hide hp
 clear HB1 hF1 HT1 HK hp Tg HA
 have HW:Hid (∀ (X:World) (t:TB),NS w X w.heap.size m t1->_):=fun X t h=>aa HO X t1 (hide h.bl) (hide h.tb)
 have HQ':=HQ
 obtain ⟨pb,hpb⟩:∃ pb,w.heap.size=pb:=⟨_,rfl⟩
 rw [hpb] at oz HP HW ⊢
 have HPB:=hide hpb
 clear hpb HQ' HO
 have HWC:Hid (∀ W,Hid (NS w W pb m t1)->_):=fun W h=>NS.cells (NS.under (aa HCB W) h)
 have HWD:Hid (∀ W,Hid (ax W pb m)->_):=fun W h=>ax.cells (aa (ax.under (aa HCB W) h))
 obtain ⟨c0,c1,c2,c3,c4,c5,c6⟩:=NS.cells oz
 go_region_held (fun w'=>w'.cell? ⟨pb,0,none⟩=some (.int .i64 m.sh)/\w'.cell? ⟨pb,1,none⟩=some (.slice m.pa m.pn m.pc)/\w'.cell? ⟨pb,2,none⟩=some (.string m.ss)/\w'.cell? ⟨pb,3,none⟩=some (.int .i64 m.le)/\w'.cell? ⟨pb,4,none⟩=some (.int .i64 m.mo)/\w'.cell? ⟨pb,5,none⟩=some (.int .i64 m.fa)/\w'.cell? ⟨pb,6,none⟩=some (.int .i64 m.sz))
  (first
   | go_keep
   | exact aa HWD _ lQ
   | exact aa HWC _ iI
   | exact aa HWC _ oz)
  (first
   | (go_at_call 71;refine (De _ B).mono ?_;rintro x w2 ⟨mb,rfl,Ik,hmb,HB2⟩;have HMB:=hide hmb;clear hmb;have iI:Hid (NS w w2 pb m t1):=(by first | exact NS.under HB2 oz | exact NS.under HB2 (NS.under (aa HCB _) oz));obtain ⟨d0,d1,d2,d3,d4,d5,d6⟩:=NS.cells iI)
   | (go_at_call 52;refine (aa HW _ t1 (by first | exact aa iI | exact aa (NS.under (aa HCB _) iI))).mono ?_;rintro x w3 ⟨n,t',T,S,C,rfl,HRn,HT3,vw⟩;have lQ:Hid (ax w3 pb m):=(by first | exact NS.after iI vw (aa HP) | exact NS.after (NS.under (aa HCB _) iI) vw (aa HP));obtain ⟨e0,e1,e2,e3,e4,e5,e6⟩:=ax.cells (aa lQ)))
 all_goals (clear c0 c1 c2 c3 c4 c5 c6 d0 d1 d2 d3 d4 d5 d6 e0 e1 e2 e3 e4 e5 e6)
 all_goals (go_wp2_with fail)
 all_goals rw [<-aa HQ]
 all_goals
  have LV:∀ k,TF t1 k->k<w1.heap.size:=fun k hk=>(aa oz).tb.foot hk
  have htb':t'.tb=t1.tb:=(aa vw).tb
  have hmb:=aa HMB
  have Wo:mb<w2.heap.size:=(Array.getElem?_eq_some_iff.1 (aa Ik).at_).1
  have hs2:=(aa HB2).size
  have hs3:=(aa vw).size
  have hw0:w.heap.size<=w1.heap.size:=(aa oz).bl.size
 ·have hmt:¬ TF t1 mb:=fun h=>by have h1:=LV _ h;have h2:w1.heap.size<=mb:=hmb;omega
  obtain ⟨h1,h2,h3,h4⟩:=Oq iI Ik hmt HF vw
  have hb4:=aa (aa HCB w3)
  have hlt3:mb<w3.heap.size:=by omega
  exact Hz htb' (Sz.below HT3 hb4) ((aa h1).move (hb4.block mb hlt3)) (aa HCR w3).2 (aa HCR w3).1 (by omega) (fun h=>by have:=(aa HT3).tab.foot h;omega) h2 h3 (by have h9:w1.heap.size<=mb:=hmb;omega) ((aa h4).trans (hb4.mono (aa h4).size)) HRn
 ·have hmt:¬ TF t1 mb:=fun h=>by have h1:=LV _ h;have h2:w1.heap.size<=mb:=hmb;omega
  have hb4:=aa (aa HCB w2)
  have hs2':w1.heap.size<=w2.heap.size:=hs2
  have hc2:=(aa HCR w2).1
  obtain ⟨h1,h2,h3,h4⟩:=Oq (NS.under (aa HCB w2) iI) ((aa Ik).move (hb4.block mb Wo)) hmt HF vw
  have hnt:¬ TF t1 w2.heap.size:=fun h=>by have:=LV _ h;omega
  refine Hz htb' HT3 h1 (hide fun j hj=>?_) (by omega) (by omega) (fun h=>?_) h2 h3 (by have h9:w1.heap.size<=mb:=hmb;omega) h4 HRn
  ·rw [World.cell?_of_block (a:=⟨w2.heap.size,j,none⟩) ((aa vw).block _ hc2 hnt)]
   exact aa (aa HCR w2).2 j hj
  ·rcases (aa vw).foot h with e | e
   ·exact hnt e
   ·omega
 ·have hc1:w1.heap.size<(wc w1.drew).heap.size:=(aa HCR w1.drew).1
  have hmt:¬ TF t1 mb:=fun h=>by have h1:=LV _ h;omega
  obtain ⟨h1,h2,h3,h4⟩:=Oq iI Ik hmt HF vw
  have hnt:¬ TF t1 w1.heap.size:=fun h=>by have:=LV _ h;omega
  refine Hz htb' HT3 h1 (hide fun j hj=>?_) (by omega) (by omega) (fun h=>?_) h2 h3 (by omega) h4 HRn
  ·rw [World.cell?_of_block (a:=⟨w1.heap.size,j,none⟩) ((aa vw).block _ (by show w1.heap.size<_;omega) hnt)]
   exact aS HB2 hc1 (aa (aa HCR w1.drew).2 j hj)
  ·rcases (aa vw).foot h with e | e
   ·exact hnt e
   ·omega
end Go.Proofs.YtfolanohokflkaaGreatDoor
namespace Go.Proofs.YtfolanohokflkaaGreatDoor
open Go.RowKit
open Tm (eps)
theorem Dy:∀ {l:List Pt},Br l->∀ p∈l,oZ p
 | [],_,_,hp=>by cases hp
 | a::r,h,p,hp=>by
  rw [Br] at h
  rcases List.mem_cons.1 hp with e | e
  ·rw [e];exact h.1
  ·exact Dy h.2 p e
theorem ac0 {B:List Int} (hB:B.length<=480) {p:Pt} (h:vI p):SP B p->oZ p->Fit B p:=by
 induction h with
 | set=>
  intro hs ho
  rw [oZ] at ho
  cases hs with
  | set hs=>exact .set ho hs (by have:=(gz ho hs).1;omega)
 | row _ h2 h3 ih=>
  intro hs ho
  rw [oZ] at ho
  cases hs with
  | row hs=>exact .row (fun p hp=>ih p hp (hs p hp) (Dy ho p hp)) h2 h3
 | aW _ h2 h3 h4 ih=>
  intro hs ho
  rw [oZ] at ho
  cases hs with
  | aW hs=>exact .aW (fun p hp=>ih p hp (hs p hp) (Dy ho p hp)) h2 h3 h4
 | not _ h2 ih=>
  intro hs ho
  rw [oZ] at ho
  cases hs with
  | not hs=>exact .not (ih hs ho) h2
 | rep _ h2 h3 h4 ih=>
  intro hs ho
  rw [oZ] at ho
  cases hs with
  | rep hs=>exact .rep (ih hs ho) h2 h3 h4
mutual
theorem QY:∀ p:Pt,cP p=30000000*zP p
 | .set _=>by rw [cP,zP]
 | .row l=>by rw [cP,zP,Ov l];omega
 | .aW _ l=>by rw [cP,zP,Ov l];omega
 | .not a=>by rw [cP,zP,QY a];omega
 | .rep a _ _=>by rw [cP,zP,QY a];omega
theorem Ov:∀ l:List Pt,cPs l=30000000*qQ l
 | []=>by rw [cPs,qQ]
 | p::r=>by rw [cPs,qQ,QY p,Ov r];omega
end
def TrR (q:Pt) (n:Nat) (T:List Te) (S:List (Value×Value)):Prop:=Rp T n (dL q)/\T.length<=3600000003/\S=[]
theorem LW {B:List Int} {q:Pt} {s:ByteArray} (hB:B.length<=480) (hsp:SP B q) (hq:aZ s=.ok q):Hid (∀ (W:World) (F:Nat->Prop) (m:Nd) (X:World) (t:TB),iN W F m q->Hid (Below W.heap.size W X)->Hid (bf X t nZ (ak nZ) [] [])->Calls Tryz.prog 52 #[.pointer (some ⟨t.tb,0,none⟩),gJ m] X fun e w'=>∃ (n:Nat) (t':TB) (T:List Te) (S C:List (Value×Value)),e=.returned (.int .i64 n)/\Hid (TrR q n T S)/\Hid (Sz B w' t' T S C)/\Hid (bq t t' X w')):=by
 intro W F m X t hn hb ht
 obtain ⟨f1,f2⟩:=TL hq
 have hf:=ac0 hB f1 hsp (pW hq)
 have hc:=QY q
 have hcl:cP q<=3600000000:=by omega
 refine (acV hB hn hf X t nZ [] [] (fun _=>False) (hide fun k hk hc=>?_) ⟨aa ht,ti0,⟨List.nodup_nil,fun p hp=>by cases hp⟩,⟨List.nodup_nil,fun p hp=>by cases hp⟩⟩ ?_).mono ?_
 ·obtain ⟨cur,hc⟩:=hc
  exact (aa hb).block k (Array.getElem?_eq_some_iff.1 hc).1
 ·show 3+cP q+100000<=1000000000000
  omega
 ·rintro e w' ⟨n,t',T',S',C',rfl,hr,hy,hx⟩
  have hl:=(aa hx).len
  have h3:nZ.length=3:=rfl
  refine ⟨n,t',T',S',C',rfl,hide ⟨hr,by omega,?_⟩,hy,hide (aa hx).fr⟩
  cases S' with
  | nil=>rfl
  | cons a r=>
   rcases (aa hx).new a (List.mem_cons_self ..) with e | ⟨_,_,e,_⟩
   ·cases e
   ·exact e.elim
theorem QZ (G:List Gx) (T:List Te) (K:List Value):nk G T K<=wV G:=by
 unfold nk wV
 induction G with
 | nil=>simp
 | cons g G ih=>
  simp only [List.map_cons,bC]
  split<;>omega
theorem aaL {t:Tm} {L:List Int} {k:Nat} (hk:k<L.length):VdL t L (aI t (L.take k)) (L.getD k 0):=by
 refine ⟨L.take k,L.drop (k+1),L.take k,?_,List.suffix_refl _,.top (.self _)⟩
 have e:L.getD k 0=L[k]:=by simp [List.getD,hk]
 rw [e,<-List.drop_eq_getElem_cons hk,List.take_append_drop]
set_option maxRecDepth 100000 in
set_option maxHeartbeats 4000000 in
theorem LX {w:World} {q:Pt} {s u:ByteArray} {k0 k1 k2 k3:Nat} {m:Nd} {Bd:Int} {F:Nat->Prop} (hq:aZ s=.ok q) (Ef:u.size<=60) (hB:((mE u).length:Int)<Bd) (h0:Hid (ax w k0 m)) (h1:w.cell? ⟨k1,0,none⟩=some (.string u)) (h2:w.cell? ⟨k2,0,none⟩=some (.int .i64 Bd)) (h3:w.cell? ⟨k3,0,none⟩=some (.bool false)) (h3z:w.frozen? ⟨k3,0,none⟩=false) (Yv:iN w F m q) :
  Calls Tryz.prog 66 #[.pointer (some ⟨k0,0,none⟩),.pointer (some ⟨k1,0,none⟩),.pointer (some ⟨k2,0,none⟩),.pointer (some ⟨k3,0,none⟩)] w fun e w'=>e=.returned (.tuple #[])/\∃ W,Hid (Below w.heap.size w W)/\w'=W.setCell ⟨k3,0,none⟩ (.bool (bZ (aI (dL q) (mE u)))):=by
 obtain ⟨Bs,Ep,hsp⟩:=zx hq
 have hu:(mE u).length<=60:=Nat.le_trans (Ap u) Ef
 have hg:=Hr u
 obtain ⟨hsum,hnz⟩:=Fa hq hu
 have hcn:Cn (dL q):=qA (pW hq)
 have hS:=Qb hcn hnz (L:=mE u) hg hu
 obtain ⟨tf,htf⟩:∃ tf,bZ (aI (dL q) (mE u))=tf:=⟨_,rfl⟩
 rw [htf]
 have HOF:=LW Ep hsp hq
 have HN:=hide (tq (w:=w) (m:=m) (u:=u) (B:=Bd) (Bs:=Bs) (R:=TrR q) Ef (hide fun X t hb ht=>aa HOF w F m X t Yv hb ht))
 have HS:Hid (∀ (e:Ending) (w1:World),Dx Bs w Bd (mE u) (TrR q) e w1->∃ sb:Nat,e=.returned (.pointer (some ⟨sb,0,none⟩))/\Hid (Below w.heap.size w w1)/\Hid (Calls Tryz.prog 67 #[.pointer (some ⟨sb,0,none⟩)] w1 fun e w'=>e=.returned (.bool tf)/\Hid (Below w.heap.size w1 w'))):=by
  rintro e w1 ⟨sb,mb,cb,cap,n,t,T,S,C,rfl,hs,ha,hr,hb⟩
  obtain ⟨r1,r2,r3⟩:=aa hr
  rw [<-htf]
  refine ⟨sb,rfl,hb,hide (Ed Ep hS hs ha hu (fun k hk=>hg _ (by simp [List.getD,hk])) r1 (fun k hk=>aaL hk) ?_ (by omega) (hide fun w' hw'=>⟨rfl,hw'⟩))⟩
  have:=QZ (Ca (dL q) (sG (mE u))) T (S.map (·.1)++[])
  show T.length+_<=1000000000000
  omega
 obtain ⟨c0,c1,c2,c3,c4,c5,c6⟩:=ax.cells (aa h0)
 have hk3:=World.block_lt_of_cell? w _ h3
 have H3:=hide h3
 have H3Z:=hide h3z
 clear h3 h3z HOF h0 htf hsum hnz hcn hS hsp hq Yv
 simp only [gJ] at HN
 clear hB hu hg
 generalize mE u=cs at *
 generalize u=sx at *
 go_enter Tryz.func66,Tryz.ntmps66
 go_wp2_with (first
  | (go_at_call 43;refine (aa HN).mono ?_;clear HN;intro ex w1 hx;obtain ⟨sb,rfl,HB1,HT1⟩:=aa HS ex w1 hx;clear hx HS)
  | (go_at_call 67;refine (aa HT1).mono ?_;clear HT1;rintro ex w2 ⟨rfl,HB2⟩;have HB3:Hid (Below w.heap.size w w2):=(aa HB1).trans (aa HB2);have q3:w2.cell? ⟨k3,0,none⟩=some (.bool false):=aS HB3 hk3 (aa H3);have z3:w2.frozen? ⟨k3,0,none⟩=false:=(by rw [World.frozen?_of_block (a:=⟨k3,0,none⟩) ((aa HB3).block _ hk3)];exact aa H3Z)))
 go_end0
 exact ⟨rfl,w2,HB3,rfl⟩
end Go.Proofs.YtfolanohokflkaaGreatDoor
namespace Go.Proofs.YtfolanohokflkaaGreatDoor
open Go.RowKit
open Tm (eps)
theorem ael {t:Tm} {L:List Int} {b k:Nat} (hk:b+k<L.length):VdL t L (aI t ((L.drop b).take k)) (L.getD (b+k) 0):=by
 refine ⟨L.take (b+k),L.drop (b+k+1),(L.drop b).take k,?_,?_,.top (.self _)⟩
 ·have e:L.getD (b+k) 0=L[b+k]:=by simp [List.getD,hk]
  rw [e,<-List.drop_eq_getElem_cons hk,List.take_append_drop]
 ·refine ⟨L.take b,?_⟩
  rw [<-List.take_add]
structure xJ (w w':World) (k4 k5:Nat) (o:Option (Nat×Nat)):Prop where
 os:w'.os=w.os
 tape:w'.tape=w.tape
 output:w'.output=w.output
 size:w.heap.size<=w'.heap.size
 block:∀ k,k<w.heap.size->k≠k4->k≠k5->w'.heap[k]? = w.heap[k]?
 c0:w'.cell? ⟨k4,0,none⟩=some (.int .i64 (((o.getD (0,0)).1:Nat):Int))
 c1:w'.cell? ⟨k4,1,none⟩=some (.int .i64 (((o.getD (0,0)).2:Nat):Int))
 c2:w'.cell? ⟨k5,0,none⟩=some (.bool o.isSome)
theorem aaM {w w2:World} {k4 k5:Nat} {o:Option (Nat×Nat)} {x0 y0 z0:Value} (hb:Below w.heap.size w w2) (m0:w2.cell? ⟨k4,0,none⟩=some x0) (m1:w2.cell? ⟨k4,1,none⟩=some y0) (n0:w2.cell? ⟨k5,0,none⟩=some z0) (h45:k4≠k5):xJ w (((w2.setCell ⟨k4,0,none⟩ (.int .i64 (((o.getD (0,0)).1:Nat):Int))).setCell ⟨k4,1,none⟩ (.int .i64 (((o.getD (0,0)).2:Nat):Int))).setCell ⟨k5,0,none⟩ (.bool o.isSome)) k4 k5 o:=by
 obtain ⟨p0,p1⟩:=Hq (x:=.int .i64 (((o.getD (0,0)).1:Nat):Int)) (y:=.int .i64 (((o.getD (0,0)).2:Nat):Int)) m0 m1
 have p2:((w2.setCell ⟨k4,0,none⟩ (.int .i64 (((o.getD (0,0)).1:Nat):Int))).setCell ⟨k4,1,none⟩ (.int .i64 (((o.getD (0,0)).2:Nat):Int))).cell? ⟨k5,0,none⟩=some z0:=by
  rw [World.cell?_of_block (a:=⟨k5,0,none⟩) ((Below.heap_setCell _ ⟨k4,1,none⟩ _ k5 (Ne.symm h45)).trans (Below.heap_setCell _ ⟨k4,0,none⟩ _ k5 (Ne.symm h45)))]
  exact n0
 refine ⟨hb.os,hb.tape,hb.output,by simpa [World.setCell] using hb.size,fun k hk h4 h5=>?_,?_,?_,World.cell?_setCell_same _ _ _ p2⟩
 ·exact (Below.heap_setCell _ ⟨k5,0,none⟩ _ k h5).trans ((Below.heap_setCell _ ⟨k4,1,none⟩ _ k h4).trans ((Below.heap_setCell _ ⟨k4,0,none⟩ _ k h4).trans (hb.block k hk)))
 ·rw [World.cell?_of_block (a:=⟨k4,0,none⟩) (Below.heap_setCell _ ⟨k5,0,none⟩ _ k4 h45)];exact p0
 ·rw [World.cell?_of_block (a:=⟨k4,1,none⟩) (Below.heap_setCell _ ⟨k5,0,none⟩ _ k4 h45)];exact p1
set_option maxRecDepth 100000 in
set_option maxHeartbeats 8000000 in
theorem TM {w:World} {q:Pt} {s u:ByteArray} {k0 k1 k2 k3 k4 k5 ix:Nat} {m:Nd} {Bd:Int} {F:Nat->Prop} (hq:aZ s=.ok q) (Ef:u.size<=60) (hno:∀ Bs,¬ Ovr Bs Bd (dL q)) (h0:Hid (ax w k0 m)) (h1:w.cell? ⟨k1,0,none⟩=some (.string u)) (h2:w.cell? ⟨k2,0,none⟩=some (.int .i64 Bd)) (h3:w.cell? ⟨k3,0,none⟩=some (.int .i64 (ix:Int))) (hix:ix<=(mE u).length)
  (h4:w.heap[k4]? = some (.cells #[.int .i64 0,.int .i64 0] 72)) (h5:w.heap[k5]? = some (.cells #[.bool false] 4)) (h45:k4≠k5) (hd:k3<k4/\k2<k3/\k1<k3/\k0<k3/\k4<k5) (Yv:iN w F m q) :
  Calls Tryz.prog 42 #[.pointer (some ⟨k0,0,none⟩),.pointer (some ⟨k1,0,none⟩),.pointer (some ⟨k2,0,none⟩),.pointer (some ⟨k3,0,none⟩),.pointer (some ⟨k4,0,none⟩),.pointer (some ⟨k5,0,none⟩)] w fun e w'=>e=.returned (.tuple #[])/\Hid (xJ w w' k4 k5 (Il (dL q) (mE u) ix)):=by
 obtain ⟨Bs,Ep,hsp⟩:=zx hq
 have hu:(mE u).length<=60:=Nat.le_trans (Ap u) Ef
 have hg:=Hr u
 obtain ⟨hsum,hnz⟩:=Fa hq hu
 have hcn:Cn (dL q):=qA (pW hq)
 have hS:=Qb hcn hnz (L:=mE u) hg hu
 obtain ⟨fr,hfr⟩:∃ fr,Il (dL q) (mE u) ix=fr:=⟨_,rfl⟩
 rw [hfr]
 have HOF:=LW Ep hsp hq
 have hbd:Below w.heap.size w (w.drewN 1):=⟨rfl,rfl,rfl,Nat.le_refl _,fun _ _=>rfl⟩
 have HN:=hide (tq (w:=w.drewN 1) (m:=m) (u:=u) (B:=Bd) (Bs:=Bs) (R:=TrR q) Ef (hide fun X t hb ht=>aa HOF (w.drewN 1) F m X t (Yv.move fun k hk _=>⟨(show (w.drewN 1).heap[k]? = w.heap[k]? from rfl),hk⟩) hb ht))
 have HS:Hid (∀ (e:Ending) (w1:World),Dx Bs (w.drewN 1) Bd (mE u) (TrR q) e w1->∃ sb:Nat,e=.returned (.pointer (some ⟨sb,0,none⟩))/\Hid (Below w.heap.size w w1)/\Hid (Calls Tryz.prog 44 #[.pointer (some ⟨sb,0,none⟩),.int .i64 (ix:Int)] w1 fun e w'=>e=.returned (.tuple #[.agg #[.int .i64 (((fr.getD (0,0)).1:Nat):Int),.int .i64 (((fr.getD (0,0)).2:Nat):Int)],.bool fr.isSome])/\Hid (Below w.heap.size w w'))):=by
  rintro e w1 ⟨sb,mb,cb,cap,n,t,T,S,C,rfl,hs,ha,hr,hb⟩
  obtain ⟨r1,r2,r3⟩:=aa hr
  have hb1:Below w.heap.size w w1:=hbd.trans (aa hb)
  refine ⟨sb,rfl,hide hb1,hide ((Tt Ep hS (hide ⟨t,T,S,C,[],hs,hide (fun n hn=>by cases hn),hide r1,hide ?_⟩) ha hu hix (fun k hk=>hg _ (by simp [List.getD,hk])) (fun b k hk=>ael hk)).mono ?_)⟩
  ·have:=QZ (Ca (dL q) (sG (mE u))) T (S.map (·.1)++[])
   show T.length+_<=1000000000000
   omega
  ·rintro e w' (⟨_,_,ho⟩ | ⟨he,hb'⟩)
   ·exact absurd (aa ho) (hno Bs)
   ·rw [hfr] at he
    exact ⟨he,hide (hb1.trans (aa hb'))⟩
 obtain ⟨c0,c1,c2,c3,c4,c5,c6⟩:=ax.cells (aa h0)
 have hl0:k0<w.heap.size:=(Array.getElem?_eq_some_iff.1 (aa h0)).1
 have hl1:=World.block_lt_of_cell? w _ h1
 have hl2:=World.block_lt_of_cell? w _ h2
 have hl3:=World.block_lt_of_cell? w _ h3
 have hl4:k4<w.heap.size:=(Array.getElem?_eq_some_iff.1 h4).1
 have hl5:k5<w.heap.size:=(Array.getElem?_eq_some_iff.1 h5).1
 have HL:Hid (k0<w.heap.size/\k1<w.heap.size/\k2<w.heap.size/\k3<w.heap.size/\k4<w.heap.size/\k5<w.heap.size):=⟨hl0,hl1,hl2,hl3,hl4,hl5⟩
 obtain ⟨d1,d2,d3,d4,d5⟩:=hd
 have n04:k0≠k4:=by omega
 have n40:k4≠k0:=by omega
 have n14:k1≠k4:=by omega
 have n41:k4≠k1:=by omega
 have n24:k2≠k4:=by omega
 have n42:k4≠k2:=by omega
 have n34:k3≠k4:=by omega
 have n43:k4≠k3:=by omega
 have n05:k0≠k5:=by omega
 have n50:k5≠k0:=by omega
 have n15:k1≠k5:=by omega
 have n51:k5≠k1:=by omega
 have n25:k2≠k5:=by omega
 have n52:k5≠k2:=by omega
 have n35:k3≠k5:=by omega
 have n53:k5≠k3:=by omega
 have n54:k5≠k4:=by omega
 clear d1 d2 d3 d4 d5
 have H0:=h0
 have H1:=hide h1
 have H2:=hide h2
 have H3:=hide h3
 have H4:=hide h4
 have H5:=hide h5
 clear HOF h0 hfr hsum hnz hcn hS hsp hq Yv hno hbd h4 h5 hl0 hl1 hl2 hl3 hl4 hl5
 simp only [gJ] at HN
 clear hu hg
 generalize mE u=cs at *
 generalize u=sx at *
 go_enter Tryz.func42,Tryz.ntmps42
 go_region_held3 (fun w'=>w'.cell? ⟨k0,0,none⟩=some (.int .i64 m.sh)/\w'.cell? ⟨k0,1,none⟩=some (.slice m.pa m.pn m.pc)/\w'.cell? ⟨k0,2,none⟩=some (.string m.ss)/\w'.cell? ⟨k0,3,none⟩=some (.int .i64 m.le)/\w'.cell? ⟨k0,4,none⟩=some (.int .i64 m.mo)/\w'.cell? ⟨k0,5,none⟩=some (.int .i64 m.fa)/\w'.cell? ⟨k0,6,none⟩=some (.int .i64 m.sz)/\w'.cell? ⟨k1,0,none⟩=some (.string sx)/\w'.cell? ⟨k2,0,none⟩=some (.int .i64 Bd)/\w'.cell? ⟨k3,0,none⟩=some (.int .i64 (ix:Int))) (go_keep)
  (first
   | (go_at_call 43;refine (aa HN).mono ?_;clear HN;intro ex w1 hx;obtain ⟨sb,rfl,HB1,HT1⟩:=aa HS ex w1 hx;clear hx HS;obtain ⟨e0,e1,e2,e3,e4,e5,e6⟩:=ax.cells (aa (ax.under HB1 H0));obtain ⟨hl0,hl1,hl2,hl3,hl4,hl5⟩:=aa HL;have g1:=aS HB1 hl1 (aa H1);have g2:=aS HB1 hl2 (aa H2);have g3:=aS HB1 hl3 (aa H3);clear hl0 hl1 hl2 hl3 hl4 hl5)
   | (go_at_call 44;refine (aa HT1).mono ?_;clear HT1;rintro ex w2 ⟨rfl,HB2⟩;obtain ⟨f0,f1,f2,f3,f4,f5,f6⟩:=ax.cells (aa (ax.under HB2 H0));obtain ⟨hl0,hl1,hl2,hl3,hl4,hl5⟩:=aa HL;have l1:=aS HB2 hl1 (aa H1);have l2:=aS HB2 hl2 (aa H2);have l3:=aS HB2 hl3 (aa H3);have B4:=((aa HB2).block _ hl4).trans (aa H4);have B5:=((aa HB2).block _ hl5).trans (aa H5);obtain ⟨m0,m1,mf⟩:=jS B4;have n0:w2.cell? ⟨k5,0,none⟩=some (.bool false):=(by simp [World.cell?,B5]);have nf:w2.frozen? ⟨k5,0,none⟩=false:=(by simp [World.frozen?,B5]);clear hl0 hl1 hl2 hl3 hl4 hl5))
 go_end0
 exact ⟨rfl,aaM (aa HB2) m0 m1 n0 h45⟩
end Go.Proofs.YtfolanohokflkaaGreatDoor
namespace Go.Proofs.YtfolanohokflkaaGreatDoor
open Go.RowKit
open Tm (eps)
set_option maxRecDepth 100000 in
set_option maxHeartbeats 4000000 in
theorem Dz {w:World} {q:Pt} {s0 u:ByteArray} {k0 k1 k2 k3:Nat} {m:Nd} {B:Int} {F:Nat->Prop} (hq:aZ s0=.ok q) (Ef:u.size<=60) (hB:((mE u).length:Int)<B) (h0:Hid (ax w k0 m)) (h1:w.cell? ⟨k1,0,none⟩=some (.string (u))) (h2:w.cell? ⟨k2,0,none⟩=some (.int .i64 B)) (h3:w.cell? ⟨k3,0,none⟩=some (.bool false)) (h3z:w.frozen? ⟨k3,0,none⟩=false) (Yv:iN w F m q) :
  Calls Tryz.prog 41 #[.func (.func 66) #[] #[.pointer (some ⟨k0,0,none⟩),.pointer (some ⟨k1,0,none⟩),.pointer (some ⟨k2,0,none⟩),.pointer (some ⟨k3,0,none⟩)]] w fun e w'=>e=.returned (.agg #[.int .i64 0,.int .i64 0])/\Hid (Up k3 w w')/\w'.cell? ⟨k3,0,none⟩=some (.bool (bZ (aI (dL q) (mE u)))):=by
 have hmf:∀ (fn:Fn) (first cap:Array Value) (w:World),(Instr.makeFunc fn first cap).run Tryz.prog w=.ok (.func fn first cap) w:=fun _ _ _ _=>rfl
 have hl1:=World.block_lt_of_cell? w _ h1
 have hl2:=World.block_lt_of_cell? w _ h2
 have hl3:=World.block_lt_of_cell? w _ h3
 have HA:Hid (Below w.heap.size w (w.alloc (.cells #[.int .i64 0,.int .i64 0] 74))):=(Below.refl _ _).alloc (Nat.le_refl _) _
 have HW:=hide (LX (w:=w.alloc (.cells #[.int .i64 0,.int .i64 0] 74)) hq Ef hB (ax.alloc h0 _) (aS HA hl1 h1) (aS HA hl2 h2) (aS HA hl3 h3) (by rw [World.frozen?_of_block (a:=⟨k3,0,none⟩) ((aa HA).block _ hl3)];exact h3z) (Yv.move fun k hk hl=>⟨(aa HA).block k hl,hk⟩))
 generalize bZ (aI (dL q) (mE u))=tf at HW ⊢
 have hnew:w.heap.size<(w.alloc (.cells #[.int .i64 0,.int .i64 0] 74)).heap.size:=by simp
 have c0:=bM w [.int .i64 0,.int .i64 0] 74 0 _ rfl
 have c1:=bM w [.int .i64 0,.int .i64 0] 74 1 _ rfl
 have hne:w.heap.size≠k3:=by have:k3<w.heap.size:=hl3;omega
 have HN:=hide hnew
 have C0:=hide c0
 have C1:=hide c1
 have H3:=hide h3
 have Yw:Hid (k3<w.heap.size):=hl3
 clear h0 h1 h2 h3 h3z hl1 hl2 hl3 hnew c0 c1
 go_enter_defers Tryz.func41,Tryz.ntmps41
 go_wp2_with (go_at_call 66;refine (aa HW).mono ?_;clear HW;rintro e w1 ⟨rfl,W,HB,ew⟩;have HU:Hid (Up k3 (w.alloc (.cells #[.int .i64 0,.int .i64 0] 74)) w1):=(by rw [ew];exact (Up.below (aa HB)).trans ⟨rfl,rfl,rfl,by simp [World.setCell],fun j _ hb=>Below.heap_setCell W ⟨k3,0,none⟩ _ j hb⟩);have Q3:Hid (w1.cell? ⟨k3,0,none⟩=some (.bool tf)):=(by rw [ew];exact World.cell?_setCell_same _ _ _ (aS HB (Nat.lt_trans (aa Yw) (aa HN)) (aS HA (aa Yw) (aa H3))));clear ew;have q0:w1.cell? ⟨w.heap.size,0,none⟩=some (.int .i64 0):=(by rw [World.cell?_of_block (a:=⟨w.heap.size,0,none⟩) ((aa HU).block _ (aa HN) hne)];exact aa C0);have q1:w1.cell? ⟨w.heap.size,1,none⟩=some (.int .i64 0):=(by rw [World.cell?_of_block (a:=⟨w.heap.size,1,none⟩) ((aa HU).block _ (aa HN) hne)];exact aa C1);have z0:w1.frozen? ⟨w.heap.size,0,none⟩=false:=(by rw [World.frozen?_of_block (a:=⟨w.heap.size,0,none⟩) ((aa HU).block _ (aa HN) hne)];exact World.frozen?_alloc_at _ _ _ _ rfl);have z1:w1.frozen? ⟨w.heap.size,1,none⟩=false:=(by rw [World.frozen?_of_block (a:=⟨w.heap.size,1,none⟩) ((aa HU).block _ (aa HN) hne)];exact World.frozen?_alloc_at _ _ _ _ rfl))
 have hl1:=World.block_lt_of_cell? w1 _ q0
 refine leaves_cons (f:=70) (args:=#[.pointer (some ⟨w.heap.size,0,none⟩)]) (by simp) (by simp [go_sem]) ?_
 refine (vG ⟨w.heap.size,0,none⟩ _).mono ?_
 rintro e u' w'' ⟨rfl,rfl,rfl⟩
 show Leaves _ _ _ _ [] .returning _
 refine ⟨.agg #[.int .i64 0,.int .i64 0],?_,rfl,?_,?_⟩
 ·simp [results,Tryz.results41,go_sem,q0,q1]
 ·exact Up.o7 (Up.o7 ((Up.below ((Below.refl _ _).alloc (Nat.le_refl _) _)).trans (aa HU)) _ _ _ (Nat.le_refl _)) _ _ _ (Nat.le_refl _)
 ·rw [World.cell?_of_block (a:=⟨k3,0,none⟩) ((Below.heap_setCell _ ⟨w.heap.size,1,none⟩ _ k3 (Ne.symm hne)).trans (Below.heap_setCell _ ⟨w.heap.size,0,none⟩ _ k3 (Ne.symm hne)))]
  exact aa Q3
set_option maxRecDepth 100000 in
set_option maxHeartbeats 4000000 in
theorem Ow {w:World} {p u:ByteArray} {B:Int} {z:Pn} (hq:aZ p=.ok z.1) (hs:p.size<=60) (Ef:u.size<=60) (ht:Hid (Lib.Utf8Tabs 4 5 w)) (hR:Hid (kX p=.ok z)) (hz:¬ 60<z.2) (hB:((mE u).length:Int)<B) (hB1:B<=200) :
  Calls Tryz.prog 37 #[.string p,.string (u),.int .i64 B] w fun e w'=>e=.returned (.tuple #[.bool (bZ (aI (dL z.1) (mE u))),.int .i64 0])/\Hid (Below w.heap.size w w'):=by
 obtain ⟨tf,htf⟩:∃ tf,bZ (aI (dL z.1) (mE u))=tf:=⟨_,rfl⟩
 rw [htf]
 obtain ⟨wb,hwb⟩:∃ wb,(w.alloc (.cells #[.string (u)] 9)).alloc (.cells #[.int .i64 B] 3)=wb:=⟨_,rfl⟩
 have s1:(w.alloc (.cells #[.string (u)] 9)).heap.size=w.heap.size+1:=by simp
 have Mj:Hid (Below w.heap.size w wb):=by
  rw [<-hwb]
  exact ((Below.refl _ _).alloc (Nat.le_refl _) _).alloc (by rw [s1];omega) _
 have htb:Hid (Lib.Utf8Tabs 4 5 wb):=by
  have hlt:=lT (aa ht)
  exact iM (aa ht) ((aa Mj).block 4 (by omega)) ((aa Mj).block 5 (by omega))
 have b1:wb.cell? ⟨w.heap.size,0,none⟩=some (.string (u)):=by
  rw [<-hwb,World.cell?_alloc_past _ _ _ (by show w.heap.size<_;rw [s1];omega)]
  exact aA rfl 0 rfl
 have b2:wb.cell? ⟨w.heap.size+1,0,none⟩=some (.int .i64 B):=by
  rw [<-hwb,<-s1]
  exact aA rfl 0 rfl
 have P_:=hide (xG (w:=wb) (u:=u) (B:=B) hs Ef htb hR hz (by omega) hB1)
 have hmf:∀ (fn:Fn) (first cap:Array Value) (w:World),(Instr.makeFunc fn first cap).run Tryz.prog w=.ok (.func fn first cap) w:=fun _ _ _ _=>rfl
 have HAM:Hid (∀ (w2:World) (m:Nd),Hid (Below wb.heap.size wb w2)->Hid (a_ w2 (fun k=>wb.heap.size<k) m z)->Calls Tryz.prog 41 #[.func (.func 66) #[] #[.pointer (some ⟨w2.heap.size,0,none⟩),.pointer (some ⟨w.heap.size,0,none⟩),.pointer (some ⟨w.heap.size+1,0,none⟩),.pointer (some ⟨w2.heap.size+1,0,none⟩)]] ((w2.alloc (aB m)).alloc (.cells #[.bool false] 4)) fun e w'=>e=.returned (.agg #[.int .i64 0,.int .i64 0])/\Hid (Below w.heap.size w w')/\w'.cell? ⟨w2.heap.size+1,0,none⟩=some (.bool tf)):=by
  intro w2 m hb hn
  have hw2:(w2.alloc (aB m)).heap.size=w2.heap.size+1:=by simp
  have hb0:Below w.heap.size w w2:=(aa Mj).trans ((aa hb).mono (aa Mj).size)
  have hA:Below w2.heap.size w2 ((w2.alloc (aB m)).alloc (.cells #[.bool false] 4)):=((Below.refl _ _).alloc (Nat.le_refl _) _).alloc (by rw [hw2];omega) _
  have hc3:((w2.alloc (aB m)).alloc (.cells #[.bool false] 4)).cell? ⟨w2.heap.size+1,0,none⟩=some (.bool false):=by rw [<-hw2];exact aA rfl 0 rfl
  have hz3:((w2.alloc (aB m)).alloc (.cells #[.bool false] 4)).frozen? ⟨w2.heap.size+1,0,none⟩=false:=by rw [<-hw2];exact World.frozen?_alloc_at _ _ _ _ rfl
  refine (Dz hq Ef hB (ax.alloc (hide (ax.new w2 m)) _) (aS (hide hA) (World.block_lt_of_cell? _ _ (aS hb (World.block_lt_of_cell? _ _ b1) b1)) (aS hb (World.block_lt_of_cell? _ _ b1) b1)) (aS (hide hA) (World.block_lt_of_cell? _ _ (aS hb (World.block_lt_of_cell? _ _ b2) b2)) (aS hb (World.block_lt_of_cell? _ _ b2) b2)) hc3 hz3 ((aa hn).2.move fun k hk hl=>⟨hA.block k hl,hk⟩)).mono ?_
  rintro ex w' ⟨e,hU,hc⟩
  rw [htf] at hc
  have hU':=aa hU
  have hAs:=hA.size
  refine ⟨e,⟨hU'.os.trans (hA.os.trans hb0.os),hU'.tape.trans (hA.tape.trans hb0.tape),hU'.output.trans (hA.output.trans hb0.output),Nat.le_trans hb0.size (Nat.le_trans hAs hU'.size),fun k hk=>?_⟩,hc⟩
  have h2:=hb0.size
  exact (hU'.block k (by omega) (by omega)).trans ((hA.block k (by omega)).trans (hb0.block k hk))
 clear ht htb hR hz hs Ef b1 b2 Mj s1 htf
 subst hwb
 go_enter Tryz.func37,Tryz.ntmps37
 go_wp2_with (first
  | (go_at_call 38;refine (aa P_).mono ?_;clear P_;simp only [gJ];rintro ex w2 ⟨m,rfl,HB2,iI⟩;have HA2:=hide (aa HAM w2 m HB2 iI);clear HAM)
  | (go_at_call 41;refine (aa HA2).mono ?_;clear HA2;rintro ex w3 ⟨rfl,HB3,q3⟩;have q4:=World.block_lt_of_cell? w3 _ q3))
 have g1:(w3.alloc (.cells #[.int .i64 0,.int .i64 0] 74)).cell? ⟨w2.heap.size+1,0,none⟩=some (.bool tf):=by rw [World.cell?_alloc_past _ _ _ q4];exact q3
 have g2:(w3.alloc (.cells #[.int .i64 0,.int .i64 0] 74)).cell? ⟨w3.heap.size,0,none⟩=some (.int .i64 0):=aA rfl 0 rfl
 have kL:Hid (Below w.heap.size w (w3.alloc (.cells #[.int .i64 0,.int .i64 0] 74))):=(aa HB3).alloc (aa HB3).size _
 generalize w3.alloc (.cells #[.int .i64 0,.int .i64 0] 74)=W4 at *
 go_quiet (fail)
 go_wp2_with fail
 have h:=aa kL
 refine bodyPost_ret (v:=.tuple #[.bool tf,.int .i64 0]) ?_ rfl ⟨rfl,⟨h.os,h.tape,h.output,h.size,h.block⟩⟩
 simp [results,Tryz.results37,go_sem]
end Go.Proofs.YtfolanohokflkaaGreatDoor
namespace Go.Proofs.YtfolanohokflkaaGreatDoor
open Go.RowKit
open Tm (eps)
section
variable {w w1 w2:World} {k4 k5 n:Nat} {o:Option (Nat×Nat)}
theorem xJ.after (h:xJ w1 w2 k4 k5 o) (hb:Below w.heap.size w w1):xJ w w2 k4 k5 o:=
 ⟨h.os.trans hb.os,h.tape.trans hb.tape,h.output.trans hb.output,Nat.le_trans hb.size h.size,fun k hk a b=>(h.block k (Nat.lt_of_lt_of_le hk hb.size) a b).trans (hb.block k hk),h.c0,h.c1,h.c2⟩
theorem xJ.o7 (h:xJ w w2 k4 k5 o) (j:Nat) (u:Value) (hn:w.heap.size<=n) (h4:k4≠n) (h5:k5≠n):xJ w (w2.setCell ⟨n,j,none⟩ u) k4 k5 o:=by
 have e:∀ k,k≠n->(w2.setCell ⟨n,j,none⟩ u).heap[k]? = w2.heap[k]? := fun k hk=>Below.heap_setCell w2 ⟨n,j,none⟩ u k hk
 refine ⟨h.os,h.tape,h.output,by have:=h.size;simpa [World.setCell] using this,fun k hk a b=>(e k (by omega)).trans (h.block k hk a b),?_,?_,?_⟩
 ·rw [World.cell?_of_block (a:=⟨k4,0,none⟩) (e k4 h4)];exact h.c0
 ·rw [World.cell?_of_block (a:=⟨k4,1,none⟩) (e k4 h4)];exact h.c1
 ·rw [World.cell?_of_block (a:=⟨k5,0,none⟩) (e k5 h5)];exact h.c2
end
set_option maxRecDepth 100000 in
set_option maxHeartbeats 4000000 in
theorem H9 {w:World} {q:Pt} {s u:ByteArray} {k0 k1 k2 k3 k4 k5 ix:Nat} {m:Nd} {Bd:Int} {F:Nat->Prop} (hq:aZ s=.ok q) (Ef:u.size<=60) (hno:∀ Bs,¬ Ovr Bs Bd (dL q)) (h0:Hid (ax w k0 m)) (h1:w.cell? ⟨k1,0,none⟩=some (.string u)) (h2:w.cell? ⟨k2,0,none⟩=some (.int .i64 Bd)) (h3:w.cell? ⟨k3,0,none⟩=some (.int .i64 (ix:Int))) (hix:ix<=(mE u).length)
  (h4:w.heap[k4]? = some (.cells #[.int .i64 0,.int .i64 0] 72)) (h5:w.heap[k5]? = some (.cells #[.bool false] 4)) (hd:k3<k4/\k2<k3/\k1<k3/\k0<k3/\k4<k5) (Yv:iN w F m q) :
  Calls Tryz.prog 41 #[.func (.func 42) #[] #[.pointer (some ⟨k0,0,none⟩),.pointer (some ⟨k1,0,none⟩),.pointer (some ⟨k2,0,none⟩),.pointer (some ⟨k3,0,none⟩),.pointer (some ⟨k4,0,none⟩),.pointer (some ⟨k5,0,none⟩)]] w fun e w'=>e=.returned (.agg #[.int .i64 0,.int .i64 0])/\Hid (xJ w w' k4 k5 (Il (dL q) (mE u) ix)):=by
 have hmf:∀ (fn:Fn) (first cap:Array Value) (w:World),(Instr.makeFunc fn first cap).run Tryz.prog w=.ok (.func fn first cap) w:=fun _ _ _ _=>rfl
 have hl1:=World.block_lt_of_cell? w _ h1
 have hl2:=World.block_lt_of_cell? w _ h2
 have hl3:=World.block_lt_of_cell? w _ h3
 have hl4:k4<w.heap.size:=(Array.getElem?_eq_some_iff.1 h4).1
 have hl5:k5<w.heap.size:=(Array.getElem?_eq_some_iff.1 h5).1
 have hA:Below w.heap.size w (w.alloc (.cells #[.int .i64 0,.int .i64 0] 74)):=(Below.refl _ _).alloc (Nat.le_refl _) _
 have HA:Hid (Below w.heap.size w (w.alloc (.cells #[.int .i64 0,.int .i64 0] 74))):=hA
 have HW:=hide (TM (w:=w.alloc (.cells #[.int .i64 0,.int .i64 0] 74)) hq Ef hno (ax.alloc h0 _) (aS HA hl1 h1) (aS HA hl2 h2) (aS HA hl3 h3) hix ((hA.block _ hl4).trans h4) ((hA.block _ hl5).trans h5) (by omega) hd (Yv.move fun k hk hl=>⟨hA.block k hl,hk⟩))
 generalize Il (dL q) (mE u) ix=fr at HW ⊢
 have hnew:w.heap.size<(w.alloc (.cells #[.int .i64 0,.int .i64 0] 74)).heap.size:=by simp
 have c0:=bM w [.int .i64 0,.int .i64 0] 74 0 _ rfl
 have c1:=bM w [.int .i64 0,.int .i64 0] 74 1 _ rfl
 have TN:w.heap.size≠k4:=by omega
 have hne5:w.heap.size≠k5:=by omega
 have HN:=hide hnew
 have C0:=hide c0
 have C1:=hide c1
 clear h0 h1 h2 h3 h4 h5 hl1 hl2 hl3 hl4 hl5 hnew c0 c1 Yv hq hno hix hd hA
 go_enter_defers Tryz.func41,Tryz.ntmps41
 go_wp2_with (go_at_call 42;refine (aa HW).mono ?_;clear HW;rintro e w1 ⟨rfl,HU⟩;have q0:w1.cell? ⟨w.heap.size,0,none⟩=some (.int .i64 0):=(by rw [World.cell?_of_block (a:=⟨w.heap.size,0,none⟩) ((aa HU).block _ (aa HN) TN hne5)];exact aa C0);have q1:w1.cell? ⟨w.heap.size,1,none⟩=some (.int .i64 0):=(by rw [World.cell?_of_block (a:=⟨w.heap.size,1,none⟩) ((aa HU).block _ (aa HN) TN hne5)];exact aa C1);have z0:w1.frozen? ⟨w.heap.size,0,none⟩=false:=(by rw [World.frozen?_of_block (a:=⟨w.heap.size,0,none⟩) ((aa HU).block _ (aa HN) TN hne5)];exact World.frozen?_alloc_at _ _ _ _ rfl);have z1:w1.frozen? ⟨w.heap.size,1,none⟩=false:=(by rw [World.frozen?_of_block (a:=⟨w.heap.size,1,none⟩) ((aa HU).block _ (aa HN) TN hne5)];exact World.frozen?_alloc_at _ _ _ _ rfl))
 have hl1:=World.block_lt_of_cell? w1 _ q0
 refine leaves_cons (f:=70) (args:=#[.pointer (some ⟨w.heap.size,0,none⟩)]) (by simp) (by simp [go_sem]) ?_
 refine (vG ⟨w.heap.size,0,none⟩ _).mono ?_
 rintro e u' w'' ⟨rfl,rfl,rfl⟩
 show Leaves _ _ _ _ [] .returning _
 refine ⟨.agg #[.int .i64 0,.int .i64 0],?_,rfl,?_⟩
 ·simp [results,Tryz.results41,go_sem,q0,q1]
 ·exact xJ.o7 (xJ.o7 ((aa HU).after (aa HA)) _ _ (Nat.le_refl _) (Ne.symm TN) (Ne.symm hne5)) _ _ (Nat.le_refl _) (Ne.symm TN) (Ne.symm hne5)
end Go.Proofs.YtfolanohokflkaaGreatDoor
namespace Go.Proofs.YtfolanohokflkaaGreatDoor
open Go.RowKit
open Tm (eps)
theorem DC (s:ByteArray):mE s=vals (af s 0):=by
 have key:∀ (d p:Nat),s.size - p<=d->p<=s.size->yK s d p=vals (af s p):=by
  intro d
  induction d with
  | zero=>intro p h hp;rw [dA s p (by omega)];rfl
  | succ d ih=>
   intro p h hp
   rw [yK]
   by_cases q:p<s.size
   ·have hw:=dz s p q
    rw [if_pos q,dn s p q,ih _ (by omega) hw.2]
    rfl
   ·rw [if_neg q,dA s p (by omega)]
    rfl
 exact key s.size 0 (by omega) (Nat.zero_le _)
theorem qj (s:ByteArray):(pts s).length=(mE s).length+1:=by rw [DC,VU,xn]
def Ox (s:ByteArray) (x:Nat):Nat:=(pts s).countP (fun y=>decide (y<x))
theorem LY:∀ {l:List Nat} {x:Nat},l.Pairwise (· < ·)->x∈l->∃ h:l.countP (fun y=>decide (y<x))<l.length,l[l.countP (fun y=>decide (y<x))]=x
 | [],x,_,hx=>by cases hx
 | a::l,x,hp,hx=>by
  rw [List.pairwise_cons] at hp
  by_cases e:a=x
  ·subst e
   have h0:(a::l).countP (fun y=>decide (y<a))=0:=by
    rw [List.countP_eq_zero]
    intro y hy
    rcases List.mem_cons.1 hy with q | q
    ·subst q;simp
    ·have:=hp.1 y q;simp;omega
   rw [h0]
   exact ⟨by simp,rfl⟩
  ·have hx':x∈l:=by
    rcases List.mem_cons.1 hx with q | q
    ·exact absurd q.symm e
    ·exact q
   have hlt:=hp.1 x hx'
   obtain ⟨h1,h2⟩:=LY hp.2 hx'
   have ec:(a::l).countP (fun y=>decide (y<x))=l.countP (fun y=>decide (y<x))+1:=by
    rw [List.countP_cons_of_pos (by simpa using hlt)]
   rw [ec]
   exact ⟨by simp only [List.length_cons];omega,by rw [List.getElem_cons_succ];exact h2⟩
theorem H_ (s:ByteArray):(pts s).Pairwise (· < ·):=vC s.size 0 (by omega) (Nat.zero_le _)
theorem XU {s:ByteArray} {x:Nat} (h:x∈pts s):∃ hl:Ox s x<(pts s).length,(pts s)[Ox s x]=x:=LY (H_ s) h
theorem TP (l:List Nat) (x:Nat):(ay l).countP (fun y=>decide (y<(x:Int)))=l.countP (fun y=>decide (y<x)):=by
 unfold ay
 rw [List.countP_map]
 congr 1
 funext y
 simp [Function.comp]
theorem Ia (l:List Nat) (x:Nat):(ay l).contains (x:Int)=decide (x∈l):=by
 unfold ay
 rw [Bool.eq_iff_iff]
 simp
 constructor
 ·rintro ⟨a,h,e⟩
  have:a=x:=by omega
  exact this▸h
 ·exact fun h=>⟨x,h,rfl⟩
theorem ac1 {l:List Nat} (h:l.Pairwise (· < ·)):(ay l).Pairwise (·<=·):=by
 unfold ay
 rw [List.pairwise_map]
 exact h.imp fun {a b} q=>by show (a:Int)<=b;omega
theorem DD {w:World} {g cap B x:Nat} {s:ByteArray} (hs:s.size<=60) (ho:Hid (w.ownsRow B 3 1 (.slice (some ⟨g,0,none⟩) (pts s).length cap) (pts s).length (ints (ay (pts s))))) :
  Calls Tryz.prog 40 #[.slice (some ⟨g,0,none⟩) (pts s).length cap,.int .i64 (x:Int)] w fun e w'=>e=.returned (.tuple #[.int .i64 ((Ox s x:Nat):Int),.bool (decide (x∈pts s))])/\∃ q,w'=w.drewN q:=by
 have hf:=lV s
 have hl:(ay (pts s)).length=(pts s).length:=by simp [ay]
 have h:=Tryz.slices_BinarySearch_int g 0 (pts s).length cap (ay (pts s)) (x:Int) w (by rw [hl];exact Nat.le_refl _) (by omega) (fun j hj=>by
  rw [hl] at hj
  have:=qg (aa ho) hj
  rw [Nat.zero_add,this]
  simp [ay,List.getD,hj]) (by rw [<-hl,List.take_length];exact ac1 (H_ s))
 rw [<-hl,List.take_length,hl,TP,Ia] at h
 exact h
def fdV (s:ByteArray) (x:Nat) (o:Option (Nat×Nat)):Value:=if x∈pts s then (match o with
  | none=>.tuple #[.int .i64 (-1),.int .i64 (-1),.int .i64 0]
  | some (b,e)=>.tuple #[.int .i64 (((pts s).getD b 0:Nat):Int),.int .i64 (((pts s).getD e 0:Nat):Int),.int .i64 0])
 else .tuple #[.int .i64 0,.int .i64 0,.int .i64 6]
set_option maxRecDepth 100000 in
set_option maxHeartbeats 8000000 in
theorem aaN {w:World} {p u:ByteArray} {z:Pn} {x:Nat} (hq:aZ p=.ok z.1) (hs:p.size<=60) (Ef:u.size<=60) (hno:∀ Bs,¬ Ovr Bs 200 (dL z.1)) (ht:Hid (Lib.Utf8Tabs 4 5 w)) (hR:Hid (kX p=.ok z)) (hz:¬ 60<z.2) (hfr:∀ b e,Il (dL z.1) (mE u) (Ox u x)=some (b,e)->b<(pts u).length/\e<(pts u).length) :
  Calls Tryz.prog 25 #[.string p,.string u,.int .i64 (x:Int),.int .i64 200] w fun e w'=>e=.returned (fdV u x (Il (dL z.1) (mE u) (Ox u x)))/\Hid (Below w.heap.size w w'):=by
 have s1:(w.alloc (.cells #[.string u] 9)).heap.size=w.heap.size+1:=by simp
 obtain ⟨wb,hwb⟩:∃ wb,(w.alloc (.cells #[.string u] 9)).alloc (.cells #[.int .i64 200] 3)=wb:=⟨_,rfl⟩
 have Mj:Hid (Below w.heap.size w wb):=by
  rw [<-hwb]
  exact ((Below.refl _ _).alloc (Nat.le_refl _) _).alloc (by rw [s1];omega) _
 have htb:Hid (Lib.Utf8Tabs 4 5 wb):=dB ht Mj
 have b1:wb.cell? ⟨w.heap.size,0,none⟩=some (.string u):=by
  rw [<-hwb,World.cell?_alloc_past _ _ _ (by show w.heap.size<_;rw [s1];omega)]
  exact aA rfl 0 rfl
 have b2:wb.cell? ⟨w.heap.size+1,0,none⟩=some (.int .i64 200):=by
  rw [<-hwb,<-s1]
  exact aA rfl 0 rfl
 have P_:=hide (xG (w:=wb) (u:=u) (B:=200) hs Ef htb hR hz (by omega) (by omega))
 have Z7:=hide (fun W=>Nr u W Ef)
 have hmf:∀ (fn:Fn) (first cap:Array Value) (w:World),(Instr.makeFunc fn first cap).run Tryz.prog w=.ok (.func fn first cap) w:=fun _ _ _ _=>rfl
 by_cases hx:x∈pts u
 ·obtain ⟨hil,hie⟩:=XU hx
  have hix:Ox u x<=(mE u).length:=by have:=qj u;omega
  have KY:Hid (∀ (W:World) (g cap B:Nat),Hid (W.ownsRow B 3 1 (.slice (some ⟨g,0,none⟩) (pts u).length cap) (pts u).length (ints (ay (pts u))))->Calls Tryz.prog 40 #[.slice (some ⟨g,0,none⟩) (pts u).length cap,.int .i64 (x:Int)] W fun e w'=>e=.returned (.tuple #[.int .i64 ((Ox u x:Nat):Int),.bool true])/\∃ q,w'=W.drewN q):=fun W g cap B ho=>by
   have h:=DD (x:=x) Ef ho
   rw [decide_eq_true hx] at h
   exact h
  unfold fdV
  rw [if_pos hx]
  generalize ae0:Ox u x=ix at *
  have HAF:Hid (∀ (w2 w4:World) (m:Nd),Hid (Below wb.heap.size wb w2)->Hid (a_ w2 (fun k=>wb.heap.size<k) m z)->Hid (Below (w2.alloc (aB m)).heap.size (w2.alloc (aB m)) w4)->Calls Tryz.prog 41 #[.func (.func 42) #[] #[.pointer (some ⟨w2.heap.size,0,none⟩),.pointer (some ⟨w.heap.size,0,none⟩),.pointer (some ⟨w.heap.size+1,0,none⟩),.pointer (some ⟨w4.heap.size,0,none⟩),.pointer (some ⟨w4.heap.size+1,0,none⟩),.pointer (some ⟨w4.heap.size+1+1,0,none⟩)]] (((w4.alloc (.cells #[.int .i64 (ix:Int)] 3)).alloc (.cells #[.int .i64 0,.int .i64 0] 72)).alloc (.cells #[.bool false] 4)) fun e w'=>e=.returned (.agg #[.int .i64 0,.int .i64 0])/\Hid (xJ w4 w' (w4.heap.size+1) (w4.heap.size+1+1) (Il (dL z.1) (mE u) ix))):=by
   intro w2 w4 m hb hn hb4
   have t1:(w4.alloc (.cells #[.int .i64 (ix:Int)] 3)).heap.size=w4.heap.size+1:=by simp
   have t2:((w4.alloc (.cells #[.int .i64 (ix:Int)] 3)).alloc (.cells #[.int .i64 0,.int .i64 0] 72)).heap.size=w4.heap.size+1+1:=by simp
   have hq0:=Below.refl w4.heap.size w4
   have hA:Below w4.heap.size w4 (((w4.alloc (.cells #[.int .i64 (ix:Int)] 3)).alloc (.cells #[.int .i64 0,.int .i64 0] 72)).alloc (.cells #[.bool false] 4)):=((hq0.alloc (Nat.le_refl _) _).alloc (by rw [t1];omega) _).alloc (by rw [t2];omega) _
   have c3:(((w4.alloc (.cells #[.int .i64 (ix:Int)] 3)).alloc (.cells #[.int .i64 0,.int .i64 0] 72)).alloc (.cells #[.bool false] 4)).cell? ⟨w4.heap.size,0,none⟩=some (.int .i64 (ix:Int)):=by
    rw [World.cell?_alloc_past _ _ _ (by show w4.heap.size<_;rw [t2];omega),World.cell?_alloc_past _ _ _ (by show w4.heap.size<_;rw [t1];omega)]
    exact aA rfl 0 rfl
   have c4:(((w4.alloc (.cells #[.int .i64 (ix:Int)] 3)).alloc (.cells #[.int .i64 0,.int .i64 0] 72)).alloc (.cells #[.bool false] 4)).heap[w4.heap.size+1]? = some (.cells #[.int .i64 0,.int .i64 0] 72):=by
    rw [Below.heap_alloc _ _ _ (by rw [t2];omega),<-t1]
    exact heap_alloc_new _ _
   have c5:(((w4.alloc (.cells #[.int .i64 (ix:Int)] 3)).alloc (.cells #[.int .i64 0,.int .i64 0] 72)).alloc (.cells #[.bool false] 4)).heap[w4.heap.size+1+1]? = some (.cells #[.bool false] 4):=by
    rw [<-t2]
    exact heap_alloc_new _ _
   generalize ((w4.alloc (.cells #[.int .i64 (ix:Int)] 3)).alloc (.cells #[.int .i64 0,.int .i64 0] 72)).alloc (.cells #[.bool false] 4)=A at *
   have t3:(w2.alloc (aB m)).heap.size=w2.heap.size+1:=by simp
   have TQ:Below w2.heap.size w2 w4:=((Below.refl _ _).alloc (Nat.le_refl _) _).trans ((aa hb4).mono (by rw [t3];omega))
   have h24:=TQ.size
   have aem:Below w2.heap.size w2 A:=TQ.trans (hA.mono h24)
   have hbA:Below wb.heap.size wb A:=(aa hb).trans (aem.mono (aa hb).size)
   have h4s:=(aa hb4).size
   have hn0:ax A w2.heap.size m:=by
    have e1:=(aa hb4).block w2.heap.size (by rw [t3];omega)
    exact (hA.block _ (by rw [t3] at h4s;omega)).trans (e1.trans (ax.new w2 m))
   have ae2:=World.block_lt_of_cell? _ _ b1
   have aen:=World.block_lt_of_cell? _ _ b2
   have hw2:=(aa hb).size
   refine (H9 (w:=A) (k0:=w2.heap.size) (k1:=w.heap.size) (k2:=w.heap.size+1) (k3:=w4.heap.size) (k4:=w4.heap.size+1) (k5:=w4.heap.size+1+1) (m:=m) (Bd:=200) hq Ef hno (hide hn0) (aS (hide hbA) ae2 b1) (aS (hide hbA) aen b2) c3 hix c4 c5 ?_ ((aa hn).2.move fun k hk hl=>⟨aem.block k hl,hk⟩)).mono ?_
   ·have q1:w.heap.size+1<wb.heap.size:=aen
    rw [t3] at h4s
    refine ⟨by omega,by omega,by omega,by omega,by omega⟩
   ·rintro e w' ⟨he,hu⟩
    exact ⟨he,hide ((aa hu).after hA)⟩
  have HTX:Hid (∀ (w2:World) (m:Nd),Hid (Below wb.heap.size wb w2)->(w2.alloc (aB m)).cell? ⟨w.heap.size,0,none⟩=some (.string u)):=fun w2 m h2=>by
   have hl:=World.block_lt_of_cell? _ _ b1
   have h1:=aS h2 hl b1
   rw [World.cell?_alloc_past _ _ _ (World.block_lt_of_cell? _ _ h1)]
   exact h1
  have HBD:Hid (∀ b e,Il (dL z.1) (mE u) ix=some (b,e)->b<(pts u).length/\e<(pts u).length):=hfr
  generalize Il (dL z.1) (mE u) ix=fr at *
  have hpf:=lV u
  clear ht htb hR hz hs b1 b2 s1 hq hno hfr hil hie hix ae0 hx
  have HRW:Hid (∀ (W4 W6:World) (B g cap n0:Nat) (o:Option (Nat×Nat)),Hid (W4.ownsRow B 3 1 (.slice (some ⟨g,0,none⟩) (pts u).length cap) (pts u).length (ints (ay (pts u))))->Hid (xJ W4 W6 (W4.heap.size+1) (W4.heap.size+1+1) o)->∀ j,j<(pts u).length->W6.cell? ⟨g,j,none⟩=some (.int .i64 (((pts u).getD j 0:Nat):Int))):=fun W4 W6 B g cap n0 o ho hu j hj=>by
   have h1:=qg (aa ho) hj
   have hl:g<W4.heap.size:=World.block_lt_of_cell? _ _ h1
   rw [World.cell?_of_block (a:=⟨g,j,none⟩) ((aa hu).block g hl (by omega) (by omega)),h1]
   simp [List.getD,hj]
  have Lb:Hid (∀ (w2 W4 W6:World) (m:Nd) (o:Option (Nat×Nat)),Hid (Below wb.heap.size wb w2)->Hid (Below (w2.alloc (aB m)).heap.size (w2.alloc (aB m)) W4)->Hid (xJ W4 W6 (W4.heap.size+1) (W4.heap.size+1+1) o)->Below w.heap.size w W6):=fun w2 W4 W6 m o h2 h4 h6=>by
   have t3:(w2.alloc (aB m)).heap.size=w2.heap.size+1:=by simp
   have TQ:Below w2.heap.size w2 W4:=((Below.refl _ _).alloc (Nat.le_refl _) _).trans ((aa h4).mono (by rw [t3];omega))
   have hbw:Below w.heap.size w W4:=(aa Mj).trans (((aa h2).trans (TQ.mono (aa h2).size)).mono (aa Mj).size)
   have g:=aa h6
   have q:=hbw.size
   exact ⟨g.os.trans hbw.os,g.tape.trans hbw.tape,g.output.trans hbw.output,Nat.le_trans q g.size,fun k hk=>(g.block k (by omega) (by omega) (by omega)).trans (hbw.block k hk)⟩
  clear Mj Ef
  subst hwb
  cases fr with
  | none=>
   go_enter Tryz.func25,Tryz.ntmps25
   go_wp2_with (first
    | (go_at_call 38;refine (aa P_).mono ?_;clear P_;simp only [gJ];rintro ex w2 ⟨m,rfl,HB2,iI⟩;have tx2:=aa HTX w2 m HB2;clear HTX)
    | (go_at_call 39;refine (aa Z7 _).mono ?_;clear Z7;rintro ex w4 ⟨g,cap,rfl,kL,yA⟩)
    | (go_at_call 40;refine (aa KY w4 g cap _ yA).mono ?_;clear KY;rintro ex w5 ⟨rfl,qd,Yx⟩;have jI:Hid (Below (w2.alloc (aB m)).heap.size (w2.alloc (aB m)) w5):=(by rw [Yx];exact ⟨(aa kL).os,(aa kL).tape,(aa kL).output,(aa kL).size,(aa kL).block⟩);have o_:Hid (w5.ownsRow (w2.alloc (aB m)).heap.size 3 1 (.slice (some ⟨g,0,none⟩) (pts u).length cap) (pts u).length (ints (ay (pts u)))):=(by rw [Yx];exact yA);clear Yx)
    | (go_at_call 41;refine (aa HAF w2 w5 m HB2 iI jI).mono ?_;clear HAF;rintro ex w6 ⟨rfl,Yy⟩;have p2:=(aa Yy).c2;have hl2:=World.block_lt_of_cell? _ _ p2))
   go_ret3
   have hb6:=aa Lb w2 w5 w6 m none HB2 jI Yy
   exact ⟨rfl,hb6.alloc hb6.size _⟩
  | some be=>
   obtain ⟨b,e⟩:=be
   obtain ⟨hbl,hel⟩:=aa HBD b e rfl
   have hbI:(b:Int)<((pts u).length:Int):=by omega
   have heI:(e:Int)<((pts u).length:Int):=by omega
   have hb0:(0:Int)<=(b:Int):=by omega
   have he0:(0:Int)<=(e:Int):=by omega
   dsimp only
   obtain ⟨xb,hxb⟩:∃ xb,(pts u).getD b 0=xb:=⟨_,rfl⟩
   obtain ⟨xe,hxe⟩:∃ xe,(pts u).getD e 0=xe:=⟨_,rfl⟩
   rw [hxb,hxe]
   have HXB:=hide hxb
   have HXE:=hide hxe
   clear hxb hxe
   go_enter Tryz.func25,Tryz.ntmps25
   go_wp2_with (first
    | (go_at_call 38;refine (aa P_).mono ?_;clear P_;simp only [gJ];rintro ex w2 ⟨m,rfl,HB2,iI⟩;have tx2:=aa HTX w2 m HB2;clear HTX)
    | (go_at_call 39;refine (aa Z7 _).mono ?_;clear Z7;rintro ex w4 ⟨g,cap,rfl,kL,yA⟩)
    | (go_at_call 40;refine (aa KY w4 g cap _ yA).mono ?_;clear KY;rintro ex w5 ⟨rfl,qd,Yx⟩;have jI:Hid (Below (w2.alloc (aB m)).heap.size (w2.alloc (aB m)) w5):=(by rw [Yx];exact ⟨(aa kL).os,(aa kL).tape,(aa kL).output,(aa kL).size,(aa kL).block⟩);have o_:Hid (w5.ownsRow (w2.alloc (aB m)).heap.size 3 1 (.slice (some ⟨g,0,none⟩) (pts u).length cap) (pts u).length (ints (ay (pts u)))):=(by rw [Yx];exact yA);clear Yx)
    | (go_at_call 41;refine (aa HAF w2 w5 m HB2 iI jI).mono ?_;clear HAF;rintro ex w6 ⟨rfl,Yy⟩;have p0:=(aa Yy).c0;have p1:=(aa Yy).c1;have p2:=(aa Yy).c2;have hl0:=World.block_lt_of_cell? _ _ p0;have hl2:=World.block_lt_of_cell? _ _ p2;have r0:=aa HRW w5 w6 _ g cap 0 _ o_ Yy b hbl;have r1:=aa HRW w5 w6 _ g cap 0 _ o_ Yy e hel;rw [aa HXB] at r0;rw [aa HXE] at r1;have hl3:=World.block_lt_of_cell? _ _ r0))
   have HW7:Hid (Below w.heap.size w (w6.alloc (.cells #[.int .i64 0,.int .i64 0] 74))):=by
    have hb6:=aa Lb w2 w5 w6 m _ HB2 jI Yy
    exact hb6.alloc hb6.size _
   have p0':(w6.alloc (.cells #[.int .i64 0,.int .i64 0] 74)).cell? ⟨w5.heap.size+1,0,none⟩=some (.int .i64 (b:Int)):=by rw [World.cell?_alloc_past _ _ _ hl0];exact p0
   have p1':(w6.alloc (.cells #[.int .i64 0,.int .i64 0] 74)).cell? ⟨w5.heap.size+1,1,none⟩=some (.int .i64 (e:Int)):=by rw [World.cell?_alloc_past _ _ _ hl0];exact p1
   have r0':(w6.alloc (.cells #[.int .i64 0,.int .i64 0] 74)).cell? ⟨g,b,none⟩=some (.int .i64 (xb:Int)):=by rw [World.cell?_alloc_past _ _ _ hl3];exact r0
   have r1':(w6.alloc (.cells #[.int .i64 0,.int .i64 0] 74)).cell? ⟨g,e,none⟩=some (.int .i64 (xe:Int)):=by rw [World.cell?_alloc_past _ _ _ hl3];exact r1
   clear p0 p1 p2 r0 r1 hl0 hl2 hl3 Yy
   generalize w6.alloc (.cells #[.int .i64 0,.int .i64 0] 74)=W7 at *
   go_quiet (fail)
   go_wp2_with fail
   go_ret3
   have h:=aa HW7
   exact ⟨rfl,⟨h.os,h.tape,h.output,h.size,h.block⟩⟩
 ·have KY:Hid (∀ (W:World) (g cap B:Nat),Hid (W.ownsRow B 3 1 (.slice (some ⟨g,0,none⟩) (pts u).length cap) (pts u).length (ints (ay (pts u))))->Calls Tryz.prog 40 #[.slice (some ⟨g,0,none⟩) (pts u).length cap,.int .i64 (x:Int)] W fun e w'=>e=.returned (.tuple #[.int .i64 ((Ox u x:Nat):Int),.bool false])/\∃ q,w'=W.drewN q):=fun W g cap B ho=>by
   have h:=DD (x:=x) Ef ho
   rw [decide_eq_false hx] at h
   exact h
  unfold fdV
  rw [if_neg hx]
  generalize Ox u x=ix at *
  have HTX:Hid (∀ (w2:World) (m:Nd),Hid (Below wb.heap.size wb w2)->(w2.alloc (aB m)).cell? ⟨w.heap.size,0,none⟩=some (.string u)):=fun w2 m h2=>by
   have hl:=World.block_lt_of_cell? _ _ b1
   have h1:=aS h2 hl b1
   rw [World.cell?_alloc_past _ _ _ (World.block_lt_of_cell? _ _ h1)]
   exact h1
  have Lb:Hid (∀ (w2 W4:World) (m:Nd),Hid (Below wb.heap.size wb w2)->Hid (Below (w2.alloc (aB m)).heap.size (w2.alloc (aB m)) W4)->Below w.heap.size w W4):=fun w2 W4 m h2 h4=>by
   have t3:(w2.alloc (aB m)).heap.size=w2.heap.size+1:=by simp
   have TQ:Below w2.heap.size w2 W4:=((Below.refl _ _).alloc (Nat.le_refl _) _).trans ((aa h4).mono (by rw [t3];omega))
   exact (aa Mj).trans (((aa h2).trans (TQ.mono (aa h2).size)).mono (aa Mj).size)
  have hpf:=lV u
  clear ht htb hR hz hs b1 b2 s1 hq hno hfr hx Mj Ef
  subst hwb
  go_enter Tryz.func25,Tryz.ntmps25
  go_wp2_with (first
   | (go_at_call 38;refine (aa P_).mono ?_;clear P_;simp only [gJ];rintro ex w2 ⟨m,rfl,HB2,iI⟩;have tx2:=aa HTX w2 m HB2;clear HTX)
   | (go_at_call 39;refine (aa Z7 _).mono ?_;clear Z7;rintro ex w4 ⟨g,cap,rfl,kL,yA⟩)
   | (go_at_call 40;refine (aa KY w4 g cap _ yA).mono ?_;clear KY;rintro ex w5 ⟨rfl,qd,Yx⟩;have jI:Hid (Below (w2.alloc (aB m)).heap.size (w2.alloc (aB m)) w5):=(by rw [Yx];exact ⟨(aa kL).os,(aa kL).tape,(aa kL).output,(aa kL).size,(aa kL).block⟩);clear Yx))
  go_ret3
  have hb5:=aa Lb w2 w5 m HB2 jI
  exact ⟨rfl,hb5.alloc hb5.size _⟩
end Go.Proofs.YtfolanohokflkaaGreatDoor
namespace Go.Proofs.YtfolanohokflkaaGreatDoor
open Go.RowKit
open Tm (eps)
theorem XV:∀ v:List Int,aI eps v=eps\/aI eps v=aF
 | []=>.inl rfl
 | c::v=>.inr (by show aI (aG c eps) v=aF;rw [A_];exact um v)
theorem TR {M:List Nat} {a b:Nat} (hn:M.Nodup) (h:∀ n∈M,n=a\/n=b):M.length<=2:=by
 match M,hn,h with
 | [],_,_=>simp
 | [_],_,_=>simp
 | [_,_],_,_=>simp
 | x::y::z::r,hn,h=>
  have hx:=h x (by simp)
  have hy:=h y (by simp)
  have hz:=h z (by simp)
  simp at hn
  omega
theorem aaO (Bs:List Int):¬ Ovr Bs 200 eps:=by
 rintro ⟨T,M,hT,hn,hl,hM⟩
 have h:∀ n∈M,n=1\/n=0:=fun n hn=>by
  obtain ⟨v,hv⟩:=hM n hn
  rcases XV v with e | e
  ·rw [e] at hv;exact .inl (hT.inj _ _ _ hv hT.r1)
  ·rw [e] at hv;exact .inr (hT.inj _ _ _ hv hT.r0)
 have:=TR hn h
 omega
theorem Q0 {L:List Int} {b:Nat}:∀ k,b+k<=L.length+1->0<k->Oc eps L b k=some b
 | 0,_,h=>by omega
 | 1,_,_=>rfl
 | k+2,hk,_=>by
  show (if Dg eps L b (k+1)=true then some (b+(k+1)) else Oc eps L b (k+1))=some b
  have e:Dg eps L b (k+1)=false:=by
   unfold Dg
   cases hd:(L.drop b).take (k+1) with
   | nil=>
    have:=congrArg List.length hd
    rw [List.length_take,List.length_drop] at this
    simp at this
    omega
   | cons c v=>
    have:aI eps (c::v)=aF:=by show aI (aG c eps) v=aF;rw [A_];exact um v
    rw [this]
    rfl
  rw [if_neg (by rw [e];decide)]
  exact Q0 (k+1) (by omega) (by omega)
theorem XW {L:List Int} {b:Nat} (h:b<=L.length):Il eps L b=some (b,b):=by
 rw [Lc h]
 have:lgS eps L b=some b:=Q0 _ (by omega) (by omega)
 rw [this]
theorem Oy:kX ⟨#[40,41]⟩=.ok (eU []):=by kernel_rfl
theorem LZ:aZ ⟨#[40,41]⟩=.ok (.row []):=by kernel_rfl
theorem yO {t:ByteArray} (hs:t.size<=60):VX t:=by
 intro W i ht hi
 have hq:aZ ⟨#[40,41]⟩=.ok (eU []).1:=LZ
 have e:dL (eU []).1=eps:=rfl
 have h:=aaN (w:=W) (p:=⟨#[40,41]⟩) (u:=t) (z:=eU []) (x:=i) hq (by decide) hs (by rw [e];exact aaO) ht (hide Oy) (by decide) (by
  intro b c hbc
  rw [e] at hbc
  by_cases hle:Ox t i<=(mE t).length
  ·rw [XW hle] at hbc
   cases hbc
   rw [qj]
   omega
  ·rw [Ho hle] at hbc
   cases hbc)
 refine h.mono ?_
 rintro x w' ⟨hx,hb⟩
 refine ⟨?_,hb⟩
 rw [hx,e]
 unfold fdV
 by_cases hm:i∈pts t
 ·obtain ⟨hl,he⟩:=XU hm
  have hle:Ox t i<=(mE t).length:=by rw [qj] at hl;omega
  rw [if_pos hm,XW hle]
  have eg:(pts t).getD (Ox t i) 0=i:=by
   have:(pts t).getD (Ox t i) 0=(pts t)[Ox t i]:=by simp [List.getD,hl]
   rw [this,he]
  simp only [eg,if_pos hm]
 ·rw [if_neg hm]
  simp only [if_neg hm]
end Go.Proofs.YtfolanohokflkaaGreatDoor
