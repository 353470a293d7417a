import Derived.Test.YtfolanohokflkaaGreatDoorTxtB
import Derived.Test.YtfolanohokflkaaGreatDoorNsB
import Derived.Test.YtfolanohokflkaaGreatDoorOgD
import Derived.Test.YtfolanohokflkaaGreatDoorLnR
import Derived.Deep.RegionHeld
import Derived.Defers
import Derived.Recover
namespace Go.Proofs.YtfolanohokflkaaGreatDoor
open Go.RowKit
open Tm (eps)
def Dc (Bs:List Int) (w:World) (B:Int) (cs:List Int) (R:Nat->List Te->List (Value×Value)->Prop) (e:Ending) (w':World):Prop:=
 ∃ (sb mb cb cap n:Nat) (t:TB) (T:List Te) (S C:List (Value×Value)),e=.returned (.pointer (some ⟨sb,0,none⟩))/\Hid (oz Bs w' w' w.heap.size mb t.tb t T S C [] (fun k=>k=sb\/k=cb))/\Hid (G5 w' sb mb t.tb B n cs (some ⟨cb,0,none⟩) cap (fun k=>k=sb\/k=cb))/\Hid (R n T S)/\Hid (Below w.heap.size w w')
theorem He {w W:World} {t:TB} {T:List Te} {tb mb cb cap n:Nat} {B:Int} {cs:List Int} {R:Nat->List Te->List (Value×Value)->Prop} {Bs:List Int} {S C:List (Value×Value)} (htb:t.tb=tb) (hT:Hid (Sz Bs W t T S C)) (hM:Hid (Met W mb [])) (hr:Hid (∀ j,j<cs.length->W.cell? ⟨cb,j,none⟩=some (.int .i32 (cs.getD j 0)))) (hcb:cb<W.heap.size) (hcm:cb≠mb) (hct:¬ TF t cb) (hmt:¬ TF t mb) (hf:∀ k,TF t k->w.heap.size<=k) (hm0:w.heap.size<=mb) (hb:Hid (Below w.heap.size w W)) (hR:Hid (R n T S)) :
  Dc Bs w B cs R (.returned (.pointer (some ⟨W.heap.size,0,none⟩))) (W.alloc (.cells #[.pointer (some ⟨tb,0,none⟩),.int .i64 B,.map (some mb),.int .i64 n,.slice (some ⟨cb,0,none⟩) cs.length cap] 109)):=by
 subst htb
 have U7:mb<W.heap.size:=(Array.getElem?_eq_some_iff.1 (aa hM).at_).1
 have hsz:(W.alloc (.cells #[.pointer (some ⟨t.tb,0,none⟩),.int .i64 B,.map (some mb),.int .i64 n,.slice (some ⟨cb,0,none⟩) cs.length cap] 109)).heap.size=W.heap.size+1:=by simp
 refine ⟨W.heap.size,mb,cb,cap,n,t,T,S,C,rfl,?_,?_,hR,(aa hb).alloc (aa hb).size _⟩
 ·refine ⟨aa (Sz.alloc hT _),(aa hM).move (Below.heap_alloc _ _ _ U7),rfl,hmt,fun k hk=>?_,fun _ _=>rfl,hf,hm0,by rw [hsz];have:=(aa hb).size;omega,Below.refl _ _⟩
  rcases hk with rfl | rfl
  ·exact ⟨by rw [hsz];omega,fun h=>by have:=(aa hT).tab.foot h;omega,by omega⟩
  ·exact ⟨by rw [hsz];omega,hct,hcm⟩
 ·refine ⟨aB rfl 0 rfl,aB rfl 1 rfl,aB rfl 2 rfl,aB rfl 3 rfl,aB rfl 4 rfl,.inl rfl,fun k hk=>⟨cb,rfl,.inr rfl,?_⟩⟩
  rw [World.cell?_of_block (a:=⟨cb,k,none⟩) (Below.heap_alloc _ _ cb hcb)]
  exact aa hr k hk
set_option maxRecDepth 100000 in
set_option maxHeartbeats 4000000 in
theorem su {w:World} {m:Nd} {u:ByteArray} {B:Int} {Bs:List Int} {R:Nat->List Te->List (Value×Value)->Prop} (hl:u.size<=60)
  (HO:Hid (∀ (X:World) (t:TB),Hid (Below w.heap.size w X)->Hid (aZ X t nO (au nO) [] [])->Calls Tryz.prog 52 #[.pointer (some ⟨t.tb,0,none⟩),gD m] X fun e w'=>∃ (n:Nat) (t':TB) (T:List Te) (S C:List (Value×Value)),e=.returned (.int .i64 n)/\Hid (R n T S)/\Hid (Sz Bs w' t' T S C)/\Hid (bg t t' X w'))) :
  Calls Tryz.prog 43 #[gD m,.string u,.int .i64 B] w (Dc Bs w B (kS u) R):=by
 have hcv:=fun w=>VV w u (by have:=Ab u;omega)
 generalize kS u=cs at *
 obtain ⟨cap,hc⟩:=Classical.axiomOfChoice hcv
 obtain ⟨wc,hc⟩:=Classical.axiomOfChoice hc
 clear hcv
 have HCB:Hid (∀ w,Hid (Below w.heap.size w (wc w))):=fun w=>(hc w).2.1
 have HCR:Hid (∀ w:World,w.heap.size<(wc w).heap.size/\Hid (∀ j,j<cs.length->(wc w).cell? ⟨w.heap.size,j,none⟩=some (.int .i32 (cs.getD j 0)))):=fun w=>⟨(hc w).2.2.1,(hc w).2.2.2⟩
 have hcv:=fun w=>(hc w).1
 clear hc
 have HK:=hide (aA.new w m)
 have HA:Hid (Below w.heap.size w (w.alloc (aD m))):=(Below.refl _ _).alloc (Nat.le_refl _) _
 have hsz:(w.alloc (aD m)).heap.size=w.heap.size+1:=by simp
 have RS:=hide hsz
 clear hsz
 generalize u=s at *
 simp only [gD] at HO ⊢
 generalize hQ:Dc Bs w B cs R=QQ
 have HQ:=hide hQ
 clear hQ
 go_enter Tryz.func43,Tryz.ntmps43
 go_wp2_with (
  (go_at_call 58;refine (GH _).mono ?_;rintro x w1 ⟨t1,rfl,HT1,HB1,hF1⟩))
 have HF:Hid (∀ k,TF t1 k->w.heap.size+1<=k):=fun k hk=>by
  have h1:=hF1 k hk
  have h2:=aa RS
  exact h2▸h1
 have hp:¬ TF t1 w.heap.size:=fun h=>by have:=aa HF _ h;omega
 have nW:Hid (NS w w1.drew w.heap.size m t1):=by
  have hb:Below w.heap.size w w1:=(aa HA).trans ((aa HB1).mono (aa HA).size)
  exact ⟨(show aA w1 w.heap.size m from aa (aA.under HB1 HK)),⟨hb.os,hb.tape,hb.output,hb.size,hb.block⟩,(aa HT1).drew 1⟩
 have HP:=hide hp
 clear HB1 hF1 HT1 HK hp RS HA
 have HW:Hid (∀ (X:World) (t:TB),NS w X w.heap.size m t1->_):=fun X t h=>aa HO X t1 (hide h.bl) (hide h.tb)
 have HQ':=HQ
 obtain ⟨pb,hpb⟩:∃ pb,w.heap.size=pb:=⟨_,rfl⟩
 rw [hpb] at nW HP HW ⊢
 have HPB:=hide hpb
 clear hpb HQ' HO
 have HWC:Hid (∀ W,Hid (NS w W pb m t1)->_):=fun W h=>NS.cells (NS.under (aa HCB W) h)
 have HWD:Hid (∀ W,Hid (aA W pb m)->_):=fun W h=>aA.cells (aa (aA.under (aa HCB W) h))
 obtain ⟨c0,c1,c2,c3,c4,c5,c6⟩:=NS.cells nW
 go_region_held (fun w'=>w'.cell? ⟨pb,0,none⟩=some (.int .i64 m.sh)/\w'.cell? ⟨pb,1,none⟩=some (.slice m.pa m.pn m.pc)/\w'.cell? ⟨pb,2,none⟩=some (.string m.ss)/\w'.cell? ⟨pb,3,none⟩=some (.int .i64 m.le)/\w'.cell? ⟨pb,4,none⟩=some (.int .i64 m.mo)/\w'.cell? ⟨pb,5,none⟩=some (.int .i64 m.fa)/\w'.cell? ⟨pb,6,none⟩=some (.int .i64 m.sz))
  (first
   | go_keep
   | exact aa HWD _ lI
   | exact aa HWC _ iy
   | exact aa HWC _ nW)
  (first
   | (go_at_call 71;refine (CL _ B).mono ?_;rintro x w2 ⟨mb,rfl,Hz,hmb,HB2⟩;have HMB:=hide hmb;clear hmb;have iy:Hid (NS w w2 pb m t1):=(by first | exact NS.under HB2 nW | exact NS.under HB2 (NS.under (aa HCB _) nW));obtain ⟨d0,d1,d2,d3,d4,d5,d6⟩:=NS.cells iy)
   | (go_at_call 52;refine (aa HW _ t1 (by first | exact aa iy | exact aa (NS.under (aa HCB _) iy))).mono ?_;rintro x w3 ⟨n,t',T,S,C,rfl,HRn,HT3,uU⟩;have lI:Hid (aA w3 pb m):=(by first | exact NS.after iy uU (aa HP) | exact NS.after (NS.under (aa HCB _) iy) uU (aa HP));obtain ⟨e0,e1,e2,e3,e4,e5,e6⟩:=aA.cells (aa lI)))
 all_goals (clear c0 c1 c2 c3 c4 c5 c6 d0 d1 d2 d3 d4 d5 d6 e0 e1 e2 e3 e4 e5 e6)
 all_goals (go_wp2_with fail)
 all_goals rw [<-aa HQ]
 all_goals
  have Ld:∀ k,TF t1 k->k<w1.heap.size:=fun k hk=>(aa nW).tb.foot hk
  have htb':t'.tb=t1.tb:=(aa uU).tb
  have hmb:=aa HMB
  have U7:mb<w2.heap.size:=(Array.getElem?_eq_some_iff.1 (aa Hz).at_).1
  have hs2:=(aa HB2).size
  have hs3:=(aa uU).size
  have hw0:w.heap.size<=w1.heap.size:=(aa nW).bl.size
 ·have hmt:¬ TF t1 mb:=fun h=>by have h1:=Ld _ h;have h2:w1.heap.size<=mb:=hmb;omega
  obtain ⟨h1,h2,h3,h4⟩:=NB iy Hz hmt HF uU
  have hb4:=aa (aa HCB w3)
  have hlt3:mb<w3.heap.size:=by omega
  exact He htb' (Sz.below HT3 hb4) ((aa h1).move (hb4.block mb hlt3)) (aa HCR w3).2 (aa HCR w3).1 (by omega) (fun h=>by have:=(aa HT3).tab.foot h;omega) h2 h3 (by have h9:w1.heap.size<=mb:=hmb;omega) ((aa h4).trans (hb4.mono (aa h4).size)) HRn
 ·have hmt:¬ TF t1 mb:=fun h=>by have h1:=Ld _ h;have h2:w1.heap.size<=mb:=hmb;omega
  have hb4:=aa (aa HCB w2)
  have hs2':w1.heap.size<=w2.heap.size:=hs2
  have hc2:=(aa HCR w2).1
  obtain ⟨h1,h2,h3,h4⟩:=NB (NS.under (aa HCB w2) iy) ((aa Hz).move (hb4.block mb U7)) hmt HF uU
  have hnt:¬ TF t1 w2.heap.size:=fun h=>by have:=Ld _ h;omega
  refine He htb' HT3 h1 (hide fun j hj=>?_) (by omega) (by omega) (fun h=>?_) h2 h3 (by have h9:w1.heap.size<=mb:=hmb;omega) h4 HRn
  ·rw [World.cell?_of_block (a:=⟨w2.heap.size,j,none⟩) ((aa uU).block _ hc2 hnt)]
   exact aa (aa HCR w2).2 j hj
  ·rcases (aa uU).foot h with e | e
   ·exact hnt e
   ·omega
 ·have hc1:w1.heap.size<(wc w1.drew).heap.size:=(aa HCR w1.drew).1
  have hmt:¬ TF t1 mb:=fun h=>by have h1:=Ld _ h;omega
  obtain ⟨h1,h2,h3,h4⟩:=NB iy Hz hmt HF uU
  have hnt:¬ TF t1 w1.heap.size:=fun h=>by have:=Ld _ h;omega
  refine He htb' HT3 h1 (hide fun j hj=>?_) (by omega) (by omega) (fun h=>?_) h2 h3 (by omega) h4 HRn
  ·rw [World.cell?_of_block (a:=⟨w1.heap.size,j,none⟩) ((aa uU).block _ (by show w1.heap.size<_;omega) hnt)]
   exact aW HB2 hc1 (aa (aa HCR w1.drew).2 j hj)
  ·rcases (aa uU).foot h with e | e
   ·exact hnt e
   ·omega
end Go.Proofs.YtfolanohokflkaaGreatDoor
namespace Go.Proofs.YtfolanohokflkaaGreatDoor
open Go.RowKit
open Tm (eps)
theorem De:∀ {l:List Pt},DJ l->∀ p∈l,sO p
 | [],_,_,hp=>by cases hp
 | a::r,h,p,hp=>by
  rw [DJ] at h
  rcases List.mem_cons.1 hp with e | e
  ·rw [e];exact h.1
  ·exact De h.2 p e
theorem abR {B:List Int} (hB:B.length<=480) {p:Pt} (h:u_ p):SP B p->sO p->Fit B p:=by
 induction h with
 | set=>
  intro hs ho
  rw [sO] at ho
  cases hs with
  | set hs=>exact .set ho hs (by have:=(fZ ho hs).1;omega)
 | row _ h2 h3 ih=>
  intro hs ho
  rw [sO] at ho
  cases hs with
  | row hs=>exact .row (fun p hp=>ih p hp (hs p hp) (De ho p hp)) h2 h3
 | bf _ h2 h3 h4 ih=>
  intro hs ho
  rw [sO] at ho
  cases hs with
  | bf hs=>exact .bf (fun p hp=>ih p hp (hs p hp) (De ho p hp)) h2 h3 h4
 | not _ h2 ih=>
  intro hs ho
  rw [sO] at ho
  cases hs with
  | not hs=>exact .not (ih hs ho) h2
 | rep _ h2 h3 h4 ih=>
  intro hs ho
  rw [sO] at ho
  cases hs with
  | rep hs=>exact .rep (ih hs ho) h2 h3 h4
mutual
theorem Qc:∀ p:Pt,cP p=30000000*zC p
 | .set _=>by rw [cP,zC]
 | .row l=>by rw [cP,zC,NF l];omega
 | .bf _ l=>by rw [cP,zC,NF l];omega
 | .not a=>by rw [cP,zC,Qc a];omega
 | .rep a _ _=>by rw [cP,zC,Qc a];omega
theorem NF:∀ l:List Pt,cPs l=30000000*qx l
 | []=>by rw [cPs,qx]
 | p::r=>by rw [cPs,qx,Qc p,NF r];omega
end
def TrR (q:Pt) (n:Nat) (T:List Te) (S:List (Value×Value)):Prop:=Rp T n (dE q)/\T.length<=3600000003/\S=[]
theorem Le {B:List Int} {q:Pt} {s:ByteArray} (hB:B.length<=480) (hsp:SP B q) (hq:bP s=.ok q):Hid (∀ (W:World) (F:Nat->Prop) (m:Nd) (X:World) (t:TB),iF W F m q->Hid (Below W.heap.size W X)->Hid (aZ X t nO (au nO) [] [])->Calls Tryz.prog 52 #[.pointer (some ⟨t.tb,0,none⟩),gD m] X fun e w'=>∃ (n:Nat) (t':TB) (T:List Te) (S C:List (Value×Value)),e=.returned (.int .i64 n)/\Hid (TrR q n T S)/\Hid (Sz B w' t' T S C)/\Hid (bg t t' X w')):=by
 intro W F m X t hn hb ht
 obtain ⟨f1,f2⟩:=Si hq
 have hf:=abR hB f1 hsp (Bo hq)
 have hc:=Qc q
 have hcl:cP q<=3600000000:=by omega
 refine (abM hB hn hf X t nO [] [] (fun _=>False) (hide fun k hk hc=>?_) ⟨aa ht,ti0,⟨List.nodup_nil,fun p hp=>by cases hp⟩,⟨List.nodup_nil,fun p hp=>by cases hp⟩⟩ ?_).mono ?_
 ·obtain ⟨cur,hc⟩:=hc
  exact (aa hb).block k (Array.getElem?_eq_some_iff.1 hc).1
 ·show 3+cP q+100000<=1000000000000
  omega
 ·rintro e w' ⟨n,t',T',S',C',rfl,hr,hy,hx⟩
  have hl:=(aa hx).len
  have h3:nO.length=3:=rfl
  refine ⟨n,t',T',S',C',rfl,hide ⟨hr,by omega,?_⟩,hy,hide (aa hx).fr⟩
  cases S' with
  | nil=>rfl
  | cons a r=>
   rcases (aa hx).new a (List.mem_cons_self ..) with e | ⟨_,_,e,_⟩
   ·cases e
   ·exact e.elim
theorem Qd (G:List Gx) (T:List Te) (K:List Value):mQ G T K<=wI G:=by
 unfold mQ wI
 induction G with
 | nil=>simp
 | cons g G ih=>
  simp only [List.map_cons,bA]
  split<;>omega
theorem Zt {t:Tm} {L:List Int} {k:Nat} (hk:k<L.length):VdL t L (aJ t (L.take k)) (L.getD k 0):=by
 refine ⟨L.take k,L.drop (k+1),L.take k,?_,List.suffix_refl _,.top (.self _)⟩
 have e:L.getD k 0=L[k]:=by simp [List.getD,hk]
 rw [e,<-List.drop_eq_getElem_cons hk,List.take_append_drop]
set_option maxRecDepth 100000 in
set_option maxHeartbeats 4000000 in
theorem Lf {w:World} {q:Pt} {s u:ByteArray} {k0 k1 k2 k3:Nat} {m:Nd} {Bd:Int} {F:Nat->Prop} (hq:bP s=.ok q) (DY:u.size<=60) (hB:((kS u).length:Int)<Bd) (h0:Hid (aA w k0 m)) (h1:w.cell? ⟨k1,0,none⟩=some (.string u)) (h2:w.cell? ⟨k2,0,none⟩=some (.int .i64 Bd)) (h3:w.cell? ⟨k3,0,none⟩=some (.bool false)) (h3z:w.frozen? ⟨k3,0,none⟩=false) (Xr:iF w F m q) :
  Calls Tryz.prog 66 #[.pointer (some ⟨k0,0,none⟩),.pointer (some ⟨k1,0,none⟩),.pointer (some ⟨k2,0,none⟩),.pointer (some ⟨k3,0,none⟩)] w fun e w'=>e=.returned (.tuple #[])/\∃ W,Hid (Below w.heap.size w W)/\w'=W.setCell ⟨k3,0,none⟩ (.bool (cB (aJ (dE q) (kS u)))):=by
 obtain ⟨Bs,Ej,hsp⟩:=y8 hq
 have hu:(kS u).length<=60:=Nat.le_trans (Ab u) DY
 have hg:=Pg u
 obtain ⟨hsum,hnz⟩:=E5 hq hu
 have hcn:Cn (dE q):=uM (Bo hq)
 have hS:=O8 hcn hnz (L:=kS u) hg hu
 obtain ⟨tf,htf⟩:∃ tf,cB (aJ (dE q) (kS u))=tf:=⟨_,rfl⟩
 rw [htf]
 have HOF:=Le Ej hsp hq
 have HN:=hide (su (w:=w) (m:=m) (u:=u) (B:=Bd) (Bs:=Bs) (R:=TrR q) DY (hide fun X t hb ht=>aa HOF w F m X t Xr hb ht))
 have HS:Hid (∀ (e:Ending) (w1:World),Dc Bs w Bd (kS u) (TrR q) e w1->∃ sb:Nat,e=.returned (.pointer (some ⟨sb,0,none⟩))/\Hid (Below w.heap.size w w1)/\Hid (Calls Tryz.prog 67 #[.pointer (some ⟨sb,0,none⟩)] w1 fun e w'=>e=.returned (.bool tf)/\Hid (Below w.heap.size w1 w'))):=by
  rintro e w1 ⟨sb,mb,cb,cap,n,t,T,S,C,rfl,hs,ha,hr,hb⟩
  obtain ⟨r1,r2,r3⟩:=aa hr
  rw [<-htf]
  refine ⟨sb,rfl,hb,hide (DW Ej hS hs ha hu (fun k hk=>hg _ (by simp [List.getD,hk])) r1 (fun k hk=>Zt hk) ?_ (by omega) (hide fun w' hw'=>⟨rfl,hw'⟩))⟩
  have:=Qd (BQ (dE q) (rR (kS u))) T (S.map (·.1)++[])
  show T.length+_<=1000000000000
  omega
 obtain ⟨c0,c1,c2,c3,c4,c5,c6⟩:=aA.cells (aa h0)
 have hk3:=World.block_lt_of_cell? w _ h3
 have H3:=hide h3
 have H3Z:=hide h3z
 clear h3 h3z HOF h0 htf hsum hnz hcn hS hsp hq Xr
 simp only [gD] at HN
 clear hB hu hg
 generalize kS u=cs at *
 generalize u=sx at *
 go_enter Tryz.func66,Tryz.ntmps66
 go_wp2_with (first
  | (go_at_call 43;refine (aa HN).mono ?_;clear HN;intro ex w1 hx;obtain ⟨sb,rfl,HB1,HT1⟩:=aa HS ex w1 hx;clear hx HS)
  | (go_at_call 67;refine (aa HT1).mono ?_;clear HT1;rintro ex w2 ⟨rfl,HB2⟩;have HB3:Hid (Below w.heap.size w w2):=(aa HB1).trans (aa HB2);have q3:w2.cell? ⟨k3,0,none⟩=some (.bool false):=aW HB3 hk3 (aa H3);have z3:w2.frozen? ⟨k3,0,none⟩=false:=(by rw [World.frozen?_of_block (a:=⟨k3,0,none⟩) ((aa HB3).block _ hk3)];exact aa H3Z)))
 go_end0
 exact ⟨rfl,w2,HB3,rfl⟩
end Go.Proofs.YtfolanohokflkaaGreatDoor
namespace Go.Proofs.YtfolanohokflkaaGreatDoor
open Go.RowKit
open Tm (eps)
theorem ada {t:Tm} {L:List Int} {b k:Nat} (hk:b+k<L.length):VdL t L (aJ t ((L.drop b).take k)) (L.getD (b+k) 0):=by
 refine ⟨L.take (b+k),L.drop (b+k+1),(L.drop b).take k,?_,?_,.top (.self _)⟩
 ·have e:L.getD (b+k) 0=L[b+k]:=by simp [List.getD,hk]
  rw [e,<-List.drop_eq_getElem_cons hk,List.take_append_drop]
 ·refine ⟨L.take b,?_⟩
  rw [<-List.take_add]
structure wZ (w w':World) (k4 k5:Nat) (o:Option (Nat×Nat)):Prop where
 os:w'.os=w.os
 tape:w'.tape=w.tape
 output:w'.output=w.output
 size:w.heap.size<=w'.heap.size
 block:∀ k,k<w.heap.size->k≠k4->k≠k5->w'.heap[k]? = w.heap[k]?
 c0:w'.cell? ⟨k4,0,none⟩=some (.int .i64 (((o.getD (0,0)).1:Nat):Int))
 c1:w'.cell? ⟨k4,1,none⟩=some (.int .i64 (((o.getD (0,0)).2:Nat):Int))
 c2:w'.cell? ⟨k5,0,none⟩=some (.bool o.isSome)
theorem Zu {w w2:World} {k4 k5:Nat} {o:Option (Nat×Nat)} {x0 y0 z0:Value} (hb:Below w.heap.size w w2) (m0:w2.cell? ⟨k4,0,none⟩=some x0) (m1:w2.cell? ⟨k4,1,none⟩=some y0) (n0:w2.cell? ⟨k5,0,none⟩=some z0) (h45:k4≠k5):wZ w (((w2.setCell ⟨k4,0,none⟩ (.int .i64 (((o.getD (0,0)).1:Nat):Int))).setCell ⟨k4,1,none⟩ (.int .i64 (((o.getD (0,0)).2:Nat):Int))).setCell ⟨k5,0,none⟩ (.bool o.isSome)) k4 k5 o:=by
 obtain ⟨p0,p1⟩:=G8 (x:=.int .i64 (((o.getD (0,0)).1:Nat):Int)) (y:=.int .i64 (((o.getD (0,0)).2:Nat):Int)) m0 m1
 have p2:((w2.setCell ⟨k4,0,none⟩ (.int .i64 (((o.getD (0,0)).1:Nat):Int))).setCell ⟨k4,1,none⟩ (.int .i64 (((o.getD (0,0)).2:Nat):Int))).cell? ⟨k5,0,none⟩=some z0:=by
  rw [World.cell?_of_block (a:=⟨k5,0,none⟩) ((Below.heap_setCell _ ⟨k4,1,none⟩ _ k5 (Ne.symm h45)).trans (Below.heap_setCell _ ⟨k4,0,none⟩ _ k5 (Ne.symm h45)))]
  exact n0
 refine ⟨hb.os,hb.tape,hb.output,by simpa [World.setCell] using hb.size,fun k hk h4 h5=>?_,?_,?_,World.cell?_setCell_same _ _ _ p2⟩
 ·exact (Below.heap_setCell _ ⟨k5,0,none⟩ _ k h5).trans ((Below.heap_setCell _ ⟨k4,1,none⟩ _ k h4).trans ((Below.heap_setCell _ ⟨k4,0,none⟩ _ k h4).trans (hb.block k hk)))
 ·rw [World.cell?_of_block (a:=⟨k4,0,none⟩) (Below.heap_setCell _ ⟨k5,0,none⟩ _ k4 h45)];exact p0
 ·rw [World.cell?_of_block (a:=⟨k4,1,none⟩) (Below.heap_setCell _ ⟨k5,0,none⟩ _ k4 h45)];exact p1
end Go.Proofs.YtfolanohokflkaaGreatDoor
namespace Go.Proofs.YtfolanohokflkaaGreatDoor
open Go.RowKit
open Tm (eps)
set_option maxRecDepth 100000 in
set_option maxHeartbeats 4000000 in
theorem Df {w:World} {q:Pt} {s0 u:ByteArray} {k0 k1 k2 k3:Nat} {m:Nd} {B:Int} {F:Nat->Prop} (hq:bP s0=.ok q) (DY:u.size<=60) (hB:((kS u).length:Int)<B) (h0:Hid (aA w k0 m)) (h1:w.cell? ⟨k1,0,none⟩=some (.string (u))) (h2:w.cell? ⟨k2,0,none⟩=some (.int .i64 B)) (h3:w.cell? ⟨k3,0,none⟩=some (.bool false)) (h3z:w.frozen? ⟨k3,0,none⟩=false) (Xr:iF w F m q) :
  Calls Tryz.prog 41 #[.func (.func 66) #[] #[.pointer (some ⟨k0,0,none⟩),.pointer (some ⟨k1,0,none⟩),.pointer (some ⟨k2,0,none⟩),.pointer (some ⟨k3,0,none⟩)]] w fun e w'=>e=.returned (.agg #[.int .i64 0,.int .i64 0])/\Hid (Up k3 w w')/\w'.cell? ⟨k3,0,none⟩=some (.bool (cB (aJ (dE q) (kS u)))):=by
 have hmf:∀ (fn:Fn) (first cap:Array Value) (w:World),(Instr.makeFunc fn first cap).run Tryz.prog w=.ok (.func fn first cap) w:=fun _ _ _ _=>rfl
 have hl1:=World.block_lt_of_cell? w _ h1
 have hl2:=World.block_lt_of_cell? w _ h2
 have hl3:=World.block_lt_of_cell? w _ h3
 have HA:Hid (Below w.heap.size w (w.alloc (.cells #[.int .i64 0,.int .i64 0] 74))):=(Below.refl _ _).alloc (Nat.le_refl _) _
 have HW:=hide (Lf (w:=w.alloc (.cells #[.int .i64 0,.int .i64 0] 74)) hq DY hB (aA.alloc h0 _) (aW HA hl1 h1) (aW HA hl2 h2) (aW HA hl3 h3) (by rw [World.frozen?_of_block (a:=⟨k3,0,none⟩) ((aa HA).block _ hl3)];exact h3z) (Xr.move fun k hk hl=>⟨(aa HA).block k hl,hk⟩))
 generalize cB (aJ (dE q) (kS u))=tf at HW ⊢
 have hnew:w.heap.size<(w.alloc (.cells #[.int .i64 0,.int .i64 0] 74)).heap.size:=by simp
 have c0:=bH w [.int .i64 0,.int .i64 0] 74 0 _ rfl
 have c1:=bH w [.int .i64 0,.int .i64 0] 74 1 _ rfl
 have hne:w.heap.size≠k3:=by have:k3<w.heap.size:=hl3;omega
 have HN:=hide hnew
 have C0:=hide c0
 have C1:=hide c1
 have H3:=hide h3
 have HL3:Hid (k3<w.heap.size):=hl3
 clear h0 h1 h2 h3 h3z hl1 hl2 hl3 hnew c0 c1
 go_enter_defers Tryz.func41,Tryz.ntmps41
 go_wp2_with (go_at_call 66;refine (aa HW).mono ?_;clear HW;rintro e w1 ⟨rfl,W,HB,ew⟩;have HU:Hid (Up k3 (w.alloc (.cells #[.int .i64 0,.int .i64 0] 74)) w1):=(by rw [ew];exact (Up.below (aa HB)).trans ⟨rfl,rfl,rfl,by simp [World.setCell],fun j _ hb=>Below.heap_setCell W ⟨k3,0,none⟩ _ j hb⟩);have Q3:Hid (w1.cell? ⟨k3,0,none⟩=some (.bool tf)):=(by rw [ew];exact World.cell?_setCell_same _ _ _ (aW HB (Nat.lt_trans (aa HL3) (aa HN)) (aW HA (aa HL3) (aa H3))));clear ew;have q0:w1.cell? ⟨w.heap.size,0,none⟩=some (.int .i64 0):=(by rw [World.cell?_of_block (a:=⟨w.heap.size,0,none⟩) ((aa HU).block _ (aa HN) hne)];exact aa C0);have q1:w1.cell? ⟨w.heap.size,1,none⟩=some (.int .i64 0):=(by rw [World.cell?_of_block (a:=⟨w.heap.size,1,none⟩) ((aa HU).block _ (aa HN) hne)];exact aa C1);have z0:w1.frozen? ⟨w.heap.size,0,none⟩=false:=(by rw [World.frozen?_of_block (a:=⟨w.heap.size,0,none⟩) ((aa HU).block _ (aa HN) hne)];exact World.frozen?_alloc_at _ _ _ _ rfl);have z1:w1.frozen? ⟨w.heap.size,1,none⟩=false:=(by rw [World.frozen?_of_block (a:=⟨w.heap.size,1,none⟩) ((aa HU).block _ (aa HN) hne)];exact World.frozen?_alloc_at _ _ _ _ rfl))
 have hl1:=World.block_lt_of_cell? w1 _ q0
 refine leaves_cons (f:=70) (args:=#[.pointer (some ⟨w.heap.size,0,none⟩)]) (by simp) (by simp [go_sem]) ?_
 refine (u6 ⟨w.heap.size,0,none⟩ _).mono ?_
 rintro e u' w'' ⟨rfl,rfl,rfl⟩
 show Leaves _ _ _ _ [] .returning _
 refine ⟨.agg #[.int .i64 0,.int .i64 0],?_,rfl,?_,?_⟩
 ·simp [results,Tryz.results41,go_sem,q0,q1]
 ·exact Up.oJ (Up.oJ ((Up.below ((Below.refl _ _).alloc (Nat.le_refl _) _)).trans (aa HU)) _ _ _ (Nat.le_refl _)) _ _ _ (Nat.le_refl _)
 ·rw [World.cell?_of_block (a:=⟨k3,0,none⟩) ((Below.heap_setCell _ ⟨w.heap.size,1,none⟩ _ k3 (Ne.symm hne)).trans (Below.heap_setCell _ ⟨w.heap.size,0,none⟩ _ k3 (Ne.symm hne)))]
  exact aa Q3
set_option maxRecDepth 100000 in
set_option maxHeartbeats 4000000 in
theorem NG {w:World} {p u:ByteArray} {B:Int} {z:Pn} (hq:bP p=.ok z.1) (hs:p.size<=60) (DY:u.size<=60) (ht:Hid (Lib.Utf8Tabs 4 5 w)) (hR:Hid (j5 p=.ok z)) (hz:¬ 60<z.2) (hB:((kS u).length:Int)<B) (hB1:B<=200) :
  Calls Tryz.prog 37 #[.string p,.string (u),.int .i64 B] w fun e w'=>e=.returned (.tuple #[.bool (cB (aJ (dE z.1) (kS u))),.int .i64 0])/\Hid (Below w.heap.size w w'):=by
 obtain ⟨tf,htf⟩:∃ tf,cB (aJ (dE z.1) (kS u))=tf:=⟨_,rfl⟩
 rw [htf]
 obtain ⟨wb,hwb⟩:∃ wb,(w.alloc (.cells #[.string (u)] 9)).alloc (.cells #[.int .i64 B] 3)=wb:=⟨_,rfl⟩
 have s1:(w.alloc (.cells #[.string (u)] 9)).heap.size=w.heap.size+1:=by simp
 have H9:Hid (Below w.heap.size w wb):=by
  rw [<-hwb]
  exact ((Below.refl _ _).alloc (Nat.le_refl _) _).alloc (by rw [s1];omega) _
 have htb:Hid (Lib.Utf8Tabs 4 5 wb):=by
  have hlt:=lL (aa ht)
  exact iE (aa ht) ((aa H9).block 4 (by omega)) ((aa H9).block 5 (by omega))
 have b1:wb.cell? ⟨w.heap.size,0,none⟩=some (.string (u)):=by
  rw [<-hwb,World.cell?_alloc_past _ _ _ (by show w.heap.size<_;rw [s1];omega)]
  exact aB rfl 0 rfl
 have b2:wb.cell? ⟨w.heap.size+1,0,none⟩=some (.int .i64 B):=by
  rw [<-hwb,<-s1]
  exact aB rfl 0 rfl
 have O6:=hide (wW (w:=wb) (u:=u) (B:=B) hs DY htb hR hz (by omega) hB1)
 have hmf:∀ (fn:Fn) (first cap:Array Value) (w:World),(Instr.makeFunc fn first cap).run Tryz.prog w=.ok (.func fn first cap) w:=fun _ _ _ _=>rfl
 have HAM:Hid (∀ (w2:World) (m:Nd),Hid (Below wb.heap.size wb w2)->Hid (aY w2 (fun k=>wb.heap.size<k) m z)->Calls Tryz.prog 41 #[.func (.func 66) #[] #[.pointer (some ⟨w2.heap.size,0,none⟩),.pointer (some ⟨w.heap.size,0,none⟩),.pointer (some ⟨w.heap.size+1,0,none⟩),.pointer (some ⟨w2.heap.size+1,0,none⟩)]] ((w2.alloc (aD m)).alloc (.cells #[.bool false] 4)) fun e w'=>e=.returned (.agg #[.int .i64 0,.int .i64 0])/\Hid (Below w.heap.size w w')/\w'.cell? ⟨w2.heap.size+1,0,none⟩=some (.bool tf)):=by
  intro w2 m hb hn
  have hw2:(w2.alloc (aD m)).heap.size=w2.heap.size+1:=by simp
  have hb0:Below w.heap.size w w2:=(aa H9).trans ((aa hb).mono (aa H9).size)
  have hA:Below w2.heap.size w2 ((w2.alloc (aD m)).alloc (.cells #[.bool false] 4)):=((Below.refl _ _).alloc (Nat.le_refl _) _).alloc (by rw [hw2];omega) _
  have hc3:((w2.alloc (aD m)).alloc (.cells #[.bool false] 4)).cell? ⟨w2.heap.size+1,0,none⟩=some (.bool false):=by rw [<-hw2];exact aB rfl 0 rfl
  have hz3:((w2.alloc (aD m)).alloc (.cells #[.bool false] 4)).frozen? ⟨w2.heap.size+1,0,none⟩=false:=by rw [<-hw2];exact World.frozen?_alloc_at _ _ _ _ rfl
  refine (Df hq DY hB (aA.alloc (hide (aA.new w2 m)) _) (aW (hide hA) (World.block_lt_of_cell? _ _ (aW hb (World.block_lt_of_cell? _ _ b1) b1)) (aW hb (World.block_lt_of_cell? _ _ b1) b1)) (aW (hide hA) (World.block_lt_of_cell? _ _ (aW hb (World.block_lt_of_cell? _ _ b2) b2)) (aW hb (World.block_lt_of_cell? _ _ b2) b2)) hc3 hz3 ((aa hn).2.move fun k hk hl=>⟨hA.block k hl,hk⟩)).mono ?_
  rintro ex w' ⟨e,hU,hc⟩
  rw [htf] at hc
  have hU':=aa hU
  have hAs:=hA.size
  refine ⟨e,⟨hU'.os.trans (hA.os.trans hb0.os),hU'.tape.trans (hA.tape.trans hb0.tape),hU'.output.trans (hA.output.trans hb0.output),Nat.le_trans hb0.size (Nat.le_trans hAs hU'.size),fun k hk=>?_⟩,hc⟩
  have h2:=hb0.size
  exact (hU'.block k (by omega) (by omega)).trans ((hA.block k (by omega)).trans (hb0.block k hk))
 clear ht htb hR hz hs DY b1 b2 H9 s1 htf
 subst hwb
 go_enter Tryz.func37,Tryz.ntmps37
 go_wp2_with (first
  | (go_at_call 38;refine (aa O6).mono ?_;clear O6;simp only [gD];rintro ex w2 ⟨m,rfl,HB2,iy⟩;have HA2:=hide (aa HAM w2 m HB2 iy);clear HAM)
  | (go_at_call 41;refine (aa HA2).mono ?_;clear HA2;rintro ex w3 ⟨rfl,HB3,q3⟩;have q4:=World.block_lt_of_cell? w3 _ q3))
 have g1:(w3.alloc (.cells #[.int .i64 0,.int .i64 0] 74)).cell? ⟨w2.heap.size+1,0,none⟩=some (.bool tf):=by rw [World.cell?_alloc_past _ _ _ q4];exact q3
 have g2:(w3.alloc (.cells #[.int .i64 0,.int .i64 0] 74)).cell? ⟨w3.heap.size,0,none⟩=some (.int .i64 0):=aB rfl 0 rfl
 have p9:Hid (Below w.heap.size w (w3.alloc (.cells #[.int .i64 0,.int .i64 0] 74))):=(aa HB3).alloc (aa HB3).size _
 generalize w3.alloc (.cells #[.int .i64 0,.int .i64 0] 74)=W4 at *
 go_quiet (fail)
 go_wp2_with fail
 have h:=aa p9
 refine bodyPost_ret (v:=.tuple #[.bool tf,.int .i64 0]) ?_ rfl ⟨rfl,⟨h.os,h.tape,h.output,h.size,h.block⟩⟩
 simp [results,Tryz.results37,go_sem]
end Go.Proofs.YtfolanohokflkaaGreatDoor
