import Derived.Test.YtfolanohokflkaaGreatDoorTxtB
import Derived.Test.YtfolanohokflkaaGreatDoorNsB
import Derived.Test.YtfolanohokflkaaGreatDoorOgD
import Derived.Test.YtfolanohokflkaaGreatDoorLnR
import Derived.Deep.RegionHeld
import Derived.Defers
import Derived.Recover
namespace Go.Proofs.YtfolanohokflkaaGreatDoor
open Go.RowKit
open Tm (eps)
def yK (Bs:List Int) (w:World) (B:Int) (cs:List Int) (R:Nat->List Te->List (Value×Value)->Prop) (e:Ending) (w':World):Prop:=
 ∃ (sb mb cb cap n:Nat) (t:TB) (T:List Te) (S C:List (Value×Value)),e=.returned (.pointer (some ⟨sb,0,none⟩))/\Hid (mV Bs w' w' w.heap.size mb t.tb t T S C [] (fun k=>k=sb\/k=cb))/\Hid (vv w' sb mb t.tb B n cs (some ⟨cb,0,none⟩) cap (fun k=>k=sb\/k=cb))/\Hid (R n T S)/\Hid (Below w.heap.size w w')
theorem Ha {w W:World} {t:TB} {T:List Te} {tb mb cb cap n:Nat} {B:Int} {cs:List Int} {R:Nat->List Te->List (Value×Value)->Prop} {Bs:List Int} {S C:List (Value×Value)} (htb:t.tb=tb) (hT:Hid (Sz Bs W t T S C)) (hM:Hid (Met W mb [])) (hr:Hid (∀ j,j<cs.length->W.cell? ⟨cb,j,none⟩=some (.int .i32 (cs.getD j 0)))) (hcb:cb<W.heap.size) (hcm:cb≠mb) (hct:¬ TF t cb) (hmt:¬ TF t mb) (hf:∀ k,TF t k->w.heap.size<=k) (hm0:w.heap.size<=mb) (hb:Hid (Below w.heap.size w W)) (hR:Hid (R n T S)) :
  yK Bs w B cs R (.returned (.pointer (some ⟨W.heap.size,0,none⟩))) (W.alloc (.cells #[.pointer (some ⟨tb,0,none⟩),.int .i64 B,.map (some mb),.int .i64 n,.slice (some ⟨cb,0,none⟩) cs.length cap] 109)):=by
 subst htb
 have VD:mb<W.heap.size:=(Array.getElem?_eq_some_iff.1 (aa hM).at_).1
 have hsz:(W.alloc (.cells #[.pointer (some ⟨t.tb,0,none⟩),.int .i64 B,.map (some mb),.int .i64 n,.slice (some ⟨cb,0,none⟩) cs.length cap] 109)).heap.size=W.heap.size+1:=by simp
 refine ⟨W.heap.size,mb,cb,cap,n,t,T,S,C,rfl,?_,?_,hR,(aa hb).alloc (aa hb).size _⟩
 ·refine ⟨aa (Sz.alloc hT _),(aa hM).move (Below.heap_alloc _ _ _ VD),rfl,hmt,fun k hk=>?_,fun _ _=>rfl,hf,hm0,by rw [hsz];have:=(aa hb).size;omega,Below.refl _ _⟩
  rcases hk with rfl | rfl
  ·exact ⟨by rw [hsz];omega,fun h=>by have:=(aa hT).tab.foot h;omega,by omega⟩
  ·exact ⟨by rw [hsz];omega,hct,hcm⟩
 ·refine ⟨az rfl 0 rfl,az rfl 1 rfl,az rfl 2 rfl,az rfl 3 rfl,az rfl 4 rfl,.inl rfl,fun k hk=>⟨cb,rfl,.inr rfl,?_⟩⟩
  rw [World.cell?_of_block (a:=⟨cb,k,none⟩) (Below.heap_alloc _ _ cb hcb)]
  exact aa hr k hk
set_option maxRecDepth 100000 in
set_option maxHeartbeats 4000000 in
theorem nW {w:World} {m:Nd} {u:ByteArray} {B:Int} {Bs:List Int} {R:Nat->List Te->List (Value×Value)->Prop} (hl:u.size<=60)
  (HO:Hid (∀ (X:World) (t:TB),Hid (Below w.heap.size w X)->Hid (aX X t nO (ak nO) [] [])->Calls Tryz.prog 52 #[.pointer (some ⟨t.tb,0,none⟩),gm m] X fun e w'=>∃ (n:Nat) (t':TB) (T:List Te) (S C:List (Value×Value)),e=.returned (.int .i64 n)/\Hid (R n T S)/\Hid (Sz Bs w' t' T S C)/\Hid (a_ t t' X w'))) :
  Calls Tryz.prog 43 #[gm m,.string u,.int .i64 B] w (yK Bs w B (gu u) R):=by
 have hcv:=fun w=>Wt w u (by have:=tY u;omega)
 generalize gu u=cs at *
 obtain ⟨cap,hc⟩:=Classical.axiomOfChoice hcv
 obtain ⟨wc,hc⟩:=Classical.axiomOfChoice hc
 clear hcv
 have HCB:Hid (∀ w,Hid (Below w.heap.size w (wc w))):=fun w=>(hc w).2.1
 have HCR:Hid (∀ w:World,w.heap.size<(wc w).heap.size/\Hid (∀ j,j<cs.length->(wc w).cell? ⟨w.heap.size,j,none⟩=some (.int .i32 (cs.getD j 0)))):=fun w=>⟨(hc w).2.2.1,(hc w).2.2.2⟩
 have hcv:=fun w=>(hc w).1
 clear hc
 have HK:=hide (au.new w m)
 have HA:Hid (Below w.heap.size w (w.alloc (aB m))):=(Below.refl _ _).alloc (Nat.le_refl _) _
 have hsz:(w.alloc (aB m)).heap.size=w.heap.size+1:=by simp
 have Sd:=hide hsz
 clear hsz
 generalize u=s at *
 simp only [gm] at HO ⊢
 generalize hQ:yK Bs w B cs R=QQ
 have HQ:=hide hQ
 clear hQ
 go_enter Tryz.func43,Tryz.ntmps43
 go_wp2_with (
  (go_at_call 58;refine (GD _).mono ?_;rintro x w1 ⟨t1,rfl,HT1,HB1,hF1⟩))
 have HF:Hid (∀ k,TF t1 k->w.heap.size+1<=k):=fun k hk=>by
  have h1:=hF1 k hk
  have h2:=aa Sd
  exact h2▸h1
 have hp:¬ TF t1 w.heap.size:=fun h=>by have:=aa HF _ h;omega
 have nY:Hid (NS w w1.drew w.heap.size m t1):=by
  have hb:Below w.heap.size w w1:=(aa HA).trans ((aa HB1).mono (aa HA).size)
  exact ⟨(show au w1 w.heap.size m from aa (au.under HB1 HK)),⟨hb.os,hb.tape,hb.output,hb.size,hb.block⟩,(aa HT1).drew 1⟩
 have HP:=hide hp
 clear HB1 hF1 HT1 HK hp Sd HA
 have HW:Hid (∀ (X:World) (t:TB),NS w X w.heap.size m t1->_):=fun X t h=>aa HO X t1 (hide h.bl) (hide h.tb)
 have HQ':=HQ
 obtain ⟨pb,hpb⟩:∃ pb,w.heap.size=pb:=⟨_,rfl⟩
 rw [hpb] at nY HP HW ⊢
 have HPB:=hide hpb
 clear hpb HQ' HO
 have HWC:Hid (∀ W,Hid (NS w W pb m t1)->_):=fun W h=>NS.cells (NS.under (aa HCB W) h)
 have HWD:Hid (∀ W,Hid (au W pb m)->_):=fun W h=>au.cells (aa (au.under (aa HCB W) h))
 obtain ⟨c0,c1,c2,c3,c4,c5,c6⟩:=NS.cells nY
 go_region_held (fun w'=>w'.cell? ⟨pb,0,none⟩=some (.int .i64 m.sh)/\w'.cell? ⟨pb,1,none⟩=some (.slice m.pa m.pn m.pc)/\w'.cell? ⟨pb,2,none⟩=some (.string m.ss)/\w'.cell? ⟨pb,3,none⟩=some (.int .i64 m.le)/\w'.cell? ⟨pb,4,none⟩=some (.int .i64 m.mo)/\w'.cell? ⟨pb,5,none⟩=some (.int .i64 m.fa)/\w'.cell? ⟨pb,6,none⟩=some (.int .i64 m.sz))
  (first
   | go_keep
   | exact aa HWD _ lI
   | exact aa HWC _ iy
   | exact aa HWC _ nY)
  (first
   | (go_at_call 71;refine (CV _ B).mono ?_;rintro x w2 ⟨mb,rfl,Hw,hmb,HB2⟩;have HMB:=hide hmb;clear hmb;have iy:Hid (NS w w2 pb m t1):=(by first | exact NS.under HB2 nY | exact NS.under HB2 (NS.under (aa HCB _) nY));obtain ⟨d0,d1,d2,d3,d4,d5,d6⟩:=NS.cells iy)
   | (go_at_call 52;refine (aa HW _ t1 (by first | exact aa iy | exact aa (NS.under (aa HCB _) iy))).mono ?_;rintro x w3 ⟨n,t',T,S,C,rfl,HRn,HT3,u_⟩;have lI:Hid (au w3 pb m):=(by first | exact NS.after iy u_ (aa HP) | exact NS.after (NS.under (aa HCB _) iy) u_ (aa HP));obtain ⟨e0,e1,e2,e3,e4,e5,e6⟩:=au.cells (aa lI)))
 all_goals (clear c0 c1 c2 c3 c4 c5 c6 d0 d1 d2 d3 d4 d5 d6 e0 e1 e2 e3 e4 e5 e6)
 all_goals (go_wp2_with fail)
 all_goals rw [<-aa HQ]
 all_goals
  have Lg:∀ k,TF t1 k->k<w1.heap.size:=fun k hk=>(aa nY).tb.foot hk
  have htb':t'.tb=t1.tb:=(aa u_).tb
  have hmb:=aa HMB
  have VD:mb<w2.heap.size:=(Array.getElem?_eq_some_iff.1 (aa Hw).at_).1
  have hs2:=(aa HB2).size
  have hs3:=(aa u_).size
  have hw0:w.heap.size<=w1.heap.size:=(aa nY).bl.size
 ·have hmt:¬ TF t1 mb:=fun h=>by have h1:=Lg _ h;have h2:w1.heap.size<=mb:=hmb;omega
  obtain ⟨h1,h2,h3,h4⟩:=NV iy Hw hmt HF u_
  have hb4:=aa (aa HCB w3)
  have hlt3:mb<w3.heap.size:=by omega
  exact Ha htb' (Sz.below HT3 hb4) ((aa h1).move (hb4.block mb hlt3)) (aa HCR w3).2 (aa HCR w3).1 (by omega) (fun h=>by have:=(aa HT3).tab.foot h;omega) h2 h3 (by have h9:w1.heap.size<=mb:=hmb;omega) ((aa h4).trans (hb4.mono (aa h4).size)) HRn
 ·have hmt:¬ TF t1 mb:=fun h=>by have h1:=Lg _ h;have h2:w1.heap.size<=mb:=hmb;omega
  have hb4:=aa (aa HCB w2)
  have hs2':w1.heap.size<=w2.heap.size:=hs2
  have hc2:=(aa HCR w2).1
  obtain ⟨h1,h2,h3,h4⟩:=NV (NS.under (aa HCB w2) iy) ((aa Hw).move (hb4.block mb VD)) hmt HF u_
  have hnt:¬ TF t1 w2.heap.size:=fun h=>by have:=Lg _ h;omega
  refine Ha htb' HT3 h1 (hide fun j hj=>?_) (by omega) (by omega) (fun h=>?_) h2 h3 (by have h9:w1.heap.size<=mb:=hmb;omega) h4 HRn
  ·rw [World.cell?_of_block (a:=⟨w2.heap.size,j,none⟩) ((aa u_).block _ hc2 hnt)]
   exact aa (aa HCR w2).2 j hj
  ·rcases (aa u_).foot h with e | e
   ·exact hnt e
   ·omega
 ·have hc1:w1.heap.size<(wc w1.drew).heap.size:=(aa HCR w1.drew).1
  have hmt:¬ TF t1 mb:=fun h=>by have h1:=Lg _ h;omega
  obtain ⟨h1,h2,h3,h4⟩:=NV iy Hw hmt HF u_
  have hnt:¬ TF t1 w1.heap.size:=fun h=>by have:=Lg _ h;omega
  refine Ha htb' HT3 h1 (hide fun j hj=>?_) (by omega) (by omega) (fun h=>?_) h2 h3 (by omega) h4 HRn
  ·rw [World.cell?_of_block (a:=⟨w1.heap.size,j,none⟩) ((aa u_).block _ (by show w1.heap.size<_;omega) hnt)]
   exact aC HB2 hc1 (aa (aa HCR w1.drew).2 j hj)
  ·rcases (aa u_).foot h with e | e
   ·exact hnt e
   ·omega
theorem Dm:∀ {l:List Pt},DU l->∀ p∈l,tC p
 | [],_,_,hp=>by cases hp
 | a::r,h,p,hp=>by
  rw [DU] at h
  rcases List.mem_cons.1 hp with e | e
  ·rw [e];exact h.1
  ·exact Dm h.2 p e
theorem acs {B:List Int} (hB:B.length<=480) {p:Pt} (h:vB p):SP B p->tC p->Fit B p:=by
 induction h with
 | set=>
  intro hs ho
  rw [tC] at ho
  cases hs with
  | set hs=>exact .set ho hs (by have:=(fQ ho hs).1;omega)
 | row _ h2 h3 ih=>
  intro hs ho
  rw [tC] at ho
  cases hs with
  | row hs=>exact .row (fun p hp=>ih p hp (hs p hp) (Dm ho p hp)) h2 h3
 | aZ _ h2 h3 h4 ih=>
  intro hs ho
  rw [tC] at ho
  cases hs with
  | aZ hs=>exact .aZ (fun p hp=>ih p hp (hs p hp) (Dm ho p hp)) h2 h3 h4
 | not _ h2 ih=>
  intro hs ho
  rw [tC] at ho
  cases hs with
  | not hs=>exact .not (ih hs ho) h2
 | rep _ h2 h3 h4 ih=>
  intro hs ho
  rw [tC] at ho
  cases hs with
  | rep hs=>exact .rep (ih hs ho) h2 h3 h4
mutual
theorem Qv:∀ p:Pt,cP p=30000000*zL p
 | .set _=>by rw [cP,zL]
 | .row l=>by rw [cP,zL,NZ l];omega
 | .aZ _ l=>by rw [cP,zL,NZ l];omega
 | .not a=>by rw [cP,zL,Qv a];omega
 | .rep a _ _=>by rw [cP,zL,Qv a];omega
theorem NZ:∀ l:List Pt,cPs l=30000000*qF l
 | []=>by rw [cPs,qF]
 | p::r=>by rw [cPs,qF,Qv p,NZ r];omega
end
def TrR (q:Pt) (n:Nat) (T:List Te) (S:List (Value×Value)):Prop:=Rp T n (cZ q)/\T.length<=3600000003/\S=[]
theorem Dn {B:List Int} {q:Pt} {s:ByteArray} (hB:B.length<=480) (hsp:SP B q) (hq:bG s=.ok q):Hid (∀ (W:World) (F:Nat->Prop) (m:Nd) (X:World) (t:TB),gJ W F m q->Hid (Below W.heap.size W X)->Hid (aX X t nO (ak nO) [] [])->Calls Tryz.prog 52 #[.pointer (some ⟨t.tb,0,none⟩),gm m] X fun e w'=>∃ (n:Nat) (t':TB) (T:List Te) (S C:List (Value×Value)),e=.returned (.int .i64 n)/\Hid (TrR q n T S)/\Hid (Sz B w' t' T S C)/\Hid (a_ t t' X w')):=by
 intro W F m X t hn hb ht
 obtain ⟨f1,f2⟩:=SL hq
 have hf:=acs hB f1 hsp (wC hq)
 have hc:=Qv q
 have hcl:cP q<=3600000000:=by omega
 refine (acm hB hn hf X t nO [] [] (fun _=>False) (hide fun k hk hc=>?_) ⟨aa ht,ti0,⟨List.nodup_nil,fun p hp=>by cases hp⟩,⟨List.nodup_nil,fun p hp=>by cases hp⟩⟩ ?_).mono ?_
 ·obtain ⟨cur,hc⟩:=hc
  exact (aa hb).block k (Array.getElem?_eq_some_iff.1 hc).1
 ·show 3+cP q+100000<=1000000000000
  omega
 ·rintro e w' ⟨n,t',T',S',C',rfl,hr,hy,hx⟩
  have hl:=(aa hx).len
  have h3:nO.length=3:=rfl
  refine ⟨n,t',T',S',C',rfl,hide ⟨hr,by omega,?_⟩,hy,hide (aa hx).fr⟩
  cases S' with
  | nil=>rfl
  | cons a r=>
   rcases (aa hx).new a (List.mem_cons_self ..) with e | ⟨_,_,e,_⟩
   ·cases e
   ·exact e.elim
theorem Hd (G:List Gx) (T:List Te) (K:List Value):mD G T K<=wT G:=by
 unfold mD wT
 induction G with
 | nil=>simp
 | cons g G ih=>
  simp only [List.map_cons,bu]
  split<;>omega
theorem Z4 {t:Tm} {L:List Int} {k:Nat} (hk:k<L.length):VdL t L (aI t (L.take k)) (L.getD k 0):=by
 refine ⟨L.take k,L.drop (k+1),L.take k,?_,List.suffix_refl _,.top (.self _)⟩
 have e:L.getD k 0=L[k]:=by simp [List.getD,hk]
 rw [e,<-List.drop_eq_getElem_cons hk,List.take_append_drop]
set_option maxRecDepth 100000 in
set_option maxHeartbeats 4000000 in
theorem Lh {w:World} {q:Pt} {s u:ByteArray} {k0 k1 k2 k3:Nat} {m:Nd} {Bd:Int} {F:Nat->Prop} (hq:bG s=.ok q) (sN:u.size<=60) (hB:((gu u).length:Int)<Bd) (h0:Hid (au w k0 m)) (h1:w.cell? ⟨k1,0,none⟩=some (.string u)) (h2:w.cell? ⟨k2,0,none⟩=some (.int .i64 Bd)) (h3:w.cell? ⟨k3,0,none⟩=some (.bool false)) (W_:w.frozen? ⟨k3,0,none⟩=false) (He:gJ w F m q) :
  Calls Tryz.prog 66 #[.pointer (some ⟨k0,0,none⟩),.pointer (some ⟨k1,0,none⟩),.pointer (some ⟨k2,0,none⟩),.pointer (some ⟨k3,0,none⟩)] w fun e w'=>e=.returned (.tuple #[])/\∃ W,Hid (Below w.heap.size w W)/\w'=W.setCell ⟨k3,0,none⟩ (.bool (di (aI (cZ q) (gu u)))):=by
 obtain ⟨Bs,yR,hsp⟩:=sM hq
 have hu:(gu u).length<=60:=Nat.le_trans (tY u) sN
 have hg:=G6 u
 obtain ⟨hsum,hnz⟩:=yj hq hu
 have hcn:Cn (cZ q):=rH (wC hq)
 have hS:=GX hcn hnz (L:=gu u) hg hu
 obtain ⟨tf,Xa⟩:∃ tf,di (aI (cZ q) (gu u))=tf:=⟨_,rfl⟩
 rw [Xa]
 have HOF:=Dn yR hsp hq
 have HN:=hide (nW (w:=w) (m:=m) (u:=u) (B:=Bd) (Bs:=Bs) (R:=TrR q) sN (hide fun X t hb ht=>aa HOF w F m X t He hb ht))
 have HS:Hid (∀ (e:Ending) (w1:World),yK Bs w Bd (gu u) (TrR q) e w1->∃ sb:Nat,e=.returned (.pointer (some ⟨sb,0,none⟩))/\Hid (Below w.heap.size w w1)/\Hid (Calls Tryz.prog 67 #[.pointer (some ⟨sb,0,none⟩)] w1 fun e w'=>e=.returned (.bool tf)/\Hid (Below w.heap.size w1 w'))):=by
  rintro e w1 ⟨sb,mb,cb,cap,n,t,T,S,C,rfl,hs,ha,hr,hb⟩
  obtain ⟨r1,r2,r3⟩:=aa hr
  rw [<-Xa]
  refine ⟨sb,rfl,hb,hide (D8 yR hS hs ha hu (fun k hk=>hg _ (by simp [List.getD,hk])) r1 (fun k hk=>Z4 hk) ?_ (by omega) (hide fun w' hw'=>⟨rfl,hw'⟩))⟩
  have:=Hd (uy (cZ q) (nN (gu u))) T (S.map (·.1)++[])
  show T.length+_<=1000000000000
  omega
 obtain ⟨c0,c1,c2,c3,c4,c5,c6⟩:=au.cells (aa h0)
 have hk3:=World.block_lt_of_cell? w _ h3
 have H3:=hide h3
 have H3Z:=hide W_
 clear h3 W_ HOF h0 Xa hsum hnz hcn hS hsp hq He
 simp only [gm] at HN
 clear hB hu hg
 generalize gu u=cs at *
 generalize u=sx at *
 go_enter Tryz.func66,Tryz.ntmps66
 go_wp2_with (first
  | (go_at_call 43;refine (aa HN).mono ?_;clear HN;intro ex w1 hx;obtain ⟨sb,rfl,HB1,HT1⟩:=aa HS ex w1 hx;clear hx HS)
  | (go_at_call 67;refine (aa HT1).mono ?_;clear HT1;rintro ex w2 ⟨rfl,HB2⟩;have HB3:Hid (Below w.heap.size w w2):=(aa HB1).trans (aa HB2);have q3:w2.cell? ⟨k3,0,none⟩=some (.bool false):=aC HB3 hk3 (aa H3);have z3:w2.frozen? ⟨k3,0,none⟩=false:=(by rw [World.frozen?_of_block (a:=⟨k3,0,none⟩) ((aa HB3).block _ hk3)];exact aa H3Z)))
 go_end0
 exact ⟨rfl,w2,HB3,rfl⟩
theorem aaT {t:Tm} {L:List Int} {b k:Nat} (hk:b+k<L.length):VdL t L (aI t ((L.drop b).take k)) (L.getD (b+k) 0):=by
 refine ⟨L.take (b+k),L.drop (b+k+1),(L.drop b).take k,?_,?_,.top (.self _)⟩
 ·have e:L.getD (b+k) 0=L[b+k]:=by simp [List.getD,hk]
  rw [e,<-List.drop_eq_getElem_cons hk,List.take_append_drop]
 ·refine ⟨L.take b,?_⟩
  rw [<-List.take_add]
structure xB (w w':World) (k4 k5:Nat) (o:Option (Nat×Nat)):Prop where
 os:w'.os=w.os
 tape:w'.tape=w.tape
 output:w'.output=w.output
 size:w.heap.size<=w'.heap.size
 block:∀ k,k<w.heap.size->k≠k4->k≠k5->w'.heap[k]? = w.heap[k]?
 c0:w'.cell? ⟨k4,0,none⟩=some (.int .i64 (((o.getD (0,0)).1:Nat):Int))
 c1:w'.cell? ⟨k4,1,none⟩=some (.int .i64 (((o.getD (0,0)).2:Nat):Int))
 c2:w'.cell? ⟨k5,0,none⟩=some (.bool o.isSome)
theorem Z5 {w w2:World} {k4 k5:Nat} {o:Option (Nat×Nat)} {x0 y0 z0:Value} (hb:Below w.heap.size w w2) (m0:w2.cell? ⟨k4,0,none⟩=some x0) (m1:w2.cell? ⟨k4,1,none⟩=some y0) (n0:w2.cell? ⟨k5,0,none⟩=some z0) (h45:k4≠k5):xB w (((w2.setCell ⟨k4,0,none⟩ (.int .i64 (((o.getD (0,0)).1:Nat):Int))).setCell ⟨k4,1,none⟩ (.int .i64 (((o.getD (0,0)).2:Nat):Int))).setCell ⟨k5,0,none⟩ (.bool o.isSome)) k4 k5 o:=by
 obtain ⟨p0,p1⟩:=G5 (x:=.int .i64 (((o.getD (0,0)).1:Nat):Int)) (y:=.int .i64 (((o.getD (0,0)).2:Nat):Int)) m0 m1
 have p2:((w2.setCell ⟨k4,0,none⟩ (.int .i64 (((o.getD (0,0)).1:Nat):Int))).setCell ⟨k4,1,none⟩ (.int .i64 (((o.getD (0,0)).2:Nat):Int))).cell? ⟨k5,0,none⟩=some z0:=by
  rw [World.cell?_of_block (a:=⟨k5,0,none⟩) ((Below.heap_setCell _ ⟨k4,1,none⟩ _ k5 (Ne.symm h45)).trans (Below.heap_setCell _ ⟨k4,0,none⟩ _ k5 (Ne.symm h45)))]
  exact n0
 refine ⟨hb.os,hb.tape,hb.output,by simpa [World.setCell] using hb.size,fun k hk h4 h5=>?_,?_,?_,World.cell?_setCell_same _ _ _ p2⟩
 ·exact (Below.heap_setCell _ ⟨k5,0,none⟩ _ k h5).trans ((Below.heap_setCell _ ⟨k4,1,none⟩ _ k h4).trans ((Below.heap_setCell _ ⟨k4,0,none⟩ _ k h4).trans (hb.block k hk)))
 ·rw [World.cell?_of_block (a:=⟨k4,0,none⟩) (Below.heap_setCell _ ⟨k5,0,none⟩ _ k4 h45)];exact p0
 ·rw [World.cell?_of_block (a:=⟨k4,1,none⟩) (Below.heap_setCell _ ⟨k5,0,none⟩ _ k4 h45)];exact p1
set_option maxRecDepth 100000 in
set_option maxHeartbeats 4000000 in
theorem Dp {w:World} {q:Pt} {s0 u:ByteArray} {k0 k1 k2 k3:Nat} {m:Nd} {B:Int} {F:Nat->Prop} (hq:bG s0=.ok q) (sN:u.size<=60) (hB:((gu u).length:Int)<B) (h0:Hid (au w k0 m)) (h1:w.cell? ⟨k1,0,none⟩=some (.string (u))) (h2:w.cell? ⟨k2,0,none⟩=some (.int .i64 B)) (h3:w.cell? ⟨k3,0,none⟩=some (.bool false)) (W_:w.frozen? ⟨k3,0,none⟩=false) (He:gJ w F m q) :
  Calls Tryz.prog 41 #[.func (.func 66) #[] #[.pointer (some ⟨k0,0,none⟩),.pointer (some ⟨k1,0,none⟩),.pointer (some ⟨k2,0,none⟩),.pointer (some ⟨k3,0,none⟩)]] w fun e w'=>e=.returned (.agg #[.int .i64 0,.int .i64 0])/\Hid (Up k3 w w')/\w'.cell? ⟨k3,0,none⟩=some (.bool (di (aI (cZ q) (gu u)))):=by
 have hmf:∀ (fn:Fn) (first cap:Array Value) (w:World),(Instr.makeFunc fn first cap).run Tryz.prog w=.ok (.func fn first cap) w:=fun _ _ _ _=>rfl
 have hl1:=World.block_lt_of_cell? w _ h1
 have hl2:=World.block_lt_of_cell? w _ h2
 have hl3:=World.block_lt_of_cell? w _ h3
 have HA:Hid (Below w.heap.size w (w.alloc (.cells #[.int .i64 0,.int .i64 0] 74))):=(Below.refl _ _).alloc (Nat.le_refl _) _
 have HW:=hide (Lh (w:=w.alloc (.cells #[.int .i64 0,.int .i64 0] 74)) hq sN hB (au.alloc h0 _) (aC HA hl1 h1) (aC HA hl2 h2) (aC HA hl3 h3) (by rw [World.frozen?_of_block (a:=⟨k3,0,none⟩) ((aa HA).block _ hl3)];exact W_) (He.move fun k hk hl=>⟨(aa HA).block k hl,hk⟩))
 generalize di (aI (cZ q) (gu u))=tf at HW ⊢
 have hnew:w.heap.size<(w.alloc (.cells #[.int .i64 0,.int .i64 0] 74)).heap.size:=by simp
 have c0:=bz w [.int .i64 0,.int .i64 0] 74 0 _ rfl
 have c1:=bz w [.int .i64 0,.int .i64 0] 74 1 _ rfl
 have hne:w.heap.size≠k3:=by have:k3<w.heap.size:=hl3;omega
 have HN:=hide hnew
 have C0:=hide c0
 have C1:=hide c1
 have H3:=hide h3
 have HL3:Hid (k3<w.heap.size):=hl3
 clear h0 h1 h2 h3 W_ hl1 hl2 hl3 hnew c0 c1
 go_enter_defers Tryz.func41,Tryz.ntmps41
 go_wp2_with (go_at_call 66;refine (aa HW).mono ?_;clear HW;rintro e w1 ⟨rfl,W,HB,ew⟩;have HU:Hid (Up k3 (w.alloc (.cells #[.int .i64 0,.int .i64 0] 74)) w1):=(by rw [ew];exact (Up.below (aa HB)).trans ⟨rfl,rfl,rfl,by simp [World.setCell],fun j _ hb=>Below.heap_setCell W ⟨k3,0,none⟩ _ j hb⟩);have Q3:Hid (w1.cell? ⟨k3,0,none⟩=some (.bool tf)):=(by rw [ew];exact World.cell?_setCell_same _ _ _ (aC HB (Nat.lt_trans (aa HL3) (aa HN)) (aC HA (aa HL3) (aa H3))));clear ew;have q0:w1.cell? ⟨w.heap.size,0,none⟩=some (.int .i64 0):=(by rw [World.cell?_of_block (a:=⟨w.heap.size,0,none⟩) ((aa HU).block _ (aa HN) hne)];exact aa C0);have q1:w1.cell? ⟨w.heap.size,1,none⟩=some (.int .i64 0):=(by rw [World.cell?_of_block (a:=⟨w.heap.size,1,none⟩) ((aa HU).block _ (aa HN) hne)];exact aa C1);have z0:w1.frozen? ⟨w.heap.size,0,none⟩=false:=(by rw [World.frozen?_of_block (a:=⟨w.heap.size,0,none⟩) ((aa HU).block _ (aa HN) hne)];exact World.frozen?_alloc_at _ _ _ _ rfl);have z1:w1.frozen? ⟨w.heap.size,1,none⟩=false:=(by rw [World.frozen?_of_block (a:=⟨w.heap.size,1,none⟩) ((aa HU).block _ (aa HN) hne)];exact World.frozen?_alloc_at _ _ _ _ rfl))
 have hl1:=World.block_lt_of_cell? w1 _ q0
 refine leaves_cons (f:=70) (args:=#[.pointer (some ⟨w.heap.size,0,none⟩)]) (by simp) (by simp [go_sem]) ?_
 refine (qC ⟨w.heap.size,0,none⟩ _).mono ?_
 rintro e u' w'' ⟨rfl,rfl,rfl⟩
 show Leaves _ _ _ _ [] .returning _
 refine ⟨.agg #[.int .i64 0,.int .i64 0],?_,rfl,?_,?_⟩
 ·simp [results,Tryz.results41,go_sem,q0,q1]
 ·exact Up.mr (Up.mr ((Up.below ((Below.refl _ _).alloc (Nat.le_refl _) _)).trans (aa HU)) _ _ _ (Nat.le_refl _)) _ _ _ (Nat.le_refl _)
 ·rw [World.cell?_of_block (a:=⟨k3,0,none⟩) ((Below.heap_setCell _ ⟨w.heap.size,1,none⟩ _ k3 (Ne.symm hne)).trans (Below.heap_setCell _ ⟨w.heap.size,0,none⟩ _ k3 (Ne.symm hne)))]
  exact aa Q3
set_option maxRecDepth 100000 in
set_option maxHeartbeats 4000000 in
theorem N7 {w:World} {p u:ByteArray} {B:Int} {z:Pn} (hq:bG p=.ok z.1) (hs:p.size<=60) (sN:u.size<=60) (ht:Hid (Lib.Utf8Tabs 4 5 w)) (hR:Hid (jl p=.ok z)) (hz:¬ 60<z.2) (hB:((gu u).length:Int)<B) (hB1:B<=200) :
  Calls Tryz.prog 37 #[.string p,.string (u),.int .i64 B] w fun e w'=>e=.returned (.tuple #[.bool (di (aI (cZ z.1) (gu u))),.int .i64 0])/\Hid (Below w.heap.size w w'):=by
 obtain ⟨tf,Xa⟩:∃ tf,di (aI (cZ z.1) (gu u))=tf:=⟨_,rfl⟩
 rw [Xa]
 obtain ⟨wb,hwb⟩:∃ wb,(w.alloc (.cells #[.string (u)] 9)).alloc (.cells #[.int .i64 B] 3)=wb:=⟨_,rfl⟩
 have s1:(w.alloc (.cells #[.string (u)] 9)).heap.size=w.heap.size+1:=by simp
 have Dq:Hid (Below w.heap.size w wb):=by
  rw [<-hwb]
  exact ((Below.refl _ _).alloc (Nat.le_refl _) _).alloc (by rw [s1];omega) _
 have htb:Hid (Lib.Utf8Tabs 4 5 wb):=by
  have hlt:=lM (aa ht)
  exact iE (aa ht) ((aa Dq).block 4 (by omega)) ((aa Dq).block 5 (by omega))
 have b1:wb.cell? ⟨w.heap.size,0,none⟩=some (.string (u)):=by
  rw [<-hwb,World.cell?_alloc_past _ _ _ (by show w.heap.size<_;rw [s1];omega)]
  exact az rfl 0 rfl
 have b2:wb.cell? ⟨w.heap.size+1,0,none⟩=some (.int .i64 B):=by
  rw [<-hwb,<-s1]
  exact az rfl 0 rfl
 have Ns:=hide (qD (w:=wb) (u:=u) (B:=B) hs sN htb hR hz (by omega) hB1)
 have hmf:∀ (fn:Fn) (first cap:Array Value) (w:World),(Instr.makeFunc fn first cap).run Tryz.prog w=.ok (.func fn first cap) w:=fun _ _ _ _=>rfl
 have HAM:Hid (∀ (w2:World) (m:Nd),Hid (Below wb.heap.size wb w2)->Hid (aV w2 (fun k=>wb.heap.size<k) m z)->Calls Tryz.prog 41 #[.func (.func 66) #[] #[.pointer (some ⟨w2.heap.size,0,none⟩),.pointer (some ⟨w.heap.size,0,none⟩),.pointer (some ⟨w.heap.size+1,0,none⟩),.pointer (some ⟨w2.heap.size+1,0,none⟩)]] ((w2.alloc (aB m)).alloc (.cells #[.bool false] 4)) fun e w'=>e=.returned (.agg #[.int .i64 0,.int .i64 0])/\Hid (Below w.heap.size w w')/\w'.cell? ⟨w2.heap.size+1,0,none⟩=some (.bool tf)):=by
  intro w2 m hb hn
  have hw2:(w2.alloc (aB m)).heap.size=w2.heap.size+1:=by simp
  have hb0:Below w.heap.size w w2:=(aa Dq).trans ((aa hb).mono (aa Dq).size)
  have hA:Below w2.heap.size w2 ((w2.alloc (aB m)).alloc (.cells #[.bool false] 4)):=((Below.refl _ _).alloc (Nat.le_refl _) _).alloc (by rw [hw2];omega) _
  have hc3:((w2.alloc (aB m)).alloc (.cells #[.bool false] 4)).cell? ⟨w2.heap.size+1,0,none⟩=some (.bool false):=by rw [<-hw2];exact az rfl 0 rfl
  have hz3:((w2.alloc (aB m)).alloc (.cells #[.bool false] 4)).frozen? ⟨w2.heap.size+1,0,none⟩=false:=by rw [<-hw2];exact World.frozen?_alloc_at _ _ _ _ rfl
  refine (Dp hq sN hB (au.alloc (hide (au.new w2 m)) _) (aC (hide hA) (World.block_lt_of_cell? _ _ (aC hb (World.block_lt_of_cell? _ _ b1) b1)) (aC hb (World.block_lt_of_cell? _ _ b1) b1)) (aC (hide hA) (World.block_lt_of_cell? _ _ (aC hb (World.block_lt_of_cell? _ _ b2) b2)) (aC hb (World.block_lt_of_cell? _ _ b2) b2)) hc3 hz3 ((aa hn).2.move fun k hk hl=>⟨hA.block k hl,hk⟩)).mono ?_
  rintro ex w' ⟨e,hU,hc⟩
  rw [Xa] at hc
  have hU':=aa hU
  have hAs:=hA.size
  refine ⟨e,⟨hU'.os.trans (hA.os.trans hb0.os),hU'.tape.trans (hA.tape.trans hb0.tape),hU'.output.trans (hA.output.trans hb0.output),Nat.le_trans hb0.size (Nat.le_trans hAs hU'.size),fun k hk=>?_⟩,hc⟩
  have h2:=hb0.size
  exact (hU'.block k (by omega) (by omega)).trans ((hA.block k (by omega)).trans (hb0.block k hk))
 clear ht htb hR hz hs sN b1 b2 Dq s1 Xa
 subst hwb
 go_enter Tryz.func37,Tryz.ntmps37
 go_wp2_with (first
  | (go_at_call 38;refine (aa Ns).mono ?_;clear Ns;simp only [gm];rintro ex w2 ⟨m,rfl,HB2,iy⟩;have HA2:=hide (aa HAM w2 m HB2 iy);clear HAM)
  | (go_at_call 41;refine (aa HA2).mono ?_;clear HA2;rintro ex w3 ⟨rfl,HB3,q3⟩;have q4:=World.block_lt_of_cell? w3 _ q3))
 have g1:(w3.alloc (.cells #[.int .i64 0,.int .i64 0] 74)).cell? ⟨w2.heap.size+1,0,none⟩=some (.bool tf):=by rw [World.cell?_alloc_past _ _ _ q4];exact q3
 have g2:(w3.alloc (.cells #[.int .i64 0,.int .i64 0] 74)).cell? ⟨w3.heap.size,0,none⟩=some (.int .i64 0):=az rfl 0 rfl
 have qh:Hid (Below w.heap.size w (w3.alloc (.cells #[.int .i64 0,.int .i64 0] 74))):=(aa HB3).alloc (aa HB3).size _
 generalize w3.alloc (.cells #[.int .i64 0,.int .i64 0] 74)=W4 at *
 go_quiet (fail)
 go_wp2_with fail
 have h:=aa qh
 refine bodyPost_ret (v:=.tuple #[.bool tf,.int .i64 0]) ?_ rfl ⟨rfl,⟨h.os,h.tape,h.output,h.size,h.block⟩⟩
 simp [results,Tryz.results37,go_sem]
end Go.Proofs.YtfolanohokflkaaGreatDoor
