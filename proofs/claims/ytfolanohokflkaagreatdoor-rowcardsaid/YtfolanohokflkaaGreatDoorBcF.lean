import Derived.Test.YtfolanohokflkaaGreatDoorBecA
import Derived.Test.YtfolanohokflkaaGreatDoorBecB
import Derived.WalkKit
import Derived.WalkSpells
import Derived.WalkLawsBesides
import Derived.WalkMore
import Derived.Deep.QuietTactic
import Derived.BigQuiet
import Derived.BigRegion
import Derived.Deep.RegionHeld3
import Derived.Test.YtfolanohokflkaaGreatDoorKlD
namespace Go.Proofs.YtfolanohokflkaaGreatDoor
open Go.RowKit
open Tm (eps)
theorem Seg.uniq {y:Tm} {c d d':Int} (h:Seg y c d) (hd:sI y d) (h':Seg y c d') (hd':sI y d'):d=d':=by
 have h1:=(h d hd).2 (Int.le_refl _)
 have h2:=(h' d' hd').2 (Int.le_refl _)
 have h3:=(h d' hd').1 h2
 have h4:=(h' d hd).1 h1
 omega
def yI (T:List Te) (K:List Value) (y:Tm) (c:Int):Prop:=∃ (n:Nat) (d:Int),Rp T n y/\sI y d/\Seg y c d/\kC n d∈K
theorem yI.mono {T X:List Te} {K K':List Value} {y:Tm} {c:Int} (h:yI T K y c) (hk:∀ v∈K,v∈K'):yI (T++X) K' y c:=by
 obtain ⟨n,d,h1,h2,h3,h4⟩:=h
 exact ⟨n,d,h1.mono,h2,h3,hk _ h4⟩
open Classical in
noncomputable def nk (G:List Gx) (T:List Te) (K:List Value):Nat:=bC (G.map fun g=>if yI T K g.1.1 g.1.2 then 0 else g.2)
theorem WN {G:List Gx} {T T':List Te} {K K':List Value} (h:∀ y c,yI T K y c->yI T' K' y c):nk G T' K'<=nk G T K:=by
 unfold nk
 induction G with
 | nil=>simp [bC]
 | cons g G ih=>
  simp only [List.map_cons,bC]
  by_cases h1:yI T K g.1.1 g.1.2
  ·rw [if_pos h1,if_pos (h _ _ h1)];omega
  ·rw [if_neg h1]
   split<;>omega
theorem KV {G:List Gx} {T X:List Te} {K K':List Value} (hk:∀ v∈K,v∈K'):nk G (T++X) K'<=nk G T K:=WN fun _ _ h=>h.mono hk
theorem KW {G:List Gx} {T:List Te} {K K':List Value} (hk:∀ v∈K,v∈K'):nk G T K'<=nk G T K:=by
 have:=KV (G:=G) (T:=T) (X:=[]) hk
 rwa [List.append_nil] at this
theorem aai {G:List Gx} {T:List Te} {K K':List Value} {y:Tm} {c:Int} {k:Nat} (hm:((y,c),k)∈G) (h1:¬ yI T K y c) (h2:yI T K' y c) (hk:∀ v∈K,v∈K'):nk G T K'+k<=nk G T K:=by
 have hmono:∀ y c,yI T K y c->yI T K' y c:=fun y c h=>by have:=h.mono (X:=[]) hk;rwa [List.append_nil] at this
 induction G with
 | nil=>cases hm
 | cons g G ih=>
  have hrest:=WN (G:=G) hmono
  unfold nk at ih hrest ⊢
  simp only [List.map_cons,bC]
  rcases List.mem_cons.1 hm with e | e
  ·subst e
   rw [if_neg h1,if_pos h2]
   omega
  ·have:=ih e
   by_cases h3:yI T K g.1.1 g.1.2
   ·rw [if_pos h3,if_pos (hmono _ _ h3)];omega
   ·rw [if_neg h3]
    split<;>omega
theorem WO {B:List Int} {T:List Te} (hT:TI B T) {K:List Value} {n:Nat} {y:Tm} {c d:Int} (hr:Rp T n y) (hd:sI y d) (hs:Seg y c d) (hm:kC n d∉K):¬ yI T K y c:=by
 rintro ⟨n',d',h1,h2,h3,h4⟩
 rw [hT.inj n' n y h1 hr,h3.uniq h2 hs hd] at h4
 exact hm h4
def SV2 (T:List Te) (S:List (Value×Value)):Prop:=
 (S.map (·.1)).Nodup/\∀ p∈S,∃ (n:Nat) (d:Int) (r:Nat) (y:Tm),p=(kC n d,.int .i64 (r:Int))/\n<=gH/\(Lit.int .i32 d).wf=true/\Rp T n y/\Rp T r (aG d y)
theorem SV2.keys {T:List Te} {S:List (Value×Value)} (h:SV2 T S):∀ p∈S,∃ x,keyOf Tryz.prog 227 p.1=some x:=fun p hp=>by
 obtain ⟨n,c,r,y,e,h1,h2,-⟩:=h.2 p hp
 rw [e]
 exact N8 h1 h2
theorem SV2.grow {T X:List Te} {S:List (Value×Value)} (h:SV2 T S):SV2 (T++X) S:=by
 refine ⟨h.1,fun p hp=>?_⟩
 obtain ⟨n,c,r,y,e,h1,h2,h3,h4⟩:=h.2 p hp
 exact ⟨n,c,r,y,e,h1,h2,h3.mono,h4.mono⟩
theorem SV2.add {T:List Te} {S:List (Value×Value)} {n:Nat} {c:Int} {r:Nat} {y:Tm} (h:SV2 T S) (hn:n<=gH) (hc:(Lit.int .i32 c).wf=true) (hy:Rp T n y) (hb:Rp T r (aG c y)) (hm:∀ p∈S,p.1≠kC n c):SV2 T (S++[(kC n c,.int .i64 (r:Int))]):=by
 refine ⟨?_,fun p hp=>?_⟩
 ·rw [List.map_append]
  refine List.nodup_append.2 ⟨h.1,by simp,fun a ha d hd e=>?_⟩
  obtain ⟨p,hp,rfl⟩:=List.mem_map.1 ha
  simp at hd
  exact hm p hp (e.trans hd)
 ·rcases List.mem_append.1 hp with hp | hp
  ·exact h.2 p hp
  ·rw [List.mem_singleton] at hp
   exact ⟨n,c,r,y,hp,hn,hc,hy,hb⟩
structure Sz (B:List Int) (w:World) (t:TB) (T:List Te) (S C:List (Value×Value)):Prop where
 tab:bf w t T (ak T) S C
 ti:TI B T
 cv:iQ w t T C
 sv:SV2 T S
structure Nx (G:List Gx) (V:List Value) (ok:Nat->Prop) (g:Nat) (w:World) (t:TB) (T:List Te) (S:List (Value×Value)) (w':World) (t':TB) (T':List Te) (S':List (Value×Value)):Prop where
 sub:∃ X,T'=T++X
 zN:∀ p∈S,p∈S'
 new:∀ p∈S',p∈S\/∃ (i:Nat) (d:Int),ok i/\p.1=kC i d
 fr:bq t t' w w'
 pay:T'.length+nk G T' (S'.map (·.1)++V)<=T.length+nk G T (S.map (·.1)++V)+g
theorem Nx.trans {G:List Gx} {V:List Value} {ok:Nat->Prop} {g g':Nat} {w w1 w2:World} {t t1 t2:TB} {T T1 T2:List Te} {S S1 S2:List (Value×Value)} (h:Nx G V ok g w t T S w1 t1 T1 S1) (h':Nx G V ok g' w1 t1 T1 S1 w2 t2 T2 S2):Nx G V ok (g+g') w t T S w2 t2 T2 S2 where
 sub:=by
  obtain ⟨X,e⟩:=h.sub
  obtain ⟨Y,e'⟩:=h'.sub
  exact ⟨X++Y,by rw [e',e,List.append_assoc]⟩
 zN:=fun p hp=>h'.zN p (h.zN p hp)
 new:=fun p hp=>by
  rcases h'.new p hp with q | q
  ·exact h.new p q
  ·exact .inr q
 fr:=h.fr.trans h'.fr
 pay:=by have:=h.pay;have:=h'.pay;omega
theorem Nx.rp {G:List Gx} {V:List Value} {ok:Nat->Prop} {g:Nat} {w w1:World} {t t1:TB} {T T1:List Te} {S S1:List (Value×Value)} (h:Nx G V ok g w t T S w1 t1 T1 S1) {n:Nat} {y:Tm} (hr:Rp T n y):Rp T1 n y:=by
 obtain ⟨X,e⟩:=h.sub
 rw [e];exact hr.mono
theorem Nx.get {G:List Gx} {V:List Value} {ok:Nat->Prop} {g:Nat} {w w1:World} {t t1:TB} {T T1:List Te} {S S1:List (Value×Value)} (h:Nx G V ok g w t T S w1 t1 T1 S1) {n:Nat} {x:Te} (hr:T[n]? = some x):T1[n]? = some x:=by
 obtain ⟨X,e⟩:=h.sub
 rw [e,List.getElem?_append_left (List.getElem?_eq_some_iff.1 hr).1];exact hr
theorem Nx.world {G:List Gx} {V:List Value} {ok:Nat->Prop} {w w':World} {t:TB} {T:List Te} {S:List (Value×Value)} (h:bq t t w w'):Nx G V ok 0 w t T S w' t T S:=
 ⟨⟨[],by simp⟩,fun _ h=>h,fun _ h=>.inl h,h,Nat.le_refl _⟩
theorem Nx.op {B:List Int} {G:List Gx} {V:List Value} {ok:Nat->Prop} {w w':World} {t t':TB} {T:List Te} {S:List (Value×Value)} {R:List Te×Nat} {z:Tm} {g:Nat} (h:Op B T R z g) (hf:bq t t' w w'):Nx G V ok g w t T S w' t' R.1 S:=by
 refine ⟨h.sub,fun _ h=>h,fun _ h=>.inl h,hf,?_⟩
 obtain ⟨X,e⟩:=h.sub
 have h1:=h.len
 have h2:nk G R.1 (S.map (·.1)++V)<=nk G T (S.map (·.1)++V):=by rw [e];exact KV fun _ h=>h
 omega
theorem Sz.op {B:List Int} {w w':World} {t t':TB} {T:List Te} {S C:List (Value×Value)} {R:List Te×Nat} {z:Tm} {g:Nat} (h:Sz B w t T S C) (ho:Op B T R z g) (ht:Hid (bf w' t' R.1 (ak R.1) S C)) (hf:Hid (bq t t' w w')):Sz B w' t' R.1 S C:=by
 have hc:=iQ.fr (hide h.cv) hf
 obtain ⟨X,e⟩:=ho.sub
 refine ⟨aa ht,ho.ti,?_,?_⟩
 ·rw [e];exact (aa hc).grow
 ·rw [e];exact h.sv.grow
theorem Sz.move {B:List Int} {w w':World} {t:TB} {T:List Te} {S C:List (Value×Value)} (h:Sz B w t T S C) (hm:∀ k,k<w.heap.size->w'.heap[k]? = w.heap[k]?):Sz B w' t T S C:=
 ⟨h.tab.move fun k _ hk=>hm k hk,h.ti,aa (iQ.move (hide h.cv) fun k hk _=>hm k hk),h.sv⟩
def BO (B:List Int) (G:List Gx) (V:List Value) (ok:Nat->Prop) (g:Nat) (z:Tm) (w:World) (t:TB) (T:List Te) (S:List (Value×Value)) (e:Ending) (w':World):Prop:=
 ∃ (r:Nat) (t':TB) (T':List Te) (S' C':List (Value×Value)),e=.returned (.int .i64 (r:Int))/\Rp T' r z/\Hid (Sz B w' t' T' S' C')/\Hid (Nx G V ok g w t T S w' t' T' S')
def KX (B:List Int) (G:List Gx) (n:Nat) (y:Tm) (c:Int):Prop:=
 ∀ (w:World) (t:TB) (T:List Te) (S C:List (Value×Value)) (V:List Value) (d:Int),Rp T n y->aD d=true->Seg y c d->(∀ v∈V,∃ (m:Nat) (d':Int),n<m/\v=kC m d')->Hid (Sz B w t T S C)->T.length+nk G T (S.map (·.1)++V)<=gH ->
  Calls Tryz.prog 101 #[.pointer (some ⟨t.tb,0,none⟩),.int .i64 n,.int .i32 d] w (BO B G V (fun i=>i<=n) 0 (aG d y) w t T S)
def Hl (B:List Int) (G:List Gx) (n:Nat) (y:Tm) (c:Int) (k:Ky) (f:Nat) (g:Nat):Prop:=
 ∀ (w:World) (t:TB) (T:List Te) (S C:List (Value×Value)) (V:List Value) (d:Int) (b:Bool),Rp T n y->T[n]? = some (k,b)->aD d=true->Seg y c d->(∀ v∈V,∃ (m:Nat) (d':Int),n<=m/\v=kC m d')->Hid (Sz B w t T S C)->T.length+nk G T (S.map (·.1)++V)+g<=gH ->
  Calls Tryz.prog f #[.pointer (some ⟨t.tb,0,none⟩),iL k,.int .i32 d] w (BO B G V (fun i=>i<n) g (aG d y) w t T S)
end Go.Proofs.YtfolanohokflkaaGreatDoor
namespace Go.Proofs.YtfolanohokflkaaGreatDoor
open Go.RowKit
open Tm (eps)
section
variable {w:World} {t:TB} {T:List Te} {N S C:List (Value×Value)} {k:Ky} {B:List Int} {G:List Gx} {V:List Value} {P:Tm->Prop}
theorem WQ {d:Int} (h:aD d=true):(Lit.int .i32 d).wf=true:=by
 have:=aC.1 h
 have h1:IntKind.i32.min<=d:=Int.le_trans (by decide) (show (0:Int)<=d by omega)
 have h2:d<=IntKind.i32.max:=Int.le_trans (show d<=1114111 by omega) (by decide)
 simp [Lit.wf,h1,h2]
theorem acA {y:Tm} {l:List Int} {c:Int} {i:Nat} (hok:gp y) (h:yx y l) (hc:aD c=true) (hb:Bs l c i i) (hf:¬ (i<l.length/\l.getD i 0=c)):∃ p,i=p+1/\p<l.length/\l.getD p 0∈l/\Seg y c (l.getD p 0):=by
 have hc0:0<=c:=by have:=aC.1 hc;omega
 obtain ⟨j,hj,hz⟩:=List.mem_iff_getElem.1 ((h.mem 0).2 (og hok))
 have hzj:l.getD j 0=0:=by rw [List.getD_eq_getElem?_getD,List.getElem?_eq_getElem hj];exact hz
 cases i with
 | zero=>
  exfalso
  have h1:=hb.hi j (Nat.zero_le _) hj
  have hpos:0<l.length:=by omega
  have h0:=hb.hi 0 (Nat.le_refl _) hpos
  have hm:l.getD 0 0∈l:=by rw [List.getD_eq_getElem?_getD,List.getElem?_eq_getElem hpos];exact List.getElem_mem _
  have hle:l.getD 0 0<=l.getD j 0:=by
   rcases Nat.eq_zero_or_pos j with e | e
   ·rw [e];exact Int.le_refl _
   ·have:=List.pairwise_iff_getElem.1 h.rise 0 j hpos hj e
    rw [List.getD_eq_getElem?_getD,List.getElem?_eq_getElem hpos,List.getD_eq_getElem?_getD,List.getElem?_eq_getElem hj]
    exact Int.le_of_lt this
  exact hf ⟨hpos,by omega⟩
 | succ p=>
  have hp:p<l.length:=by have:=hb.ln;omega
  have hm:l.getD p 0∈l:=by rw [List.getD_eq_getElem?_getD,List.getElem?_eq_getElem hp];exact List.getElem_mem _
  refine ⟨p,rfl,hp,hm,h.Ig (Int.le_of_lt (hb.lo p (Nat.lt_succ_self p))) fun b hbm hbc=>?_⟩
  obtain ⟨q,hq,rfl⟩:=List.mem_iff_getElem.1 hbm
  have e1:l.getD p 0=l[p]:=by rw [List.getD_eq_getElem?_getD,List.getElem?_eq_getElem hp];rfl
  have e2:l.getD q 0=l[q]:=by rw [List.getD_eq_getElem?_getD,List.getElem?_eq_getElem hq];rfl
  rw [e1]
  rcases Nat.lt_trichotomy q p with h1 | h1 | h1
  ·exact Int.le_of_lt (List.pairwise_iff_getElem.1 h.rise q p hq hp h1)
  ·subst h1;exact Int.le_refl _
  ·have h2:=hb.hi q h1 hq
   rw [e2] at h2
   have he:c=l[q]:=by omega
   have hq2:q=p+1:=by
    rcases Nat.lt_or_ge (p+1) q with h3 | h3
    ·have h4:=List.pairwise_iff_getElem.1 h.rise (p+1) q (by omega) hq h3
     have h5:=hb.hi (p+1) (Nat.le_refl _) (by omega)
     rw [List.getD_eq_getElem?_getD,List.getElem?_eq_getElem (by omega)] at h5
     have h6:c<=l[p+1]:=h5
     omega
    ·omega
   exact absurd ⟨by omega,by rw [<-hq2,e2];exact he.symm⟩ hf
theorem aaj {n m:Nat} {d d':Int} (h:kC n d=kC m d'):n=m:=(xA h).1
theorem Qd (hT:TI B T) {n gg:Nat} {y:Tm} {c d:Int} (hr:Rp T n y) (hd:sI y d) (hs:Seg y c d) (hm:∀ p∈S,p.1≠kC n d) (hv:∀ v∈V,∃ (m:Nat) (d':Int),n<m/\v=kC m d') (hp:gg=0\/∃ k,((y,c),k)∈G/\gg<=k) :
  nk G T (S.map (·.1)++kC n d::V)+gg<=nk G T (S.map (·.1)++V):=by
 have hsub:∀ v∈S.map (·.1)++V,v∈S.map (·.1)++kC n d::V:=fun v hv=>by
  rcases List.mem_append.1 hv with q | q
  ·exact List.mem_append_left _ q
  ·exact List.mem_append_right _ (List.mem_cons_of_mem _ q)
 rcases hp with e | ⟨k,hk,hle⟩
 ·rw [e];exact KW hsub
 ·have:=aai hk (WO hT hr hd hs (K:=S.map (·.1)++V) (fun q=>by
   rcases List.mem_append.1 q with q | q
   ·obtain ⟨p,hp,e⟩:=List.mem_map.1 q
    exact hm p hp e
   ·obtain ⟨m,d',h1,h2⟩:=hv _ q
    have:=aaj h2
    omega)) ⟨n,d,hr,hd,hs,List.mem_append_right _ (List.mem_cons_self ..)⟩ hsub
  omega
theorem Qe {w0 w w1 w2:World} {t0 t1:TB} {T1:List Te} {S1:List (Value×Value)} {n gg:Nat} {d:Int} {r:Value} (h:Nx G (kC n d::V) (fun i=>i<n) gg w t T S w1 t1 T1 S1) (hf:bq t0 t1 w0 w2) (hp:nk G T (S.map (·.1)++kC n d::V)+gg<=nk G T (S.map (·.1)++V)):Nx G V (fun i=>i<=n) 0 w0 t0 T S w2 t1 T1 (S1++[(kC n d,r)]) where
 sub:=h.sub
 zN:=fun p hp=>List.mem_append_left _ (h.zN p hp)
 new:=fun p hp=>by
  rcases List.mem_append.1 hp with q | q
  ·rcases h.new p q with q | ⟨i,d',q1,q2⟩
   ·exact .inl q
   ·exact .inr ⟨i,d',Nat.le_of_lt q1,q2⟩
  ·rw [List.mem_singleton] at q
   exact .inr ⟨n,d,Nat.le_refl _,by rw [q]⟩
 fr:=hf
 pay:=by
  have h1:=h.pay
  have h2:nk G T1 ((S1++[(kC n d,r)]).map (·.1)++V)<=nk G T1 (S1.map (·.1)++kC n d::V):=KW fun v hv=>by
   rw [List.map_append]
   rcases List.mem_append.1 hv with q | q
   ·exact List.mem_append_left _ (List.mem_append_left _ q)
   ·rcases List.mem_cons.1 q with q | q
    ·exact List.mem_append_left _ (List.mem_append_right _ (by simp [q]))
    ·exact List.mem_append_right _ q
  omega
set_option maxRecDepth 100000 in
set_option maxHeartbeats 4000000 in
theorem jw {n m f gg:Nat} {b:Bool} {c d0:Int} {y:Tm} (hB:B.length<=480) (hP:Fw P) (hy:P y) (hr:Rp T n y) (hx:T[n]? = some (k,b)) (acB:aD d0=true) (hsg:Seg y c d0) (hvn:∀ v∈V,∃ (m:Nat) (d':Int),n<m/\v=kC m d') (h:Hid (Sz B w t T S C)) (hlim:T.length+nk G T (S.map (·.1)++V)<=gH) (hpay:gg=0\/∃ k,((y,c),k)∈G/\gg<=k) (hkd:k.kd=(m:Int)) (hm7:m<7) (hcell:dY[m*3+1]? = some (fv f))
  (hcf:∀ (args:Array Value) (w:World),(callFunc f args).run Tryz.prog w=.ok (.enter f args) w) (HF:Hid (Hl B G n y c k f gg)) :
  Calls Tryz.prog 101 #[.pointer (some ⟨t.tb,0,none⟩),.int .i64 n,.int .i32 d0] w (BO B G V (fun i=>i<=n) 0 (aG d0 y) w t T S):=by
 have hTI:=(aa h).ti
 have hn:n<=gH:=by have:=hr.lt;omega
 have hcn:=hTI.cn hr
 have HTI:=hide hTI
 have Ea:=hide (KU hTI hB (by omega) hP hr hy (hide (aa h).tab) (hide (aa h).cv))
 have HR:=hide hr
 have HV:=hide (aa h).sv
 have HVN:=hide hvn
 have HSG:=hide hsg
 have HOK:=hide hcn.ok
 have adY:∀ l,yx y l->l.length<=481:=fun l hl=>by have:=hl.len hcn.ok (hTI.sin n y hr);omega
 clear hTI hr hvn hsg hcn h hy hB
 go_enter Tryz.func101,Tryz.ntmps101
 go_wp2_with (go_at_call 125;refine (aa Ea).mono ?_;clear Ea;rintro x w1 ⟨l,g,cap,C1,rfl,hcl,KD,HT1,Ma,rD,hk1,ha1⟩;have hlen:=adY l hcl;have WR:=hide hcl;have KY:=hide (GY w1 g l.length cap l d0 (by omega) (hide (aa KD).rn) (hide hcl.rise));clear hcl hk1 ha1)
 refine (aa KY).mono ?_
 clear KY
 rintro x w2 ⟨i,rfl,HB2,HBs⟩
 by_cases hfd:i<l.length/\l.getD i 0=d0
 ·rw [decide_eq_true hfd]
  have Yf:(i:Int)<(l.length:Int):=by omega
  have hi0:(0:Int)<=(i:Int):=by omega
  have c1:=((aa (kZ.below KD (aa HB2))).rn.get hfd.1).1
  have N9:l.getD i 0∈l:=by rw [List.getD_eq_getElem?_getD,List.getElem?_eq_getElem hfd.1];exact List.getElem_mem _
  have C_:Seg y d0 (l.getD i 0):=by rw [hfd.2];exact Seg.refl _ _
  obtain ⟨d,hd⟩:∃ d,l.getD i 0=d:=⟨_,rfl⟩
  rw [hd] at c1 N9 C_
  have HDL:=N9
  have N_:=C_
  clear N9 C_ hd
  have hsl:aD d=true:=m_ (aa HOK) ((aa WR).mem d |>.1 HDL)
  have WS:sI y d:=((aa WR).mem d).1 HDL
  have hwf:(Lit.int .i32 d).wf=true:=WQ hsl
  have WT:Hid (aG d y=aG d0 y):=oK hsl acB _ (Nat.le_refl _) (aa HOK) N_.symm
  have HSC:Hid (Seg y c d):=(aa HSG).trans N_
  have C9:=hide WS
  have HSL:=hide hsl
  clear hsl WS HDL N_
  have HT2:=bf.below HT1 (aa HB2)
  have xK:=iQ.move Ma (fun k hk _=>(aa HB2).block k hk)
  have Tj:=bf.alloc HT2 (.cells #[.int .i64 n,.int .i32 d] 227)
  have HCd:=iQ.move (w':=w2.alloc (.cells #[.int .i64 n,.int .i32 d] 227)) xK (fun k hk _=>Below.heap_alloc w2 _ k hk)
  have HFd:Hid (bq t t w (w2.alloc (.cells #[.int .i64 n,.int .i32 d] 227))):=((aa rD).trans (bq.below (aa HB2))).trans (bq.below ((Below.refl _ _).alloc (Nat.le_refl _) _))
  obtain ⟨q1,q2,q3,q4⟩:=(aa Tj).cells
  have Mg:=hide (heap_alloc_new w2 (.cells #[.int .i64 n,.int .i32 d] 227))
  have HFT:Hid (∀ k,TF t k->k<w2.heap.size):=fun k hk=>(aa HT2).foot hk
  clear HT1 Ma HT2 xK rD
  dsimp only
  by_cases hit:∃ p∈S,p.1=kC n d
  ·obtain ⟨p,hp,hpn⟩:=hit
   obtain ⟨n',d',r,y',e,h1,h2,h3,h4⟩:=(aa HV).2 p hp
   rw [e] at hpn
   obtain ⟨rfl,rfl⟩:=xA hpn
   obtain ⟨j,hj⟩:=List.mem_iff_getElem?.1 hp
   rw [e] at hj
   have hlk:=fun q=>vN uk Tryz.underlying127 ((aa Tj).drew q).sb (aa HV).keys (N8 hn hwf) (aa HV).1 hj
   unfold kC at hlk
   have WU:=hlk 0
   rw [h3.uniq (aa HR),aa WT] at h4
   have HBR:=hide h4
   clear h1 h2 h3 h4 e hp hpn hj q2
   go_wp2_with fail
   go_quiet (fail)
   go_wp2_with fail
   go_ret
   exact ⟨r,t,T,S,C1,rfl,aa HBR,⟨(aa Tj).drew nq,aa HTI,aa (iQ.move HCd (fun _ _ _=>rfl)),aa HV⟩,Nx.world (bq.drewN (aa HFd) nq)⟩
  ·have hmiss:∀ p∈S,p.1≠kC n d:=fun p hp e=>hit ⟨p,hp,e⟩
   have hlk:=fun q=>tF uk Tryz.underlying127 ((aa Tj).drew q).sb (aa HV).keys (N8 hn hwf) hmiss (z:=.int .i64 0) (by simp [go_sem])
   unfold kC at hlk
   have WU:=hlk 0
   have KZ:=Qd (aa HTI) (aa HR) (aa C9) (aa HSC) hmiss (aa HVN) hpay
   have acC:=hide KZ
   have HVV:Hid (∀ v∈kC n d::V,∃ (m:Nat) (d':Int),n<=m/\v=kC m d'):=fun v hv=>by
    rcases List.mem_cons.1 hv with q | q
    ·exact ⟨n,d,Nat.le_refl _,q⟩
    ·obtain ⟨m',d',q1,q2⟩:=aa HVN v q
     exact ⟨m',d',by omega,q2⟩
   have K4:T.length+nk G T (S.map (·.1)++kC n d::V)+gg<=gH:=by omega
   have WV:=hide K4
   clear K4 KZ
   obtain ⟨kd,st,fi,se⟩:=k
   dsimp only at hkd
   subst hkd
   have hlt:n<T.length:=(List.getElem?_eq_some_iff.1 hx).1
   have hnI:(n:Int)<(T.length:Int):=by omega
   have hn0:(0:Int)<=(n:Int):=by omega
   have hm0:(0:Int)<=(m:Int):=by omega
   have YX:(m:Int)<7:=by omega
   have WW:¬ TF t w2.heap.size:=fun hf=>absurd (aa HFT _ hf) (Nat.lt_irrefl _)
   clear q2 hit hm7
   go_wp2_with fail
   go_quiet (fail)
   have Rf:=hide ((aa Tj).drew nq)
   have HCq:Hid (iQ ((w2.alloc (.cells #[.int .i64 n,.int .i32 d] 227)).drewN nq) t T C1):=iQ.move HCd (fun _ _ _=>rfl)
   have HFq:Hid (bq t t w ((w2.alloc (.cells #[.int .i64 n,.int .i32 d] 227)).drewN nq)):=bq.drewN (aa HFd) nq
   have Yd:Hid (((w2.alloc (.cells #[.int .i64 n,.int .i32 d] 227)).drewN nq).heap[w2.heap.size]? = some (.cells #[.int .i64 n,.int .i32 d] 227)):=aa Mg
   clear hlk WU q1 q3 q4 Tj HCd HFd Mg
   generalize (w2.alloc (.cells #[.int .i64 n,.int .i32 d] 227)).drewN nq=Wq at *
   generalize w2.heap.size=Ub at *
   obtain ⟨gt,q5,a0,a1,a2,a3,-⟩:=(aa Rf).at hx
   dsimp only at a0 a1 a2 a3
   have HTk:=bf.alloc Rf (.cells #[.int .i64 m,.string st,.int .i64 fi,.int .i64 se] 135)
   have HCk:=iQ.move (w':=Wq.alloc (.cells #[.int .i64 m,.string st,.int .i64 fi,.int .i64 se] 135)) HCq (fun k hk _=>Below.heap_alloc Wq _ k hk)
   have HFk:Hid (bq t t w (Wq.alloc (.cells #[.int .i64 m,.string st,.int .i64 fi,.int .i64 se] 135))):=(aa HFq).trans (bq.below ((Below.refl _ _).alloc (Nat.le_refl _) _))
   have hsq:Ub<Wq.heap.size:=(Array.getElem?_eq_some_iff.1 (aa Yd)).1
   have HBk:Hid ((Wq.alloc (.cells #[.int .i64 m,.string st,.int .i64 fi,.int .i64 se] 135)).heap[Ub]? = some (.cells #[.int .i64 n,.int .i32 d] 227)):=(Below.heap_alloc Wq _ Ub hsq).trans (aa Yd)
   have HKk:=hide (heap_alloc_new Wq (.cells #[.int .i64 m,.string st,.int .i64 fi,.int .i64 se] 135))
   have WX:¬ TF t Wq.heap.size:=bf.eF Rf (Nat.le_refl _)
   have rz:Wq.heap.size<(Wq.alloc (.cells #[.int .i64 m,.string st,.int .i64 fi,.int .i64 se] 135)).heap.size:=by simp
   have PW:=hide (fun q=>aa HF ((Wq.alloc (.cells #[.int .i64 m,.string st,.int .i64 fi,.int .i64 se] 135)).drewN q) t T S C1 (kC n d::V) d b (aa HR) hx (aa HSL) (aa HSC) (aa HVV) (hide ⟨(aa HTk).drew q,aa HTI,aa (iQ.move HCk (fun _ _ _=>rfl)),aa HV⟩) (aa WV))
   unfold iL at PW
   dsimp only at PW
   have qk:=(aa HTk).kind hcell
   have KA:=hide hcell
   go_wp2_with fail
   clear Rf HCq HFq Yd q5 a0 a1 a2 a3 hcell
   generalize Wq.alloc (.cells #[.int .i64 m,.string st,.int .i64 fi,.int .i64 se] 135)=Wk at *
   generalize Wq.heap.size=kb at *
   obtain ⟨k0,k1,k2,k3⟩:=bQ (aa HKk)
   obtain ⟨s0,s1⟩:=xB (aa HBk)
   have acD:Ub<Wk.heap.size:=(Array.getElem?_eq_some_iff.1 (aa HBk)).1
   go_region_held3 (fun w'=>w'.cell? ⟨kb,0,none⟩=some (.int .i64 m)/\w'.cell? ⟨kb,1,none⟩=some (.string st)/\w'.cell? ⟨kb,2,none⟩=some (.int .i64 fi)/\w'.cell? ⟨kb,3,none⟩=some (.int .i64 se)/\w'.cell? ⟨Ub,1,none⟩=some (.int .i32 d)/\w'.cell? ⟨t.tb,m*3+1,none⟩=some (fv f)) (go_keep)
    ((refine Calls.mono (aa PW 1) ?_;clear PW;rintro x w4 ⟨r,t3,T3,S3,C3,rfl,hbr,yJ,lQ⟩;have vw:Hid (bq t t3 (Wk.drewN 1) w4):=(aa lQ).fr;have HT3:Hid (bf w4 t3 T3 (ak T3) S3 C3):=(aa yJ).tab;obtain ⟨u0,u1,u2,u3⟩:=bQ (bq.own vw rz WX (aa HKk));have WY:=hide (bq.own vw acD WW (aa HBk));obtain ⟨v0,v1⟩:=xB (aa WY);have rk:=(aa HT3).kind (aa KA);rw [(aa vw).tb] at rk;obtain ⟨p1,p2,p3,p4⟩:=(aa HT3).cells;rw [(aa vw).tb] at p1 p2 p3 p4))
   have vE:∀ p∈S3,p.1≠kC n d:=fun p hp e=>by
    rcases (aa lQ).new p hp with h1 | ⟨i,d2,hi,h1⟩
    ·exact hmiss p h1 e
    ·have:=(xA (h1.symm.trans e)).1
     omega
   have zi:Hid (bf w4.drew t3 T3 (ak T3) S3 C3):=(aa HT3).drew 1
   have hup:=vO uk Tryz.underlying127 (aa zi).sb (aa yJ).sv.keys (N8 hn hwf) vE (.int .i64 (r:Int))
   have pE:=hide ((aa zi).stepped (S3++[(kC n d,.int .i64 (r:Int))]))
   have acE:TF t3 t3.sb:=.inr (.inr (.inl rfl))
   have HC5:Hid (iQ (ChangeMaps.setBlock (w4.drew) t3.sb (mkMap (S3++[(kC n d,.int .i64 (r:Int))]))) t3 T3 C3):=iQ.move (hide (aa yJ).cv) fun k hk hf=>bW (w:=w4.drew) (fun e=>hf (by rw [e];exact acE))
   have HV5:=hide ((aa yJ).sv.add hn hwf ((aa lQ).rp (aa HR)) hbr vE)
   have hf3:=aa vw
   have WI:Hid (bq t t3 w w4):=(aa HFk).trans ⟨hf3.os,hf3.tape,hf3.output,hf3.size,hf3.block,hf3.tb,hf3.nb,hf3.sb,hf3.cb,hf3.row⟩
   have zO:=aa WI
   have Mt:Hid (bq t t3 w (ChangeMaps.setBlock (w4.drew) t3.sb (mkMap (S3++[(kC n d,.int .i64 (r:Int))])))):=⟨zO.os,zO.tape,zO.output,by rw [vR];exact zO.size,fun k hk hf=>(bW (w:=w4.drew) (fun e=>hf (by rw [e,zO.sb];exact .inr (.inr (.inl rfl))))).trans (zO.block k hk hf),zO.tb,zO.nb,zO.sb,zO.cb,zO.row⟩
   have HN5:Hid (Nx G V (fun i=>i<=n) 0 w t T S (ChangeMaps.setBlock (w4.drew) t3.sb (mkMap (S3++[(kC n d,.int .i64 (r:Int))]))) t3 T3 (S3++[(kC n d,.int .i64 (r:Int))])):=Qe (aa lQ) (aa Mt) (aa acC)
   rw [aa WT] at hbr
   have HBR:=hide hbr
   have acF:=hide (aa yJ).ti
   generalize hS5:mkMap (S3++[(kC n d,.int .i64 (r:Int))])=S5 at *
   generalize hSS:S3++[(kC n d,Value.int .i64 (r:Int))]=SS at *
   unfold kC at hup
   clear hmiss vE hf3 zO yJ lQ HT3 zi vw HKk HBk WY k0 k1 k2 k3 s0 s1 u0 u1 u2 u3 rk qk hS5 hSS hbr
   go_wp2_with fail
   go_region
   go_wp2_with fail
   go_ret
   exact ⟨r,t3,T3,SS,C3,rfl,aa HBR,⟨aa pE,aa acF,aa HC5,aa HV5⟩,HN5⟩
 ·rw [decide_eq_false hfd]
  obtain ⟨p,rfl,hp,N9,C_⟩:=acA (aa HOK) (aa WR) acB (aa HBs) hfd
  have Yf:(p:Int)<(l.length:Int):=by omega
  have hi0:(0:Int)<=(p:Int):=by omega
  have hwr:IntKind.i64.wrap (((p+1:Nat):Int) - 1)=(p:Int):=by simp [IntKind.wrap,IntKind.bits,IntKind.signed];omega
  have c1:=((aa (kZ.below KD (aa HB2))).rn.get hp).1
  obtain ⟨d,hd⟩:∃ d,l.getD p 0=d:=⟨_,rfl⟩
  rw [hd] at c1 N9 C_
  have HDL:=N9
  have N_:=C_
  clear N9 C_ hd
  have hsl:aD d=true:=m_ (aa HOK) ((aa WR).mem d |>.1 HDL)
  have WS:sI y d:=((aa WR).mem d).1 HDL
  have hwf:(Lit.int .i32 d).wf=true:=WQ hsl
  have WT:Hid (aG d y=aG d0 y):=oK hsl acB _ (Nat.le_refl _) (aa HOK) N_.symm
  have HSC:Hid (Seg y c d):=(aa HSG).trans N_
  have C9:=hide WS
  have HSL:=hide hsl
  clear hsl WS HDL N_
  have HT2:=bf.below HT1 (aa HB2)
  have xK:=iQ.move Ma (fun k hk _=>(aa HB2).block k hk)
  have Tj:=bf.alloc HT2 (.cells #[.int .i64 n,.int .i32 d] 227)
  have HCd:=iQ.move (w':=w2.alloc (.cells #[.int .i64 n,.int .i32 d] 227)) xK (fun k hk _=>Below.heap_alloc w2 _ k hk)
  have HFd:Hid (bq t t w (w2.alloc (.cells #[.int .i64 n,.int .i32 d] 227))):=((aa rD).trans (bq.below (aa HB2))).trans (bq.below ((Below.refl _ _).alloc (Nat.le_refl _) _))
  obtain ⟨q1,q2,q3,q4⟩:=(aa Tj).cells
  have Mg:=hide (heap_alloc_new w2 (.cells #[.int .i64 n,.int .i32 d] 227))
  have HFT:Hid (∀ k,TF t k->k<w2.heap.size):=fun k hk=>(aa HT2).foot hk
  clear HT1 Ma HT2 xK rD
  dsimp only
  by_cases hit:∃ p∈S,p.1=kC n d
  ·obtain ⟨p,hp,hpn⟩:=hit
   obtain ⟨n',d',r,y',e,h1,h2,h3,h4⟩:=(aa HV).2 p hp
   rw [e] at hpn
   obtain ⟨rfl,rfl⟩:=xA hpn
   obtain ⟨j,hj⟩:=List.mem_iff_getElem?.1 hp
   rw [e] at hj
   have hlk:=fun q=>vN uk Tryz.underlying127 ((aa Tj).drew q).sb (aa HV).keys (N8 hn hwf) (aa HV).1 hj
   unfold kC at hlk
   have WU:=hlk 0
   rw [h3.uniq (aa HR),aa WT] at h4
   have HBR:=hide h4
   clear h1 h2 h3 h4 e hp hpn hj q2
   go_wp2_with fail
   go_quiet (fail)
   go_wp2_with fail
   go_ret
   exact ⟨r,t,T,S,C1,rfl,aa HBR,⟨(aa Tj).drew nq,aa HTI,aa (iQ.move HCd (fun _ _ _=>rfl)),aa HV⟩,Nx.world (bq.drewN (aa HFd) nq)⟩
  ·have hmiss:∀ p∈S,p.1≠kC n d:=fun p hp e=>hit ⟨p,hp,e⟩
   have hlk:=fun q=>tF uk Tryz.underlying127 ((aa Tj).drew q).sb (aa HV).keys (N8 hn hwf) hmiss (z:=.int .i64 0) (by simp [go_sem])
   unfold kC at hlk
   have WU:=hlk 0
   have KZ:=Qd (aa HTI) (aa HR) (aa C9) (aa HSC) hmiss (aa HVN) hpay
   have acC:=hide KZ
   have HVV:Hid (∀ v∈kC n d::V,∃ (m:Nat) (d':Int),n<=m/\v=kC m d'):=fun v hv=>by
    rcases List.mem_cons.1 hv with q | q
    ·exact ⟨n,d,Nat.le_refl _,q⟩
    ·obtain ⟨m',d',q1,q2⟩:=aa HVN v q
     exact ⟨m',d',by omega,q2⟩
   have K4:T.length+nk G T (S.map (·.1)++kC n d::V)+gg<=gH:=by omega
   have WV:=hide K4
   clear K4 KZ
   obtain ⟨kd,st,fi,se⟩:=k
   dsimp only at hkd
   subst hkd
   have hlt:n<T.length:=(List.getElem?_eq_some_iff.1 hx).1
   have hnI:(n:Int)<(T.length:Int):=by omega
   have hn0:(0:Int)<=(n:Int):=by omega
   have hm0:(0:Int)<=(m:Int):=by omega
   have YX:(m:Int)<7:=by omega
   have WW:¬ TF t w2.heap.size:=fun hf=>absurd (aa HFT _ hf) (Nat.lt_irrefl _)
   clear q2 hit hm7
   go_wp2_with fail
   go_quiet (fail)
   have Rf:=hide ((aa Tj).drew nq)
   have HCq:Hid (iQ ((w2.alloc (.cells #[.int .i64 n,.int .i32 d] 227)).drewN nq) t T C1):=iQ.move HCd (fun _ _ _=>rfl)
   have HFq:Hid (bq t t w ((w2.alloc (.cells #[.int .i64 n,.int .i32 d] 227)).drewN nq)):=bq.drewN (aa HFd) nq
   have Yd:Hid (((w2.alloc (.cells #[.int .i64 n,.int .i32 d] 227)).drewN nq).heap[w2.heap.size]? = some (.cells #[.int .i64 n,.int .i32 d] 227)):=aa Mg
   clear hlk WU q1 q3 q4 Tj HCd HFd Mg
   generalize (w2.alloc (.cells #[.int .i64 n,.int .i32 d] 227)).drewN nq=Wq at *
   generalize w2.heap.size=Ub at *
   obtain ⟨gt,q5,a0,a1,a2,a3,-⟩:=(aa Rf).at hx
   dsimp only at a0 a1 a2 a3
   have HTk:=bf.alloc Rf (.cells #[.int .i64 m,.string st,.int .i64 fi,.int .i64 se] 135)
   have HCk:=iQ.move (w':=Wq.alloc (.cells #[.int .i64 m,.string st,.int .i64 fi,.int .i64 se] 135)) HCq (fun k hk _=>Below.heap_alloc Wq _ k hk)
   have HFk:Hid (bq t t w (Wq.alloc (.cells #[.int .i64 m,.string st,.int .i64 fi,.int .i64 se] 135))):=(aa HFq).trans (bq.below ((Below.refl _ _).alloc (Nat.le_refl _) _))
   have hsq:Ub<Wq.heap.size:=(Array.getElem?_eq_some_iff.1 (aa Yd)).1
   have HBk:Hid ((Wq.alloc (.cells #[.int .i64 m,.string st,.int .i64 fi,.int .i64 se] 135)).heap[Ub]? = some (.cells #[.int .i64 n,.int .i32 d] 227)):=(Below.heap_alloc Wq _ Ub hsq).trans (aa Yd)
   have HKk:=hide (heap_alloc_new Wq (.cells #[.int .i64 m,.string st,.int .i64 fi,.int .i64 se] 135))
   have WX:¬ TF t Wq.heap.size:=bf.eF Rf (Nat.le_refl _)
   have rz:Wq.heap.size<(Wq.alloc (.cells #[.int .i64 m,.string st,.int .i64 fi,.int .i64 se] 135)).heap.size:=by simp
   have PW:=hide (fun q=>aa HF ((Wq.alloc (.cells #[.int .i64 m,.string st,.int .i64 fi,.int .i64 se] 135)).drewN q) t T S C1 (kC n d::V) d b (aa HR) hx (aa HSL) (aa HSC) (aa HVV) (hide ⟨(aa HTk).drew q,aa HTI,aa (iQ.move HCk (fun _ _ _=>rfl)),aa HV⟩) (aa WV))
   unfold iL at PW
   dsimp only at PW
   have qk:=(aa HTk).kind hcell
   have KA:=hide hcell
   go_wp2_with fail
   clear Rf HCq HFq Yd q5 a0 a1 a2 a3 hcell
   generalize Wq.alloc (.cells #[.int .i64 m,.string st,.int .i64 fi,.int .i64 se] 135)=Wk at *
   generalize Wq.heap.size=kb at *
   obtain ⟨k0,k1,k2,k3⟩:=bQ (aa HKk)
   obtain ⟨s0,s1⟩:=xB (aa HBk)
   have acD:Ub<Wk.heap.size:=(Array.getElem?_eq_some_iff.1 (aa HBk)).1
   go_region_held3 (fun w'=>w'.cell? ⟨kb,0,none⟩=some (.int .i64 m)/\w'.cell? ⟨kb,1,none⟩=some (.string st)/\w'.cell? ⟨kb,2,none⟩=some (.int .i64 fi)/\w'.cell? ⟨kb,3,none⟩=some (.int .i64 se)/\w'.cell? ⟨Ub,1,none⟩=some (.int .i32 d)/\w'.cell? ⟨t.tb,m*3+1,none⟩=some (fv f)) (go_keep)
    ((refine Calls.mono (aa PW 1) ?_;clear PW;rintro x w4 ⟨r,t3,T3,S3,C3,rfl,hbr,yJ,lQ⟩;have vw:Hid (bq t t3 (Wk.drewN 1) w4):=(aa lQ).fr;have HT3:Hid (bf w4 t3 T3 (ak T3) S3 C3):=(aa yJ).tab;obtain ⟨u0,u1,u2,u3⟩:=bQ (bq.own vw rz WX (aa HKk));have WY:=hide (bq.own vw acD WW (aa HBk));obtain ⟨v0,v1⟩:=xB (aa WY);have rk:=(aa HT3).kind (aa KA);rw [(aa vw).tb] at rk;obtain ⟨p1,p2,p3,p4⟩:=(aa HT3).cells;rw [(aa vw).tb] at p1 p2 p3 p4))
   have vE:∀ p∈S3,p.1≠kC n d:=fun p hp e=>by
    rcases (aa lQ).new p hp with h1 | ⟨i,d2,hi,h1⟩
    ·exact hmiss p h1 e
    ·have:=(xA (h1.symm.trans e)).1
     omega
   have zi:Hid (bf w4.drew t3 T3 (ak T3) S3 C3):=(aa HT3).drew 1
   have hup:=vO uk Tryz.underlying127 (aa zi).sb (aa yJ).sv.keys (N8 hn hwf) vE (.int .i64 (r:Int))
   have pE:=hide ((aa zi).stepped (S3++[(kC n d,.int .i64 (r:Int))]))
   have acE:TF t3 t3.sb:=.inr (.inr (.inl rfl))
   have HC5:Hid (iQ (ChangeMaps.setBlock (w4.drew) t3.sb (mkMap (S3++[(kC n d,.int .i64 (r:Int))]))) t3 T3 C3):=iQ.move (hide (aa yJ).cv) fun k hk hf=>bW (w:=w4.drew) (fun e=>hf (by rw [e];exact acE))
   have HV5:=hide ((aa yJ).sv.add hn hwf ((aa lQ).rp (aa HR)) hbr vE)
   have hf3:=aa vw
   have WI:Hid (bq t t3 w w4):=(aa HFk).trans ⟨hf3.os,hf3.tape,hf3.output,hf3.size,hf3.block,hf3.tb,hf3.nb,hf3.sb,hf3.cb,hf3.row⟩
   have zO:=aa WI
   have Mt:Hid (bq t t3 w (ChangeMaps.setBlock (w4.drew) t3.sb (mkMap (S3++[(kC n d,.int .i64 (r:Int))])))):=⟨zO.os,zO.tape,zO.output,by rw [vR];exact zO.size,fun k hk hf=>(bW (w:=w4.drew) (fun e=>hf (by rw [e,zO.sb];exact .inr (.inr (.inl rfl))))).trans (zO.block k hk hf),zO.tb,zO.nb,zO.sb,zO.cb,zO.row⟩
   have HN5:Hid (Nx G V (fun i=>i<=n) 0 w t T S (ChangeMaps.setBlock (w4.drew) t3.sb (mkMap (S3++[(kC n d,.int .i64 (r:Int))]))) t3 T3 (S3++[(kC n d,.int .i64 (r:Int))])):=Qe (aa lQ) (aa Mt) (aa acC)
   rw [aa WT] at hbr
   have HBR:=hide hbr
   have acF:=hide (aa yJ).ti
   generalize hS5:mkMap (S3++[(kC n d,.int .i64 (r:Int))])=S5 at *
   generalize hSS:S3++[(kC n d,Value.int .i64 (r:Int))]=SS at *
   unfold kC at hup
   clear hmiss vE hf3 zO yJ lQ HT3 zi vw HKk HBk WY k0 k1 k2 k3 s0 s1 u0 u1 u2 u3 rk qk hS5 hSS hbr
   go_wp2_with fail
   go_region
   go_wp2_with fail
   go_ret
   exact ⟨r,t3,T3,SS,C3,rfl,aa HBR,⟨aa pE,aa acF,aa HC5,aa HV5⟩,HN5⟩
end
end Go.Proofs.YtfolanohokflkaaGreatDoor
namespace Go.Proofs.YtfolanohokflkaaGreatDoor
open Go.RowKit
open Tm (eps)
section
variable {w W:World} {t:TB} {T:List Te} {N S C:List (Value×Value)} {k:Ky} {B:List Int} {G:List Gx} {V:List Value} {P:Tm->Prop}
theorem BO.lift {ok ok':Nat->Prop} {g:Nat} {z:Tm} {e:Ending} {w':World} (h:BO B G V ok g z W t T S e w') (hf:bq t t w W) (hok:∀ i,ok i->ok' i):BO B G V ok' g z w t T S e w':=by
 obtain ⟨r,t',T',S',C',h1,h2,h3,h4⟩:=h
 refine ⟨r,t',T',S',C',h1,h2,h3,?_⟩
 have h5:=aa h4
 exact ⟨h5.sub,h5.zN,fun p hp=>(h5.new p hp).elim .inl fun ⟨i,d,q1,q2⟩=>.inr ⟨i,d,hok i q1,q2⟩,hf.trans h5.fr,h5.pay⟩
theorem Nx.ok {ok ok':Nat->Prop} {g:Nat} {w':World} {t':TB} {T':List Te} {S':List (Value×Value)} (h5:Nx G V ok g w t T S w' t' T' S') (hok:∀ i,ok i->ok' i):Nx G V ok' g w t T S w' t' T' S':=
 ⟨h5.sub,h5.zN,fun p hp=>(h5.new p hp).elim .inl fun ⟨i,d,q1,q2⟩=>.inr ⟨i,d,hok i q1,q2⟩,h5.fr,h5.pay⟩
theorem BO.then {ok:Nat->Prop} {g g':Nat} {z:Tm} {e:Ending} {w1 w':World} {t1:TB} {T1:List Te} {S1:List (Value×Value)} (h0:Nx G V ok g w t T S w1 t1 T1 S1) (h:BO B G V ok g' z w1 t1 T1 S1 e w'):BO B G V ok (g+g') z w t T S e w':=by
 obtain ⟨r,t',T',S',C',h1,h2,h3,h4⟩:=h
 exact ⟨r,t',T',S',C',h1,h2,h3,h0.trans (aa h4)⟩
theorem BO.less {ok:Nat->Prop} {g g':Nat} {z:Tm} {e:Ending} {w':World} (h:BO B G V ok g z w t T S e w') (hg:g<=g'):BO B G V ok g' z w t T S e w':=by
 obtain ⟨r,t',T',S',C',h1,h2,h3,h4⟩:=h
 have h5:=aa h4
 exact ⟨r,t',T',S',C',h1,h2,h3,⟨h5.sub,h5.zN,h5.new,h5.fr,by have:=h5.pay;omega⟩⟩
theorem BO.of {ok:Nat->Prop} {g:Nat} {z:Tm} {e:Ending} {w':World} {R:List Te×Nat} (h:Hid (Sz B w t T S C)) (ho:Op B T R z g) (ht:FX R w t S C e w'):BO B G V ok g z w t T S e w':=by
 obtain ⟨rfl,t',h1,h2⟩:=ht
 exact ⟨R.2,t',R.1,S,C,rfl,ho.rp,(aa h).op ho h1 h2,Nx.op ho (aa h2)⟩
theorem abl {n:Nat} {y:Tm} (h:Rp T n y) {x:Te} (hx:T[n]? = some x):0<=x.1.fi:=by
 cases h with
 | set h _=>rw [h] at hx;cases hx;exact Int.le_refl _
 | eps h=>rw [h] at hx;cases hx;exact Int.le_refl _
 | chain h _ _=>rw [h] at hx;cases hx;exact Int.natCast_nonneg _
 | star h _=>rw [h] at hx;cases hx;exact Int.natCast_nonneg _
 | aW h _ _=>rw [h] at hx;cases hx;exact Int.natCast_nonneg _
 | not h _=>rw [h] at hx;cases hx;exact Int.natCast_nonneg _
theorem Da {ok:Nat->Prop} {i j:Nat} {s u:Tm} (h:Hid (Sz B w t T S C)) (hi:Rp T i s) (hj:Rp T j u) (hl:T.length+dZ s<=gH) :
  Calls Tryz.prog 116 #[.pointer (some ⟨t.tb,0,none⟩),.int .i64 i,.int .i64 j] w (BO B G V ok (dZ s) (au s u) w t T S):=by
 have ho:=Op.chain (i+1) (aa h).ti (Nat.lt_succ_self i) hi hj
 refine (Em (i+1) w t T i j (Nat.lt_succ_self i) (hide (aa h).tab) (aa h).ti.wf (by have:=hi.lt;omega) hi.lt hj.lt (by have:=ho.len;omega)).mono fun e w' ht=>BO.of h ho ht
theorem WZ {ok:Nat->Prop} {i:Nat} {s:Tm} (h:Hid (Sz B w t T S C)) (hi:Rp T i s) (hl:T.length+1<=gH) :
  Calls Tryz.prog 78 #[.pointer (some ⟨t.tb,0,none⟩),.int .i64 i] w (BO B G V ok 1 (jO s) w t T S):=by
 have ho:=Op.not (aa h).ti hi
 exact (OG (hide (aa h).tab) hi.lt (fun x hx=>abl hi hx) (by have:=ho.len;omega)).mono fun e w' ht=>BO.of h ho ht
theorem aak {ok:Nat->Prop} (h:Hid (Sz B w t T S C)) (hl:T.length<=gH) :
  Calls Tryz.prog 78 #[.pointer (some ⟨t.tb,0,none⟩),.int .i64 ((0:Nat):Int)] w (BO B G V ok 0 whole w t T S):=by
 have hT:=(aa h).ti
 have ho:Op B T (vS T 0) whole 0:=by
  have h1:vS T 0=d_ T (ek 0):=by unfold vS;rw [hT.t0];rfl
  rw [h1]
  rcases eG T (ek 0) with ⟨i,b,hx,e⟩ | ⟨hno,e⟩
  ·rw [e];exact Op.same hT (.not hx hT.r0)
  ·exact absurd rfl (hno _ (List.mem_iff_getElem?.2 ⟨2,hT.t2⟩))
 exact (OG (hide (aa h).tab) hT.r0.lt (fun x hx=>abl hT.r0 hx) (by have:=ho.len;omega)).mono fun e w' ht=>BO.of h ho ht
theorem W9 {ok:Nat->Prop} {n i:Nat} {a:Tm} {b:Bool} (h:Hid (Sz B w t T S C)) (hl:T.length<=gH) (hx:T[n]? = some (ed i,b)) (hr:Rp T n (.star a)) (hi:Rp T i a) :
  Calls Tryz.prog 117 #[.pointer (some ⟨t.tb,0,none⟩),.int .i64 i] w (BO B G V ok 0 (.star a) w t T S):=by
 have hT:=(aa h).ti
 have hcn:u6 .none (.star a):=hT.cn hr
 have ho:Op B T (uB T i) (.star a) 0:=by
  have h0:¬ (i=0\/i=1):=by
   rintro (e | e)
   ·exact hcn.2.1 ((hT.zero hi).1 e)
   ·exact hcn.2.2.1 ((hT.one hi).1 e)
  obtain ⟨x,hxi⟩:=hT.at hi
  have h3:x.1.kd≠3:=fun e3=>by
   have:=hcn.2.2.2
   cases hi with
   | set h _=>rw [h] at hxi;cases hxi;cases e3
   | eps h=>rw [h] at hxi;cases hxi;cases e3
   | chain h _ _=>rw [h] at hxi;cases hxi;cases e3
   | star h _=>cases this
   | @aW _ _ _ k _ _ _ h _ _=>rw [h] at hxi;cases hxi;cases k<;>cases e3
   | not h _=>rw [h] at hxi;cases hxi;cases e3
  have h1:uB T i=d_ T (ed i):=by unfold uB;rw [if_neg h0,hxi];simp [h3]
  rw [h1]
  rcases eG T (ed i) with ⟨m,b,hx,e⟩ | ⟨hno,e⟩
  ·rw [e];exact Op.same hT (.star hx hi)
  ·exact absurd rfl (hno _ (List.mem_iff_getElem?.2 ⟨n,hx⟩))
 exact (Iz (hide (aa h).tab) hi.lt (by have:=ho.len;omega)).mono fun e w' ht=>BO.of h ho ht
theorem Sz.alloc (h:Hid (Sz B w t T S C)) (o:Obj):Hid (Sz B (w.alloc o) t T S C):=(aa h).move fun k hk=>Below.heap_alloc w o k hk
theorem Sz.drewN (h:Hid (Sz B w t T S C)) (q:Nat):Hid (Sz B (w.drewN q) t T S C):=(aa h).move fun _ _=>rfl
theorem Sz.below {w':World} (h:Hid (Sz B w t T S C)) (hb:Below w.heap.size w w'):Hid (Sz B w' t T S C):=(aa h).move fun k hk=>hb.block k hk
set_option maxRecDepth 100000 in
set_option maxHeartbeats 4000000 in
theorem acG {n:Nat} {c:Int} {l:ah} (hB:B.length<=480) (ht:Tidy l) (hb:cu B l):Hl B G n (.set l) c (kD (encS l)) 164 0:=by
 intro w t T S C V d b hr hx hsd hseg hV dQ hlim
 have hlen:=(gz ht hb).1
 have HH:=hide (ZT (w.alloc (.cells #[.int .i64 0,.string (encS l),.int .i64 0,.int .i64 0] 135)) l d (by omega) ht)
 have GZ:=hide (aa dQ).ti.r0
 have HR1:=hide (aa dQ).ti.r1
 rw [il]
 unfold iL kD
 dsimp only
 have HA:Hid (Below w.heap.size w (w.alloc (.cells #[.int .i64 0,.string (encS l),.int .i64 0,.int .i64 0] 135))):=(Below.refl _ _).alloc (Nat.le_refl _) _
 have hsz:w.heap.size<(w.alloc (.cells #[.int .i64 0,.string (encS l),.int .i64 0,.int .i64 0] 135)).heap.size:=by simp
 clear hx hr hseg hsd hV hlim ht hb hlen
 generalize dD l d=q at *
 generalize encS l=es at *
 cases q
 ·go_enter Tryz.func164,Tryz.ntmps164
  go_wp2_with (go_at_call 165;refine (aa HH).mono ?_;clear HH;rintro e w2 ⟨rfl,HB⟩)
  go_ret
  have hb2:Below w.heap.size w w2:=(aa HA).trans (HB.mono (by omega))
  exact ⟨0,t,T,S,C,rfl,aa GZ,Sz.below dQ hb2,Nx.world (bq.below hb2)⟩
 ·go_enter Tryz.func164,Tryz.ntmps164
  go_wp2_with (go_at_call 165;refine (aa HH).mono ?_;clear HH;rintro e w2 ⟨rfl,HB⟩)
  go_ret
  have hb2:Below w.heap.size w w2:=(aa HA).trans (HB.mono (by omega))
  exact ⟨1,t,T,S,C,rfl,aa HR1,Sz.below dQ hb2,Nx.world (bq.below hb2)⟩
set_option maxRecDepth 100000 in
theorem W_ {n:Nat} {c:Int}:Hl B G n eps c vK 169 0:=by
 intro w t T S C V d b hr hx hsd hseg hV dQ hlim
 have GZ:=hide (aa dQ).ti.r0
 rw [A_]
 unfold iL
 clear hx hr hseg hsd hV hlim
 go_enter Tryz.func169,Tryz.ntmps169
 go_wp2_with fail
 go_ret
 have hb2:Below w.heap.size w (w.alloc (.cells #[.int .i64 vK.kd,.string vK.st,.int .i64 vK.fi,.int .i64 vK.se] 135)):=(Below.refl _ _).alloc (Nat.le_refl _) _
 exact ⟨0,t,T,S,C,rfl,aa GZ,Sz.below dQ hb2,Nx.world (bq.below hb2)⟩
theorem aal {n i:Nat} {y:Tm} {b:Bool} (h:Rp T n y) (hx:T[n]? = some (ek i,b)):∃ a,y=.not a/\Rp T i a:=by
 cases h with
 | set h _=>have e:=az hx h;cases e
 | eps h=>have e:=az hx h;cases e
 | chain h _ _=>have e:=az hx h;cases e
 | star h _=>have e:=az hx h;cases e
 | @aW _ _ _ k _ _ _ h _ _=>have e:=az hx h;cases k<;>cases e
 | @not _ i' s _ h hs=>
  have e:=az hx h
  simp only [ek,Ky.mk.injEq] at e
  have:i=i':=by omega
  subst this
  exact ⟨s,rfl,hs⟩
theorem Xa {n i:Nat} {y:Tm} {b:Bool} (h:Rp T n y) (hx:T[n]? = some (ed i,b)):∃ a,y=.star a/\Rp T i a:=by
 cases h with
 | set h _=>have e:=az hx h;cases e
 | eps h=>have e:=az hx h;cases e
 | chain h _ _=>have e:=az hx h;cases e
 | @star _ i' s _ h hs=>
  have e:=az hx h
  simp only [ed,Ky.mk.injEq] at e
  have:i=i':=by omega
  subst this
  exact ⟨s,rfl,hs⟩
 | @aW _ _ _ k _ _ _ h _ _=>have e:=az hx h;cases k<;>cases e
 | not h _=>have e:=az hx h;cases e
theorem Fz {n i j:Nat} {y:Tm} {b:Bool} (h:Rp T n y) (hx:T[n]? = some (bR i j,b)):∃ a u,y=.chain a u/\Rp T i a/\Rp T j u:=by
 cases h with
 | set h _=>have e:=az hx h;cases e
 | eps h=>have e:=az hx h;cases e
 | @chain _ i' j' s u _ h hs hu=>
  have e:=az hx h
  simp only [bR,Ky.mk.injEq] at e
  have e1:i=i':=by omega
  have e2:j=j':=by omega
  subst e1
  subst e2
  exact ⟨s,u,rfl,hs,hu⟩
 | star h _=>have e:=az hx h;cases e
 | @aW _ _ _ k _ _ _ h _ _=>have e:=az hx h;cases k<;>cases e
 | not h _=>have e:=az hx h;cases e
def K5 (a:Tm):Nat:=if a=aF then 0 else 1
theorem aam {ok:Nat->Prop} {i:Nat} {a:Tm} {d:Int} (h:Hid (Sz B w t T S C)) (hi:Rp T i (aG d a)) (hl:T.length+K5 a<=gH) :
  Calls Tryz.prog 78 #[.pointer (some ⟨t.tb,0,none⟩),.int .i64 i] w (BO B G V ok (K5 a) (jO (aG d a)) w t T S):=by
 unfold K5 at *
 by_cases e:a=aF
 ·rw [if_pos e] at hl ⊢
  rw [e,show aG d aF=aF from rfl] at hi ⊢
  rw [((aa h).ti.zero hi).2 rfl]
  exact aak h (by omega)
 ·rw [if_neg e] at hl ⊢
  exact WZ h hi hl
set_option maxRecDepth 100000 in
set_option maxHeartbeats 4000000 in
theorem acH {n i:Nat} {c:Int} {a:Tm} (hin:i<n) (ha:KX B G i a c):Hl B G n (.not a) c (ek i) 187 (K5 a):=by
 intro w t T S C V d b hr hx hsd hseg hV h hlim
 obtain ⟨a',e,hi⟩:=aal hr hx
 cases e
 rw [rR]
 have Oa:=hide (ha (w.alloc (.cells #[.int .i64 6,.string ⟨#[]⟩,.int .i64 (i:Int),.int .i64 0] 135)) t T S C V d hi hsd (fun b hb=>hseg b hb) (fun v hv=>by obtain ⟨m,d',q1,q2⟩:=hV v hv;exact ⟨m,d',by omega,q2⟩) (Sz.alloc h _) (by omega))
 have uu:Hid (bq t t w (w.alloc (.cells #[.int .i64 6,.string ⟨#[]⟩,.int .i64 (i:Int),.int .i64 0] 135))):=bq.below ((Below.refl _ _).alloc (Nat.le_refl _) _)
 have HNO:=hide (fun (w1:World) (t1:TB) (T1:List Te) (S1 C1:List (Value×Value)) (r:Nat) (h1:Hid (Sz B w1 t1 T1 S1 C1)) (hr1:Rp T1 r (aG d a)) (hp:T1.length+nk G T1 (S1.map (·.1)++V)<=T.length+nk G T (S.map (·.1)++V)+0)=>aam (G:=G) (V:=V) (ok:=fun j=>j<n) h1 hr1 (by omega))
 unfold iL ek
 dsimp only
 clear h hx hr hseg hsd hV hlim hi ha
 go_enter Tryz.func187,Tryz.ntmps187
 go_wp2_with (first
  | (go_at_call 101;refine (aa Oa).mono ?_;clear Oa;rintro e w1 ⟨r1,t1,T1,S1,C1,rfl,hr1,xP,oz⟩;have mD:=hide (aa HNO w1 t1 T1 S1 C1 r1 xP hr1 (aa oz).pay);rw [(aa oz).fr.tb] at mD;clear HNO)
  | (go_at_call 78;refine (aa mD).mono ?_;clear mD;rintro e w2 HH;have Db:=hide HH;obtain ⟨r2,t2,T2,S2,C2,rfl,-⟩:=HH))
 go_ret
 have h1:=BO.then ((Nx.world (aa uu)).trans ((aa oz).ok fun j (hj:j<=i)=>(show j<n by omega))) (aa Db)
 exact h1.less (by omega)
set_option maxRecDepth 100000 in
set_option maxHeartbeats 4000000 in
theorem aan {n i:Nat} {c:Int} {a:Tm} (hin:i<n) (hsc:aD c=true) (ha:KX B G i a c):Hl B G n (.star a) c (ed i) 176 (dZ (aG c a)):=by
 intro w t T S C V d b hr hx hsd hseg hV dQ hlim
 obtain ⟨a',e,hi⟩:=Xa hr hx
 cases e
 have hok:gp (.star a):=((aa dQ).ti.cn hr).ok
 rw [pU,show aG c a=aG d a from oK hsc hsd _ (Nat.le_refl _) (show gp a from hok) (fun b hb=>hseg b hb)] at *
 have uu:Hid (bq t t w (w.alloc (.cells #[.int .i64 3,.string ⟨#[]⟩,.int .i64 (i:Int),.int .i64 0] 135))):=bq.below ((Below.refl _ _).alloc (Nat.le_refl _) _)
 have Oa:=hide (fun q=>ha ((w.alloc (.cells #[.int .i64 3,.string ⟨#[]⟩,.int .i64 (i:Int),.int .i64 0] 135)).drewN q) t T S C V d hi hsd (fun b hb=>hseg b hb) (fun v hv=>by obtain ⟨m,d',q1,q2⟩:=hV v hv;exact ⟨m,d',by omega,q2⟩) (Sz.drewN (Sz.alloc dQ _) q) (by omega))
 have HST:=hide (fun (w1:World) (t1:TB) (T1:List Te) (S1 C1:List (Value×Value)) (h1:Hid (Sz B w1 t1 T1 S1 C1)) (hn:Nx G V (fun j=>j<=i) 0 ((w.alloc (.cells #[.int .i64 3,.string ⟨#[]⟩,.int .i64 (i:Int),.int .i64 0] 135)).drewN 1) t T S w1 t1 T1 S1)=>W9 (G:=G) (V:=V) (ok:=fun j=>j<n) h1 (by have:=hn.pay;omega) (hn.get hx) (hn.rp hr) (hn.rp hi))
 have NJ:=hide (fun (w1:World) (t1:TB) (T1:List Te) (S1 C1:List (Value×Value)) (r s:Nat) (h1:Hid (Sz B w1 t1 T1 S1 C1)) (hr1:Rp T1 r (aG d a)) (hs1:Rp T1 s (.star a)) (hp:T1.length+nk G T1 (S1.map (·.1)++V)<=T.length+nk G T (S.map (·.1)++V))=>Da (G:=G) (V:=V) (ok:=fun j=>j<n) h1 hr1 hs1 (by omega))
 have DK:=hide (heap_alloc_new w (.cells #[.int .i64 3,.string ⟨#[]⟩,.int .i64 (i:Int),.int .i64 0] 135))
 have hnot:¬ TF t w.heap.size:=bf.eF (hide (aa dQ).tab) (Nat.le_refl _)
 have rz:w.heap.size<(w.alloc (.cells #[.int .i64 3,.string ⟨#[]⟩,.int .i64 (i:Int),.int .i64 0] 135)).heap.size:=by simp
 unfold iL ed
 dsimp only
 clear dQ hx hr hseg hsd hV hlim hi ha hok
 go_enter Tryz.func176,Tryz.ntmps176
 go_wp2_with fail
 generalize w.alloc (.cells #[.int .i64 3,.string ⟨#[]⟩,.int .i64 (i:Int),.int .i64 0] 135)=Wk at *
 obtain ⟨k0,k1,k2,k3⟩:=bQ (aa DK)
 generalize hkb:w.heap.size=kb at *
 go_region_held3 (fun w'=>w'.cell? ⟨kb,2,none⟩=some (.int .i64 i)) (go_keep)
  (first
   | (go_at_call 101;refine (aa Oa 1).mono ?_;clear Oa;rintro x w1 ⟨r1,t1,T1,S1,C1,rfl,hr1,xP,oz⟩;have rD:Hid (bq t t1 (Wk.drewN 1) w1):=(aa oz).fr;have Eb:=hide (bq.own rD rz hnot (aa DK));obtain ⟨r0,r1',r2,r3⟩:=bQ (aa Eb);have HS2:=hide (aa HST w1 t1 T1 S1 C1 xP (aa oz));rw [(aa rD).tb] at HS2;have FB:¬ TF t1 kb:=(fun hf=>((aa rD).foot hf).elim hnot (fun hle=>absurd rz (by have:Wk.heap.size<=kb:=hle;omega)));have hlt1:kb<w1.heap.size:=Nat.lt_of_lt_of_le rz (aa rD).size)
   | (go_at_call 117;refine (aa HS2).mono ?_;clear HS2;rintro x w2 ⟨s2,t2,T2,S2,C2,rfl,hs2,xQ,iI⟩;have uM:Hid (bq t1 t2 w1 w2):=(aa iI).fr;have K6:=hide (bq.own uM hlt1 FB (aa Eb));obtain ⟨s0,s1',s2',s3⟩:=bQ (aa K6);have NA:=hide (aa NJ w2 t2 T2 S2 C2 r1 s2 xQ ((aa iI).rp hr1) hs2 (by have h1:=(aa oz).pay;have h2:=(aa iI).pay;omega));rw [(aa uM).tb,(aa rD).tb] at NA;have adZ:¬ TF t2 kb:=(fun hf=>((aa uM).foot hf).elim FB (fun hle=>absurd hlt1 (by have:w1.heap.size<=kb:=hle;omega)));have hlt2:kb<w2.heap.size:=Nat.lt_of_lt_of_le hlt1 (aa uM).size)
   | (go_at_call 116;refine (aa NA).mono ?_;clear NA;rintro x w3 HH;have Db:=hide HH;obtain ⟨c3,t3,T3,S3,C3,rfl,-,-,lQ⟩:=HH;have vw:Hid (bq t2 t3 w2 w3):=(aa lQ).fr;have aeP:=hide (bq.own vw hlt2 adZ (aa K6));obtain ⟨z0,z1,z2,z3⟩:=bQ (aa aeP)))
 go_wp2_with fail
 go_ret
 have h1:=BO.then (((Nx.world (bq.drewN (aa uu) 1)).trans ((aa oz).ok fun j (hj:j<=i)=>(show j<n by omega))).trans (aa iI)) (aa Db)
 exact h1.less (by omega)
end
end Go.Proofs.YtfolanohokflkaaGreatDoor
namespace Go.Proofs.YtfolanohokflkaaGreatDoor
open Go.RowKit
section
variable {B:List Int} {w:World} {t:TB} {T:List Te} {S C:List (Value×Value)}
set_option maxRecDepth 100000 in
set_option maxHeartbeats 8000000 in
theorem Xb {l:List Nat} {ts:List Tm} {g0 cap0:Nat} (h:Hid (bf w t T (ak T) S C)) (hT:TI B T) (hB:B.length<=480) (hr:iA T l ts) (hne:l≠[]) (hln:l.length<=500000) (ng:∀ t∈ts,(memT true t).length<=200000) (Tc:(memT true (aj true ts)).length<=200000) (hlim:T.length+(memT true (aj true ts)).length+2<=gH)
  (hc:∀ j x,(ay l)[j]? = some x->w.cell? ⟨g0,j,none⟩=some (.int .i64 x)) (hg0:g0<w.heap.size) :
  Calls Tryz.prog 77 #[.pointer (some ⟨t.tb,0,none⟩),.slice (some ⟨g0,0,none⟩) l.length cap0] w fun e w'=>∃ R,Op B T R (aj true ts) ((memT true (aj true ts)).length+1)/\(∀ r,l=[r]->R=(T,r))/\FX R w t S C e w':=by
 have hJ:=hT.toTJ
 have qX:∀ n∈l,∃ t,Rp T n t/\t∈ts:=fun n hn=>by
  obtain ⟨t,ht,_⟩:=hT.all n (hr.lt n hn)
  exact ⟨t,ht,hr.mem.2 ⟨n,hn,ht⟩⟩
 have hsp:∀ n∈l,kF T true n (gV T true n)/\(gV T true n).length<=200000:=fun n hn=>by
  obtain ⟨t,ht,htm⟩:=qX n hn
  have h1:=Aj (k:=true) ht
  exact ⟨h1,Nat.le_trans (Ak hT ht h1) (ng t htm)⟩
 have qW:(l.flatMap (gV T true)).length<=100000000000:=by
  have h1:=CP (b:=200000) fun n hn=>(hsp n hn).2
  have h2:l.length*200000<=500000*200000:=Nat.mul_le_mul_right _ hln
  omega
 have hSL:=yF (k:=true) (T:=T) (l:=l) fun n hn=>(hsp n hn).1
 have NR:=hSL.kinds hJ
 obtain ⟨L,ND,hLp,PX⟩:=Fv (l.flatMap (gV T true))
 have HM:=hide (zg (cap0:=cap0) h hT.wf (fun n hn=>⟨(hsp n hn).1,by have:=(hsp n hn).2;omega⟩) hne (by omega) hc hg0 qW (fun m hm=>by
  obtain ⟨x,hx,_⟩:=NR m hm
  exact (List.getElem?_eq_some_iff.1 hx).1) ND)
 have Yq:=hide qW
 have acp:Hid (∃ m,m∈l.flatMap (gV T true)):=by
  obtain ⟨a,r,rfl⟩:∃ a r,l=a::r:=by cases l with
   | nil=>exact absurd rfl hne
   | cons a r=>exact ⟨a,r,rfl⟩
  have:=(hsp a (List.mem_cons_self ..)).1.ne
  obtain ⟨x,y,e⟩:∃ x y,gV T true a=x::y:=by
   cases hq:gV T true a with
   | nil=>exact absurd hq this
   | cons x y=>exact ⟨x,y,rfl⟩
  exact ⟨x,by rw [List.flatMap_cons,e];simp⟩
 have HSL:=hide hSL
 have HKN:=hide NR
 have HR:=hide hr
 have adV:1<=(memT true (aj true ts)).length:=by
  cases hq:memT true (aj true ts) with
  | nil=>exact absurd hq (wo _ _)
  | cons _ _=>simp
 clear hc hg0 hne hln ng qX hsp qW hSL NR hr
 have abg:L.length<=(l.flatMap (gV T true)).length:=jr (hLp.imp fun q e=>by omega) fun m hm=>(PX m).1 hm
 obtain ⟨ss,hs1,hs2,hs3⟩:=G8 hT (L:=L.filter fun m=>aY T m) fun m hm=>(List.mem_filter.1 hm).2
 have mD:=hide (VD hT (aa HR) (aa HSL) hLp PX hs1 fun s hs=>(hs3 s hs).1)
 have Td:Hid (∀ r,l=[r]->Zx T true L (f_ true ss)=(T,r)):=fun r e=>by
  subst e
  cases aa HR with
  | cons h1 _=>exact KI hT (Aj (k:=true) h1) hLp (fun m=>by rw [PX m];simp) hs1
 have hsl:(L.filter fun m=>aY T m).length=ss.length:=by
  have:=congrArg List.length hs2
  simpa using this
 rw [hs2,hsl] at HM
 have hkind:∀ m∈L,∃ x,T[m]? = some x/\x.1.kd≠kk true:=fun m hm=>aa HKN m ((PX m).1 hm)
 have hns:∀ m∈L.filter (fun m=>!aY T m),¬ Ng T m:=fun m hm q=>by
  have:=(List.mem_filter.1 hm).2
  rw [mi.2 q] at this;cases this
 have hbf:(L.filter fun m=>!aY T m).Pairwise (Bf T):=(hLp.filter _).imp_of_mem fun {a b} ha hb q=>⟨hns a ha,.inr q⟩
 have hM:MOk T true (L.filter fun m=>!aY T m):=⟨fun m hm=>hkind m (List.mem_filter.1 hm).1,hbf⟩
 have hfl:=aa Yq
 have hex:∀ m∈L,∃ t,Rp T m t:=fun m hm=>by
  obtain ⟨x,hx,_⟩:=hkind m hm
  obtain ⟨y,hy,_⟩:=hJ.all m (List.getElem?_eq_some_iff.1 hx).1
  exact ⟨y,hy⟩
 obtain ⟨zs,hzs⟩:=iA.of (T:=T) (l:=L.filter fun m=>!aY T m) fun m hm=>hex m (List.mem_filter.1 hm).1
 have Un:=hide (fun i (hi:TF t i)=>(aa h).foot hi)
 have hin:∀ m∈L.filter (fun m=>!aY T m),m<T.length:=hzs.lt
 have hNl:(L.filter fun m=>!aY T m).length<=100000000000:=Nat.le_trans (List.length_filter_le _ _) (by omega)
 have Ik:=hide hM
 have HNS:=hide hns
 have HZS:=hide hzs
 have HIN:=hide hin
 have hGm:=hlim
 obtain ⟨m0,hm0⟩:=aa acp
 have WE:=(PX m0).2 hm0
 clear hM hns hzs hbf hkind hex hs1 hs2 HKN Yq HSL
 cases ss with
 | nil=>
  have WG:0<(L.filter fun m=>!aY T m).length:=by
   have:m0∈L.filter fun m=>!aY T m:=List.mem_filter.2 ⟨WE,by
    cases hb:aY T m0 with
    | false=>rfl
    | true=>
     have hq:m0∈L.filter fun m=>aY T m:=List.mem_filter.2 ⟨WE,hb⟩
     rw [List.eq_nil_of_length_eq_zero hsl] at hq
     cases hq⟩
   exact List.length_pos_of_mem this
  have hop:=aa mD
  have hj0:=ui hT (aa Ik) (aa HZS)
  have e1:aj true ts=aj true zs:=hop.rp.uniq hj0.rp
  have NT:=hide (fun (w2:World) (g1 oU:Nat) (hb2:Below w.heap.size w w2) (ho1:w2.ownsRow w.heap.size 3 1 (.slice (some ⟨g1,0,none⟩) (L.filter fun m=>!aY T m).length oU) (L.filter fun m=>!aY T m).length (ints (ay (L.filter fun m=>!aY T m)))) (Ha:w.heap.size<=g1)=>xw (k:=true) (cap:=oU) (bf.below h hb2) hT.wf (aa HIN) (by omega) (fun hz=>by
   have:=xu hT (aa Ik) (aa HZS) hz
   rw [<-e1] at this
   omega) (fB ho1 (Nat.zero_le _)) (bf.eF h Ha))
  clear hj0 e1 hop
  rw [show ((bg true:Nat):Int)=2 from rfl,show ((dO true:Nat):Int)=0 from rfl,show kk true=5 from rfl] at NT
  simp only [List.length_nil] at HM
  have NU:Hid (Op B T (iO T true (L.filter fun m=>!aY T m)) (aj true ts) ((memT true (aj true ts)).length+1)):=mD
  have NV:Hid (∀ r0,l=[r0]->(iO T true (L.filter fun m=>!aY T m))=(T,r0)):=Td
  clear Td
  clear mD
  generalize iO T true (L.filter fun m=>!aY T m)=R at *
  generalize L.filter (fun m=>!aY T m)=NS at *
  go_enter Tryz.func77,Tryz.ntmps77
  go_wp2_with (first
   | (go_at_call 110;refine (aa HM).mono ?_;clear HM;rintro e w2 ⟨TY,ao2,oU,cap2,rfl,zI,jJ,HB2⟩;obtain ⟨ao1',cap1',e1,hv1⟩:=aO (aa zI);injection e1 with e2 e3 e4;subst e2;subst e4;obtain ⟨g1,rfl,Ha,-⟩:=hv1 WG;have HJ:=hide (aa NT w2 g1 oU (aa HB2) (aa zI) Ha);clear NT)
   | (go_at_call 113;refine (aa HJ).mono ?_;clear HJ;rintro e w3 ⟨rfl,t3,HT3,HX3⟩))
  go_ret
  exact ⟨R,aa NU,aa NV,rfl,t3,HT3,(bq.below (aa HB2)).past (aa HX3) Ha⟩
 | cons s r=>
  have hrl:r.length+1<=100000000000:=by
   have h1:(s::r).length=r.length+1:=rfl
   have h2:(L.filter fun m=>aY T m).length<=L.length:=List.length_filter_le _ _
   omega
  have hs0:=hs3 s (List.mem_cons_self ..)
  have hf2:=j4 (B:=B) (k:=true) (l:=r) (s:=s) (fun x hx=>hs3 x (List.mem_cons_of_mem _ hx)) hs0.1 hs0.2
  have NW:=hide (fun (w2:World) (g2 cap2:Nat) (ho2:w2.ownsRow w.heap.size 61 1 (.slice (some ⟨g2,0,none⟩) (s::r).length cap2) (s::r).length (strs ((s::r).map encS)))=>Ta B hB w2 g2 cap2 s r (fun j x hj=>by
   have hjl:j<r.length+1:=(List.getElem?_eq_some_iff.1 hj).1
   rw [ho2.cellAt j (by simp;omega)]
   unfold strs
   rw [List.getElem?_map,List.getElem?_map,hj];rfl) (Al ho2) (ho2.lt g2 rfl).2 (by omega) hs3)
  have hfs:(r.foldl (gW true) s).length<=481:=by have:=(gz hf2.1 hf2.2).1;omega
  have hsz:(encS (r.foldl (gW true) s)).size<=maxLen:=by
   have:=yH (r.foldl (gW true) s)
   unfold maxLen
   omega
  have hop:=aa mD
  have oQ:=Op.set hT hf2.1 hf2.2
  have hmk:=PZ hT (aa Ik) (aa HNS) hf2.1 hf2.2
  have hup:iA (fO T (encS (r.foldl (gW true) s))).1 ((L.filter fun m=>!aY T m)++[(fO T (encS (r.foldl (gW true) s))).2]) (zs++[.set (r.foldl (gW true) s)]):=by
   obtain ⟨X,eX⟩:=oQ.sub
   refine iA.app ?_ (.cons oQ.rp .nil)
   rw [eX];exact (aa HZS).mono
  have hj0:=ui oQ.ti hmk hup
  have e1:aj true ts=aj true (zs++[.set (r.foldl (gW true) s)]):=hop.rp.uniq hj0.rp
  have hjf:=fun hz=>xu oQ.ti hmk hup hz
  rw [<-e1] at hjf
  have WH:=hide (fun w2 w3 (hb2:Below w.heap.size w w2) (hb:Below w2.heap.size w2 w3)=>FY (S:=S) (C:=C) (s:=encS (r.foldl (gW true) s)) (bf.below (bf.below h hb2) hb) hsz (by have:=oQ.len;omega))
  have hql:=oQ.len
  have NT:=hide (fun (w5:World) (t4:TB) (g5 cap5:Nat) (hT5:Hid (bf w5 t4 (fO T (encS (r.foldl (gW true) s))).1 (ak (fO T (encS (r.foldl (gW true) s))).1) S C)) (hO5:w5.ownsRow w.heap.size 3 1 (.slice (some ⟨g5,0,none⟩) ((L.filter fun m=>!aY T m)++[(fO T (encS (r.foldl (gW true) s))).2]).length cap5) ((L.filter fun m=>!aY T m)++[(fO T (encS (r.foldl (gW true) s))).2]).length (ints (ay ((L.filter fun m=>!aY T m)++[(fO T (encS (r.foldl (gW true) s))).2]))))=>
   xw (k:=true) (cap:=cap5) hT5 oQ.ti.wf hup.lt (by rw [List.length_append];simp;omega) (fun hz=>by have:=hjf hz;omega) (fB hO5 (Nat.zero_le _)) (xy (aa hT5) hO5))
  clear hj0 e1 hop oQ hmk hup hjf hql hf2 hs3 hs0 hfs hsz
  rw [show ((bg true:Nat):Int)=2 from rfl,show ((dO true:Nat):Int)=0 from rfl,show kk true=5 from rfl] at NT
  have NU:Hid (Op B T (iO (fO T (encS (r.foldl (gW true) s))).1 true ((L.filter fun m=>!aY T m)++[(fO T (encS (r.foldl (gW true) s))).2])) (aj true ts) ((memT true (aj true ts)).length+1)):=mD
  have NV:Hid (∀ r0,l=[r0]->(iO (fO T (encS (r.foldl (gW true) s))).1 true ((L.filter fun m=>!aY T m)++[(fO T (encS (r.foldl (gW true) s))).2]))=(T,r0)):=Td
  clear Td
  clear mD
  generalize encS (r.foldl (gW true) s)=es at *
  generalize fO T es=Q at *
  generalize iO Q.1 true ((L.filter fun m=>!aY T m)++[Q.2])=R at *
  generalize hNS:L.filter (fun m=>!aY T m)=NS at *
  have hlen1:(NS++[Q.2]).length=NS.length+1:=by simp
  rw [hlen1] at NT
  rw [show (s::r).length=r.length+1 from rfl] at HM NW
  go_enter Tryz.func77,Tryz.ntmps77
  go_wp2_with (first
   | (go_at_call 110;refine (aa HM).mono ?_;clear HM;rintro e w2 ⟨TY,ao2,oU,cap2,rfl,zI,jJ,HB2⟩;have hws:w.heap.size<=w2.heap.size:=(aa HB2).size;have HV1:Hid (∀ k,(Value.slice TY NS.length oU).ownBlock=some k->¬ TF t k):=(fun k hk=>bf.eF h ((aa zI).lt k hk).1);obtain ⟨ao2',cap2',e1,hv2⟩:=aO (aa jJ);injection e1 with e2 e3 e4;subst e2;subst e4;obtain ⟨g2,rfl,-⟩:=hv2 (by omega);have HFO:=hide (aa NW w2 g2 cap2 (aa jJ));clear NW hv2)
   | (go_at_call 111;refine (aa HFO).mono ?_;clear HFO;rintro e w3 ⟨rfl,HB3⟩;have HST:=hide (aa WH w2 _ (aa HB2) (aa HB3));clear WH)
   | (go_at_call 82;refine (aa HST).mono ?_;clear HST;rintro e w4 ⟨rfl,t4,zi,WI⟩;have Hd:Hid (bq t t4 w w4):=((bq.below (aa HB2)).trans (bq.below (aa HB3))).trans (aa WI);have yA:=hide (G9 (own_below (aa zI) (aa HB3) (Nat.le_refl _)) (aa WI) (aa HV1));have hw4:w.heap.size<=w4.heap.size:=(aa Hd).size;have acr:Hid (Below w.heap.size w4 w4):=Below.refl _ _;have HO4':Hid (w4.ownsRow w.heap.size 3 1 (.slice TY NS.length oU) NS.length (ints (ay NS))):=yA)
   | (at_builtin;refine jV Tryz.underlying31 gZ rfl (by decide) (by decide) w.heap.size w4 w4 _ _ [.int .i64 (Q.2:Int)] _ (.tmp 16) (.tmp 21) rfl rfl rfl w4.heap.size rfl rfl HO4' acr hw4 hNl rfl (by intro u hu;simp at hu;rw [hu];rfl) ?_;intro g5 cap5 w5 o_ jI FU;have pE:Hid (bf w5 t4 Q.1 (ak Q.1) S C):=G_ (aa zi) (aa Hd) (aa Un) (aa jI) (aa FU);have HO5':Hid (w5.ownsRow w.heap.size 3 1 (.slice (some ⟨g5,0,none⟩) (NS.length+1) cap5) (NS.length+1) (ints (ay (NS++[Q.2])))):=(by show World.ownsRow _ _ _ _ _ _ _;rw [iB,show ints (ay NS++ay [Q.2])=ints (ay NS)++[.int .i64 (Q.2:Int)] from by simp [ints,ay]];exact o_);have HJ:=hide (aa NT w5 t4 g5 cap5 pE (aa HO5'));rw [(aa Hd).tb] at HJ;have Mt:=hide (xx (aa Hd) (aa jI));have acs:=((aa o_).lt g5 rfl).1)
   | (go_at_call 113;refine (aa HJ).mono ?_;clear HJ;rintro e w6 ⟨rfl,t6,Ye,HX6⟩))
  go_ret
  exact ⟨R,aa NU,aa NV,rfl,t6,Ye,(aa Mt).past (aa HX6) acs⟩
end
end Go.Proofs.YtfolanohokflkaaGreatDoor
namespace Go.Proofs.YtfolanohokflkaaGreatDoor
open Go.RowKit
open Tm (eps)
section
variable {w W:World} {t:TB} {T:List Te} {N S C:List (Value×Value)} {k:Ky} {B:List Int} {G:List Gx} {V:List Value} {P:Tm->Prop}
theorem Xc {ok:Nat->Prop} {l:List Nat} {ts:List Tm} {g0 cap0:Nat} (h:Hid (Sz B w t T S C)) (hB:B.length<=480) (hr:iA T l ts) (hne:l≠[]) (hln:l.length<=500000) (ng:∀ t∈ts,(memT false t).length<=200000) (Tc:(memT false (aj false ts)).length<=200000) (hlim:T.length+(memT false (aj false ts)).length+2<=gH)
  (hc:∀ j x,(ay l)[j]? = some x->w.cell? ⟨g0,j,none⟩=some (.int .i64 x)) (hg0:g0<w.heap.size) :
  Calls Tryz.prog 79 #[.pointer (some ⟨t.tb,0,none⟩),.slice (some ⟨g0,0,none⟩) l.length cap0] w (BO B G V ok ((memT false (aj false ts)).length+1) (aj false ts) w t T S):=
 (WC (hide (aa h).tab) (aa h).ti hB hr hne hln ng Tc hlim hc hg0).mono fun _ _ ⟨_,h1,_,h2⟩=>BO.of h h1 h2
theorem acI {ok:Nat->Prop} {l:List Nat} {ts:List Tm} {g0 cap0:Nat} (h:Hid (Sz B w t T S C)) (hB:B.length<=480) (hr:iA T l ts) (hne:l≠[]) (hln:l.length<=500000) (ng:∀ t∈ts,(memT true t).length<=200000) (Tc:(memT true (aj true ts)).length<=200000) (hlim:T.length+(memT true (aj true ts)).length+2<=gH)
  (hc:∀ j x,(ay l)[j]? = some x->w.cell? ⟨g0,j,none⟩=some (.int .i64 x)) (hg0:g0<w.heap.size) :
  Calls Tryz.prog 77 #[.pointer (some ⟨t.tb,0,none⟩),.slice (some ⟨g0,0,none⟩) l.length cap0] w (BO B G V ok ((memT true (aj true ts)).length+1) (aj true ts) w t T S):=
 (Xb (hide (aa h).tab) (aa h).ti hB hr hne hln ng Tc hlim hc hg0).mono fun _ _ ⟨_,h1,_,h2⟩=>BO.of h h1 h2
theorem Qf {ok:Nat->Prop} {i j:Nat} {x y:Tm} {g0:Nat} (h:Hid (Sz B w t T S C)) (hB:B.length<=480) (hi:Rp T i x) (hj:Rp T j y) (hx:(memT false x).length<=200000) (hy:(memT false y).length<=200000) (Tc:(memT false (aj false [x,y])).length<=200000) (hlim:T.length+(memT false (aj false [x,y])).length+2<=gH) (hg:w.heap.size=g0) :
  Calls Tryz.prog 79 #[.pointer (some ⟨t.tb,0,none⟩),.slice (some ⟨g0,0,none⟩) 2 2] (w.alloc (.cells #[.int .i64 (i:Int),.int .i64 (j:Int)] 3)) (BO B G V ok ((memT false (aj false [x,y])).length+1) (aj false [x,y]) (w.alloc (.cells #[.int .i64 (i:Int),.int .i64 (j:Int)] 3)) t T S):=by
 have hb:=heap_alloc_new w (.cells #[.int .i64 (i:Int),.int .i64 (j:Int)] 3)
 rw [hg] at hb
 refine Xc (l:=[i,j]) (Sz.alloc h _) hB (.cons hi (.cons hj .nil)) (by simp) (by simp) (fun t ht=>?_) Tc hlim (fun k n hk=>?_) (by rw [World.size_alloc,hg];exact Nat.lt_succ_self _)
 ·rcases List.mem_cons.1 ht with e | e
  ·rw [e];exact hx
  ·rw [List.mem_singleton] at e;rw [e];exact hy
 ·rw [cell_of_row _ _ k _ _ _ hb]
  match k,hk with
  | 0,hk=>cases hk;rfl
  | 1,hk=>cases hk;rfl
set_option maxRecDepth 100000 in
set_option maxHeartbeats 4000000 in
theorem Tk {n i j:Nat} {c:Int} {a u:Tm} {g:Nat} (hin:i<n) (hsc:aD c=true) (ha:KX B G i a c) (h0:bZ a=false) (hg:dZ (aG c a)<=g):Hl B G n (.chain a u) c (bR i j) 172 g:=by
 intro w t T S C V d b hr hx hsd hseg hV dQ hlim
 obtain ⟨a',u',e,hi,hj⟩:=Fz hr hx
 cases e
 have hok:gp (.chain a u):=((aa dQ).ti.cn hr).ok
 have hsa:Seg a c d:=fun b hb=>hseg b (.inl hb)
 rw [fu,h0,if_neg (by simp)]
 rw [show aG c a=aG d a from oK hsc hsd _ (Nat.le_refl _) hok.1 hsa] at hg
 obtain ⟨⟨ki,bi⟩,hxi⟩:=(aa dQ).ti.at hi
 have hbi:bi=false:=((aa dQ).ti.null hi hxi).trans h0
 subst hbi
 have uu:Hid (bq t t w (w.alloc (.cells #[.int .i64 2,.string ⟨#[]⟩,.int .i64 (i:Int),.int .i64 (j:Int)] 135))):=bq.below ((Below.refl _ _).alloc (Nat.le_refl _) _)
 have Oa:=hide (fun q=>ha ((w.alloc (.cells #[.int .i64 2,.string ⟨#[]⟩,.int .i64 (i:Int),.int .i64 (j:Int)] 135)).drewN q) t T S C V d hi hsd hsa (fun v hv=>by obtain ⟨m,d',q1,q2⟩:=hV v hv;exact ⟨m,d',by omega,q2⟩) (Sz.drewN (Sz.alloc dQ _) q) (by omega))
 have NJ:=hide (fun (w1:World) (t1:TB) (T1:List Te) (S1 C1:List (Value×Value)) (r:Nat) (h1:Hid (Sz B w1 t1 T1 S1 C1)) (hr1:Rp T1 r (aG d a)) (hs1:Rp T1 j u) (hp:T1.length+nk G T1 (S1.map (·.1)++V)<=T.length+nk G T (S.map (·.1)++V))=>Da (G:=G) (V:=V) (ok:=fun j=>j<n) h1 hr1 hs1 (by omega))
 have DK:=hide (heap_alloc_new w (.cells #[.int .i64 2,.string ⟨#[]⟩,.int .i64 (i:Int),.int .i64 (j:Int)] 135))
 have hnot:¬ TF t w.heap.size:=bf.eF (hide (aa dQ).tab) (Nat.le_refl _)
 have rz:w.heap.size<(w.alloc (.cells #[.int .i64 2,.string ⟨#[]⟩,.int .i64 (i:Int),.int .i64 (j:Int)] 135)).heap.size:=by simp
 have hI0:(0:Int)<=(i:Int):=by omega
 have HRJ:=hide hj
 have HXI:=hide hxi
 unfold iL bR
 dsimp only
 clear dQ hx hr hseg hsa hsd hV hlim hi hj hxi ha hok
 go_enter Tryz.func172,Tryz.ntmps172
 go_wp2_with fail
 generalize w.alloc (.cells #[.int .i64 2,.string ⟨#[]⟩,.int .i64 (i:Int),.int .i64 (j:Int)] 135)=Wk at *
 obtain ⟨k0,k1,k2,k3⟩:=bQ (aa DK)
 generalize hkb:w.heap.size=kb at *
 go_region_held3 (fun w'=>w'.cell? ⟨kb,2,none⟩=some (.int .i64 i)/\w'.cell? ⟨kb,3,none⟩=some (.int .i64 j)) (go_keep)
  (first
   | (go_at_call 101;refine (aa Oa 1).mono ?_;clear Oa;rintro x w1 ⟨r1,t1,T1,S1,C1,rfl,hr1,xP,oz⟩;have rD:Hid (bq t t1 (Wk.drewN 1) w1):=(aa oz).fr;have Eb:=hide (bq.own rD rz hnot (aa DK));obtain ⟨r0,r1',r2,r3⟩:=bQ (aa Eb);have NA:=hide (aa NJ w1 t1 T1 S1 C1 r1 xP hr1 ((aa oz).rp (aa HRJ)) (by have h1:=(aa oz).pay;omega));rw [(aa rD).tb] at NA;have FB:¬ TF t1 kb:=(fun hf=>((aa rD).foot hf).elim hnot (fun hle=>absurd rz (by have:Wk.heap.size<=kb:=hle;omega)));have hlt1:kb<w1.heap.size:=Nat.lt_of_lt_of_le rz (aa rD).size)
   | (go_at_call 116;refine (aa NA).mono ?_;clear NA;rintro x w2 ⟨c2,t2,T2,S2,C2,rfl,hc2,xQ,iI⟩;have uM:Hid (bq t1 t2 w1 w2):=(aa iI).fr;have K6:=hide (bq.own uM hlt1 FB (aa Eb));obtain ⟨s0,s1,s2,s3⟩:=bQ (aa K6)))
 have Xd:t2.tb=t.tb:=(aa uM).tb.trans (aa rD).tb
 have hx2:=(aa iI).get ((aa oz).get (aa HXI))
 obtain ⟨gt,q2,-,-,-,-,a4⟩:=(aa xQ).tab.at hx2
 rw [Xd] at q2
 dsimp only at a4
 have hI:(i:Int)<(T2.length:Int):=by have:=(List.getElem?_eq_some_iff.1 hx2).1;omega
 have HRX:=hide hc2
 have Mc:=hide (((Nx.world (bq.drewN (aa uu) 1)).trans ((aa oz).ok fun j (hj:j<=i)=>(show j<n by omega))).trans (aa iI))
 clear hx2 DK Eb K6 k0 k1 k2 k3 r0 r1' r2 r3 rD uM oz iI xP hr1 hc2 uu NJ HXI
 go_wp2_with fail
 go_quiet (fail)
 go_wp2_with fail
 go_ret
 have h1:BO B G V (fun j=>j<n) _ (au (aG d a) u) w t T S (.returned (.int .i64 (c2:Int))) (w2.drewN nq):=⟨c2,t2,T2,S2,C2,rfl,aa HRX,Sz.drewN xQ nq,(aa Mc).trans (Nx.world (bq.drewN (bq.refl _ _) nq))⟩
 exact h1.less (by omega)
set_option maxRecDepth 100000 in
set_option maxHeartbeats 4000000 in
theorem Tn {n i j:Nat} {c:Int} {a u:Tm} {g:Nat} (hin:i<n) (hjn:j<n) (hB:B.length<=480) (hsc:aD c=true) (ha:KX B G i a c) (hu:KX B G j u c) (h0:bZ a=true) (hfx:(memT false (au (aG c a) u)).length<=200000) (hfy:(memT false (aG c u)).length<=200000) (hfz:(memT false (aG c (.chain a u))).length<=200000) (hg:dZ (aG c a)+(memT false (aG c (.chain a u))).length+2<=g):Hl B G n (.chain a u) c (bR i j) 172 g:=by
 intro w t T S C V d b hr hx hsd hseg hV dQ hlim
 obtain ⟨a',u',e,hi,hj⟩:=Fz hr hx
 cases e
 have hok:gp (.chain a u):=((aa dQ).ti.cn hr).ok
 have hsa:Seg a c d:=fun b hb=>hseg b (.inl hb)
 have hsu:Seg u c d:=fun b hb=>hseg b (.inr ⟨h0,hb⟩)
 rw [show aG c (.chain a u)=aj false [au (aG c a) u,aG c u] from by rw [fu,h0,if_pos rfl]] at hfz hg
 rw [show aG d (.chain a u)=aj false [au (aG d a) u,aG d u] from by rw [fu,h0,if_pos rfl]]
 rw [show aG c a=aG d a from oK hsc hsd _ (Nat.le_refl _) hok.1 hsa] at hg hfx hfz
 rw [show aG c u=aG d u from oK hsc hsd _ (Nat.le_refl _) hok.2 hsu] at hg hfy hfz
 obtain ⟨⟨ki,bi⟩,hxi⟩:=(aa dQ).ti.at hi
 have hbi:bi=true:=((aa dQ).ti.null hi hxi).trans h0
 subst hbi
 have uu:Hid (bq t t w (w.alloc (.cells #[.int .i64 2,.string ⟨#[]⟩,.int .i64 (i:Int),.int .i64 (j:Int)] 135))):=bq.below ((Below.refl _ _).alloc (Nat.le_refl _) _)
 have Oa:=hide (fun q=>ha ((w.alloc (.cells #[.int .i64 2,.string ⟨#[]⟩,.int .i64 (i:Int),.int .i64 (j:Int)] 135)).drewN q) t T S C V d hi hsd hsa (fun v hv=>by obtain ⟨m,d',q1,q2⟩:=hV v hv;exact ⟨m,d',by omega,q2⟩) (Sz.drewN (Sz.alloc dQ _) q) (by omega))
 have HBU:=hide (fun (w2:World) (t2:TB) (T2:List Te) (S2 C2:List (Value×Value)) (h2:Hid (Sz B w2 t2 T2 S2 C2)) (hs2:Rp T2 j u) (hp:T2.length+nk G T2 (S2.map (·.1)++V)<=T.length+nk G T (S.map (·.1)++V)+dZ (aG d a))=>hu w2 t2 T2 S2 C2 V d hs2 hsd hsu (fun v hv=>by obtain ⟨m,d',q1,q2⟩:=hV v hv;exact ⟨m,d',by omega,q2⟩) h2 (by omega))
 have NJ:=hide (fun (w1:World) (t1:TB) (T1:List Te) (S1 C1:List (Value×Value)) (r:Nat) (h1:Hid (Sz B w1 t1 T1 S1 C1)) (hr1:Rp T1 r (aG d a)) (hs1:Rp T1 j u) (hp:T1.length+nk G T1 (S1.map (·.1)++V)<=T.length+nk G T (S.map (·.1)++V))=>Da (G:=G) (V:=V) (ok:=fun j=>j<n) h1 hr1 hs1 (by omega))
 have HAN:=hide (fun (w3:World) (t3:TB) (T3:List Te) (S3 C3:List (Value×Value)) (c2 r3:Nat) (h3:Hid (Sz B w3 t3 T3 S3 C3)) (hc2:Rp T3 c2 (au (aG d a) u)) (hr3:Rp T3 r3 (aG d u)) (hp:T3.length+nk G T3 (S3.map (·.1)++V)<=T.length+nk G T (S.map (·.1)++V)+dZ (aG d a))=>Qf (G:=G) (V:=V) (ok:=fun j=>j<n) (g0:=w3.heap.size) h3 hB hc2 hr3 hfx hfy hfz (by omega) rfl)
 have DK:=hide (heap_alloc_new w (.cells #[.int .i64 2,.string ⟨#[]⟩,.int .i64 (i:Int),.int .i64 (j:Int)] 135))
 have hnot:¬ TF t w.heap.size:=bf.eF (hide (aa dQ).tab) (Nat.le_refl _)
 have rz:w.heap.size<(w.alloc (.cells #[.int .i64 2,.string ⟨#[]⟩,.int .i64 (i:Int),.int .i64 (j:Int)] 135)).heap.size:=by simp
 have hI0:(0:Int)<=(i:Int):=by omega
 have HRJ:=hide hj
 have HXI:=hide hxi
 have HGG:=hide hg
 unfold iL bR
 dsimp only
 clear dQ hx hr hseg hsa hsu hsd hV hlim hi hj hxi ha hu hok hfx hfy hfz hg
 go_enter Tryz.func172,Tryz.ntmps172
 go_wp2_with fail
 generalize w.alloc (.cells #[.int .i64 2,.string ⟨#[]⟩,.int .i64 (i:Int),.int .i64 (j:Int)] 135)=Wk at *
 obtain ⟨k0,k1,k2,k3⟩:=bQ (aa DK)
 generalize hkb:w.heap.size=kb at *
 go_region_held3 (fun w'=>w'.cell? ⟨kb,2,none⟩=some (.int .i64 i)/\w'.cell? ⟨kb,3,none⟩=some (.int .i64 j)) (go_keep)
  (first
   | (go_at_call 101;refine (aa Oa 1).mono ?_;clear Oa;rintro x w1 ⟨r1,t1,T1,S1,C1,rfl,hr1,xP,oz⟩;have rD:Hid (bq t t1 (Wk.drewN 1) w1):=(aa oz).fr;have Eb:=hide (bq.own rD rz hnot (aa DK));obtain ⟨r0,r1',r2,r3⟩:=bQ (aa Eb);have NA:=hide (aa NJ w1 t1 T1 S1 C1 r1 xP hr1 ((aa oz).rp (aa HRJ)) (by have h1:=(aa oz).pay;omega));rw [(aa rD).tb] at NA;have FB:¬ TF t1 kb:=(fun hf=>((aa rD).foot hf).elim hnot (fun hle=>absurd rz (by have:Wk.heap.size<=kb:=hle;omega)));have hlt1:kb<w1.heap.size:=Nat.lt_of_lt_of_le rz (aa rD).size)
   | (go_at_call 116;refine (aa NA).mono ?_;clear NA;rintro x w2 ⟨c2,t2,T2,S2,C2,rfl,hc2,xQ,iI⟩;have uM:Hid (bq t1 t2 w1 w2):=(aa iI).fr;have K6:=hide (bq.own uM hlt1 FB (aa Eb));obtain ⟨s0,s1,s2,s3⟩:=bQ (aa K6)))
 have Xd:t2.tb=t.tb:=(aa uM).tb.trans (aa rD).tb
 have hx2:=(aa iI).get ((aa oz).get (aa HXI))
 obtain ⟨gt,q2,-,-,-,-,a4⟩:=(aa xQ).tab.at hx2
 rw [Xd] at q2
 dsimp only at a4
 have hI:(i:Int)<(T2.length:Int):=by have:=(List.getElem?_eq_some_iff.1 hx2).1;omega
 have HRX:=hide hc2
 have aeQ:=hide ((aa iI).rp ((aa oz).rp (aa HRJ)))
 have Mc:=hide (((Nx.world (bq.drewN (aa uu) 1)).trans ((aa oz).ok fun j (hj:j<=i)=>(show j<n by omega))).trans (aa iI))
 have acJ:=hide (fun q=>aa HBU (w2.drewN q) t2 T2 S2 C2 (Sz.drewN xQ q) (aa aeQ) (by have:=(aa Mc).pay;omega))
 rw [Xd] at acJ
 clear hx2 DK Eb K6 k0 k1 k2 k3 r0 r1' r2 r3 rD uM oz iI xP hr1 hc2 uu NJ HXI HBU s0 s1
 go_wp2_with fail
 go_quiet (fail)
 go_wp2_with (first
  | (go_at_call 101;refine (aa acJ _).mono ?_;clear acJ;rintro x w3 ⟨r3,t3,T3,S3,C3,rfl,hr3,yJ,lQ⟩;have Xe:=hide ((aa Mc).trans ((Nx.world (bq.drewN (bq.refl _ _) nq)).trans ((aa lQ).ok fun i (hj:i<=j)=>(show i<n by omega))));have HA4:=hide (aa HAN w3 t3 T3 S3 C3 c2 r3 yJ ((aa lQ).rp (aa HRX)) hr3 (by have:=(aa Xe).pay;omega));rw [(aa lQ).fr.tb,Xd] at HA4;clear HAN)
  | (go_at_call 79;refine (aa HA4).mono ?_;clear HA4;rintro x w5 HH;have Db:=hide HH;obtain ⟨r5,t5,T5,S5,C5,rfl,-⟩:=HH))
 go_ret
 have h1:=BO.then ((aa Xe).trans (Nx.world (bq.below ((Below.refl _ _).alloc (Nat.le_refl _) _)))) (aa Db)
 exact h1.less (by have:=aa HGG;omega)
end
end Go.Proofs.YtfolanohokflkaaGreatDoor
namespace Go.Proofs.YtfolanohokflkaaGreatDoor
open Go.RowKit
open Tm (eps)
section
variable {w W:World} {t:TB} {T:List Te} {N S C:List (Value×Value)} {k:Ky} {B:List Int} {G:List Gx} {V:List Value} {P:Tm->Prop}
theorem Ob {w w4 w5:World} {t t4:TB} (h:Sz B w4 t4 T S C) (hf:bq t t4 w w4) (hlt:∀ k,TF t k->k<w.heap.size) (hb:Below w.heap.size w4 w5) (hk:∀ B' e' s' u m ys,e'≠3->w4.ownsRow B' e' s' u m ys->w5.ownsRow B' e' s' u m ys):Sz B w5 t4 T S C:=by
 refine ⟨G_ h.tab hf hlt hb hk,h.ti,⟨h.cv.1,fun p hp=>?_⟩,h.sv⟩
 obtain ⟨n,g,cap,l,y,e,h1,h2,h2',h3⟩:=h.cv.2 p hp
 exact ⟨n,g,cap,l,y,e,h1,h2,h2',hk _ _ _ _ _ _ (by decide) h3.own,h3.apart⟩
theorem Ao {w w':World} {t t':TB} {base n:Nat} {v:Value} {xs:List Value} (ht:bf w t T N S C) (h:w.ownsRow base 3 1 v n xs) (hf:bq t t' w w'):w'.ownsRow base 3 1 v n xs:=by
 refine G9 h hf fun k hk=>?_
 obtain ⟨ao,cap,rfl,-⟩:=aO h
 have h':=h
 obtain ⟨_,⟨hv,_⟩ | ⟨g,cap',cur,hv,_⟩⟩:=h
 ·rw [hv] at hk;cases hk
 ·rw [hv] at h' hk
  injection hv with e1 e2 e3
  have:g=k:=by simpa [Value.ownBlock] using hk
  subst this
  exact xy ht h'
theorem iA.get {l:List Nat} {ts:List Tm} (h:iA T l ts):∀ {k n:Nat},l[k]? = some n->∃ y,ts[k]? = some y/\Rp T n y:=by
 induction h with
 | nil=>intro k n e;simp at e
 | @cons m y l ts h1 _ ih=>intro k n e;cases k with
  | zero=>simp at e;subst e;exact ⟨y,rfl,h1⟩
  | succ k=>simp at e;obtain ⟨z,h2,h3⟩:=ih e;exact ⟨z,by simpa using h2,h3⟩
set_option maxRecDepth 100000 in
set_option maxHeartbeats 4000000 in
theorem Ec {n:Nat} {c d:Int} {ns:List Nat} {ys:List Tm} {g0 cap0:Nat} (h:Hid (Sz B w t T S C)) (hsd:aD d=true) (hr:iA T ns ys) (hl:ns.length<=1000000) (ha:∀ m∈ns,m<n/\∀ y,Rp T m y->Seg y c d/\KX B G m y c) (hV:∀ v∈V,∃ (m:Nat) (d':Int),n<=m/\v=kC m d') (hlim:T.length+nk G T (S.map (·.1)++V)<=gH)
  (hcl:∀ j m,ns[j]? = some m->w.cell? ⟨g0,j,none⟩=some (.int .i64 ((m:Nat):Int))) (hg0:g0<w.heap.size) (hg0':¬ TF t g0) :
  Calls Tryz.prog 180 #[.pointer (some ⟨t.tb,0,none⟩),.slice (some ⟨g0,0,none⟩) ns.length cap0,.int .i32 d] w fun e w'=>∃ (ao:Option Addr) (cap:Nat) (rs:List Nat) (t':TB) (T':List Te) (S' C':List (Value×Value)),e=.returned (.slice ao ns.length cap)/\iA T' rs (ys.map (aG d))/\rs.length=ns.length/\Hid (w'.ownsRow w.heap.size 3 1 (.slice ao ns.length cap) ns.length (ints (ay rs)))/\Hid (Sz B w' t' T' S' C')/\Hid (Nx G V (fun i=>i<n) 0 w t T S w' t' T' S'):=by
 have zJ:=hide hcl
 have HRL:=hide hr
 have HA:=hide ha
 have HV:=hide hV
 have Un:Hid (∀ k,TF t k->k<w.heap.size):=fun k hk=>(aa h).tab.foot hk
 clear hcl hr ha hV
 go_enter Tryz.func180,Tryz.ntmps180
 go_wp2_with fail
 go_loopw [7,12] (fun v i wr=>∃ (k':Nat) (ao:Option Addr) (cap:Nat) (rs:List Nat) (t1:TB) (T1:List Te) (S1 C1:List (Value×Value)),k'<=ns.length/\i=.int .i64 (k':Int)/\v=.slice ao k' cap/\Hid (rs.length=k')/\Hid (wr.ownsRow w.heap.size 3 1 (.slice ao k' cap) k' (ints (ay rs)))/\Hid (iA T1 rs ((ys.take k').map (aG d)))/\Hid (Sz B wr t1 T1 S1 C1)/\Hid (Nx G V (fun i=>i<n) 0 w t T S wr t1 T1 S1)) (fun _ i _=>ns.length - (intOf i).toNat)
 case atStart=>exact ⟨0,none,0,[],t,T,S,C,Nat.zero_le _,rfl,rfl,rfl,World.ownsRow_nil _ _ _ _,.nil,h,Nx.world (bq.refl _ _)⟩
 case round=>
  obtain ⟨k',ao,cap,rs,t1,T1,S1,C1,hk',rfl,rfl,HM,HO,HRS,HY,HN⟩:=hrel
  by_cases hlt:k'<ns.length
  ·have cx:wr.cell? ⟨g0,k',none⟩=some (.int .i64 ((ns[k']:Nat):Int)):=by
    rw [World.cell?_of_block (a:=⟨g0,k',none⟩) ((aa HN).fr.block g0 hg0 hg0')]
    exact aa zJ k' _ (by simp [hlt])
   obtain ⟨y,hy1,hy2⟩:=(aa HRL).get (List.getElem?_eq_getElem hlt)
   obtain ⟨hmn,hm2⟩:=aa HA ns[k'] (List.getElem_mem _)
   obtain ⟨hsg,ad1⟩:=hm2 y hy2
   have Oa:=hide (ad1 wr t1 T1 S1 C1 V d ((aa HN).rp hy2) hsd hsg (fun v hv=>by obtain ⟨m,d',q1,q2⟩:=aa HV v hv;exact ⟨m,d',by omega,q2⟩) HY (by have:=(aa HN).pay;omega))
   rw [(aa HN).fr.tb] at Oa
   have xP:=hide hy1
   have T_:(k':Int)<(ns.length:Int):=by omega
   have hws:w.heap.size<=wr.heap.size:=(aa HN).fr.size
   clear hy1 hy2 hm2 hsg ad1
   generalize ns[k']=m at *
   go_wp2_with (first
    | (go_at_call 101;refine (aa Oa).mono ?_;clear Oa;rintro e w2 ⟨r2,t2,T2,S2,C2,rfl,hr2,xQ,iI⟩;have jJ:=hide (Ao (aa HY).tab (aa HO) (aa iI).fr);have lQ:=hide ((aa HN).trans ((aa iI).ok fun i (hj:i<=m)=>(show i<n by omega)));have hw2:w.heap.size<=w2.heap.size:=(aa lQ).fr.size;have Xf:Hid (Below w.heap.size w2 w2):=Below.refl _ _;have HR2:=hide hr2;clear hr2)
    | (at_builtin;refine jV Tryz.underlying31 gZ rfl (by decide) (by decide) w.heap.size w2 w2 _ _ [.int .i64 (r2:Int)] _ (.tmp 16) (.tmp 21) rfl rfl rfl w2.heap.size rfl rfl jJ Xf hw2 (by omega) rfl (by intro u hu;simp at hu;rw [hu];rfl) ?_;intro g5 cap5 w5 o_ jI FU;have HY5:Hid (Sz B w5 t2 T2 S2 C2):=Ob (aa xQ) (aa lQ).fr (aa Un) (aa jI) (aa FU)))
   go_roundw
   case rel=>
    refine ⟨k'+1,some ⟨g5,0,none⟩,cap5,rs++[r2],t2,T2,S2,C2,by omega,by go_num,rfl,by show _=_;rw [List.length_append,aa HM];rfl,?_,?_,HY5,?_⟩
    ·show World.ownsRow _ _ _ _ _ _ _
     rw [iB,show ints (ay rs++ay [r2])=ints (ay rs)++[.int .i64 (r2:Int)] from by simp [ints,ay]]
     exact o_
    ·have e1:ys.take (k'+1)=ys.take k'++[y]:=by
      have hy:=aa xP
      obtain ⟨hk1,hk2⟩:=List.getElem?_eq_some_iff.1 hy
      rw [List.take_succ_eq_append_getElem hk1,hk2]
     show iA _ _ _
     rw [e1,List.map_append]
     refine iA.app ?_ (.cons (aa HR2) .nil)
     obtain ⟨X,eX⟩:=(aa iI).sub
     rw [eX]
     exact (aa HRS).mono
    ·have h3:=aa lQ
     exact ⟨h3.sub,h3.zN,h3.new,xx h3.fr (aa jI),by have:=h3.pay;omega⟩
   case measure=>simp [intOf];omega
  ·obtain rfl:k'=ns.length:=by omega
   go_wp2_with fail
   go_ret
   refine ⟨ao,cap,rs,t1,T1,S1,C1,rfl,?_,aa HM,HO,HY,HN⟩
   have h1:=aa HRS
   rwa [<-(aa HRL).len,List.take_length] at h1
def kF2 (k:Bool):Nat:=if k=true then 184 else 179
def kG (k:Bool):Nat:=if k=true then 77 else 79
theorem Xg (k:Bool) {ok:Nat->Prop} {l:List Nat} {ts:List Tm} {g0 cap0:Nat} (h:Hid (Sz B w t T S C)) (hB:B.length<=480) (hr:iA T l ts) (hne:l≠[]) (hln:l.length<=500000) (ng:∀ t∈ts,(memT k t).length<=200000) (Tc:(memT k (aj k ts)).length<=200000) (hlim:T.length+(memT k (aj k ts)).length+2<=gH)
  (hc:∀ j x,(ay l)[j]? = some x->w.cell? ⟨g0,j,none⟩=some (.int .i64 x)) (hg0:g0<w.heap.size) :
  Calls Tryz.prog (kG k) #[.pointer (some ⟨t.tb,0,none⟩),.slice (some ⟨g0,0,none⟩) l.length cap0] w (BO B G V ok ((memT k (aj k ts)).length+1) (aj k ts) w t T S):=by
 cases k
 ·exact Xc h hB hr hne hln ng Tc hlim hc hg0
 ·exact acI h hB hr hne hln ng Tc hlim hc hg0
theorem Tp {d:Int} {k:Bool} {n:Nat} {z:Tm} {l:List Nat} {ys:List Tm} (hT:TI B T) (hr:Rp T n z) (sp:kF T k n l) (hl:iA T l ys):aj k (ys.map (aG d))=aG d z:=by
 have hcn:=hT.cn hr
 have hm:∀ x,x∈ys↔x∈memT k z:=fun x=>by rw [hT.mem hr sp x];exact hl.mem
 rw [sj (k:=k) hcn]
 refine fM (fun x hx=>?_) fun x=>?_
 ·obtain ⟨y,hy,rfl⟩:=List.mem_map.1 hx
  exact (gu d (hl.cn hT.toTJ y hy)).1
 ·simp only [List.mem_map,hm]
set_option maxRecDepth 100000 in
set_option maxHeartbeats 4000000 in
theorem acK {k:Bool} {n i j:Nat} {c:Int} {z:Tm} {g:Nat} (hB:B.length<=480) (hsc:aD c=true) (ha:∀ m x,m<n->x∈memT k z->KX B G m x c) (hf1:(memT k z).length<=200000) (hf2:∀ x∈memT k z,(memT k (aG c x)).length<=200000) (hf3:(memT k (aG c z)).length<=200000) (hg:(memT k (aG c z)).length+2<=g):Hl B G n z c (cB k i j) (kF2 k) g:=by
 intro w t T S C V d b hr hx hsd hseg hV dQ hlim
 have hT:=(aa dQ).ti
 obtain ⟨h1,h2⟩:=vz hT.wf hx
 obtain ⟨u,hu,-⟩:=hT.all j (by have:=hr.lt;omega)
 obtain ⟨l,hl⟩:=kF.rp (k:=k) hu
 have sp:kF T k n (i::l):=.more hx hl
 have ng:=Ak hT hr sp
 have hlen:(i::l).length=l.length+1:=rfl
 have hmem:=fun x=>hT.mem hr sp x
 have hok:gp z:=(hT.cn hr).ok
 have hlt:∀ m∈i::l,m<n:=fun m hm=>by
  rcases List.mem_cons.1 hm with q | q
  ·omega
  ·have:=hl.le hT.wf m q;omega
 obtain ⟨ys,hys⟩:=iA.of (T:=T) (l:=i::l) fun m hm=>by
  obtain ⟨x,hx1,-⟩:=hT.all m (by have:=hlt m hm;have:=hr.lt;omega)
  exact ⟨x,hx1⟩
 have Xh:∀ x∈memT k z,Seg x c d:=fun x hx b hb=>hseg b ((GL (k:=k) z).2 ⟨x,hx,hb⟩)
 have hym:∀ x∈ys,x∈memT k z:=fun x hx=>(hmem x).2 (hys.mem.1 hx)
 have ad2:∀ x∈ys,gp x:=fun x hx=>(hys.cn hT.toTJ x hx).ok
 have hdp:=Tp (d:=d) hT hr sp hys
 rw [show aG c z=aG d z from oK hsc hsd _ (Nat.le_refl _) hok hseg] at hf3 hg
 rw [<-hdp] at hf3 hg ⊢
 have HGG:=hide hg
 have hfm:∀ x∈ys.map (aG d),(memT k x).length<=200000:=fun x hx=>by
  obtain ⟨y,hy,rfl⟩:=List.mem_map.1 hx
  rw [<-oK hsc hsd _ (Nat.le_refl _) (ad2 y hy) (Xh y (hym y hy))]
  exact hf2 y (hym y hy)
 have HP:=hide (Fx (i:=i) (bf.alloc (hide (aa dQ).tab) (.cells #[.int .i64 (kk k),.string ⟨#[]⟩,.int .i64 (i:Int),.int .i64 (j:Int)] 135)) hT.wf hl (by omega))
 have uu:Hid (bq t t w (w.alloc (.cells #[.int .i64 (kk k),.string ⟨#[]⟩,.int .i64 (i:Int),.int .i64 (j:Int)] 135))):=bq.below ((Below.refl _ _).alloc (Nat.le_refl _) _)
 have HSA:=Sz.alloc dQ (.cells #[.int .i64 (kk k),.string ⟨#[]⟩,.int .i64 (i:Int),.int .i64 (j:Int)] 135)
 have HBA:=hide (fun (w2:World) (g2 cap2:Nat) (hb:Below (w.alloc (.cells #[.int .i64 (kk k),.string ⟨#[]⟩,.int .i64 (i:Int),.int .i64 (j:Int)] 135)).heap.size (w.alloc (.cells #[.int .i64 (kk k),.string ⟨#[]⟩,.int .i64 (i:Int),.int .i64 (j:Int)] 135)) w2) (ho:w2.ownsRow (w.alloc (.cells #[.int .i64 (kk k),.string ⟨#[]⟩,.int .i64 (i:Int),.int .i64 (j:Int)] 135)).heap.size 3 1 (.slice (some ⟨g2,0,none⟩) (l.length+1) cap2) (l.length+1) (ints (ay (i::l))))=>
  Ec (n:=n) (c:=c) (d:=d) (ns:=i::l) (ys:=ys) (V:=V) (g0:=g2) (cap0:=cap2) (Sz.below HSA hb) hsd hys (by omega) (fun m hm=>⟨hlt m hm,fun y hy=>⟨Xh y ((hmem y).2 ⟨m,hm,hy⟩),ha m y (hlt m hm) ((hmem y).2 ⟨m,hm,hy⟩)⟩⟩) hV (by omega) (fun k n hk=>by
   have hkl:k<l.length+1:=(List.getElem?_eq_some_iff.1 hk).1
   rw [ho.cellAt k (by omega)]
   unfold ints ay
   rw [List.getElem?_map,List.getElem?_map,hk];rfl) (ho.lt g2 rfl).2 (bf.eF (hide (aa HSA).tab) (ho.lt g2 rfl).1))
 rw [hlen] at HBA
 have K7:=hide (fun (w3:World) (t3:TB) (T3:List Te) (S3 C3:List (Value×Value)) (rs:List Nat) (g3 gB:Nat) (h3:Hid (Sz B w3 t3 T3 S3 C3)) (hrs:iA T3 rs (ys.map (aG d))) (hrl:rs.length=l.length+1) (ho:w3.ownsRow (w.alloc (.cells #[.int .i64 (kk k),.string ⟨#[]⟩,.int .i64 (i:Int),.int .i64 (j:Int)] 135)).heap.size 3 1 (.slice (some ⟨g3,0,none⟩) (l.length+1) gB) (l.length+1) (ints (ay rs))) (hp:T3.length+nk G T3 (S3.map (·.1)++V)<=T.length+nk G T (S.map (·.1)++V)+0)=>Xg (G:=G) (V:=V) (ok:=fun j=>j<n) (cap0:=gB) k h3 hB hrs (by intro e;rw [e] at hrl;cases hrl) (by omega) hfm hf3 (by omega) (fun j x hj=>by
   have hjl:j<rs.length:=by
    have:=(List.getElem?_eq_some_iff.1 hj).1
    rwa [aM] at this
   rw [ho.cellAt j (by omega)]
   unfold ints
   rw [List.getElem?_map,hj];rfl) (ho.lt g3 rfl).2)
 unfold iL cB at HP
 unfold iL cB kF2
 dsimp only at HP ⊢
 clear dQ hT hx hr hseg hsd hV hlim h1 h2 hu hl sp ng hmem hok hlt hys Xh hym ad2 hf3 hf2 hf1 hg hfm HSA ha hdp hB
 cases k with
 | false=>
  rw [if_neg (by simp)]
  rw [show kk false=4 from rfl] at uu HP HBA K7 ⊢
  rw [show kG false=79 from rfl] at K7
  go_enter Tryz.func179,Tryz.ntmps179
  go_wp2_with (first
   | (go_at_call 181;refine (aa HP).mono ?_;clear HP;rintro x w2 ⟨g2,cap2,rfl,jJ,HB2⟩;have Qg:=hide (aa HBA w2 g2 cap2 (aa HB2) (aa jJ));clear HBA)
   | (go_at_call 180;refine (aa Qg).mono ?_;clear Qg;rintro x w3 ⟨ao3,gB,rs,t3,T3,S3,C3,rfl,hrs,hrl,qw,yJ,lQ⟩;obtain ⟨ao',cap',e',hv⟩:=aO (aa qw);injection e' with e1 e2 e3;subst e1;subst e3;obtain ⟨g3,rfl,-⟩:=hv (by omega);have mD:=hide (aa K7 w3 t3 T3 S3 C3 rs g3 gB yJ hrs hrl (fB (aa qw) (aa HB2).size) (aa lQ).pay);rw [(aa lQ).fr.tb,hrl] at mD;clear K7 hv)
   | (go_at_call 79;refine (aa mD).mono ?_;clear mD;rintro x w4 HH;have Db:=hide HH;obtain ⟨r4,t4,T4,S4,C4,rfl,-⟩:=HH))
  go_ret
  have h1:=BO.then ((Nx.world ((aa uu).trans (bq.below (aa HB2)))).trans (aa lQ)) (aa Db)
  exact h1.less (by have:=aa HGG;omega)
 | true=>
  rw [if_pos rfl]
  rw [show kk true=5 from rfl] at uu HP HBA K7 ⊢
  rw [show kG true=77 from rfl] at K7
  go_enter Tryz.func184,Tryz.ntmps184
  go_wp2_with (first
   | (go_at_call 181;refine (aa HP).mono ?_;clear HP;rintro x w2 ⟨g2,cap2,rfl,jJ,HB2⟩;have Qg:=hide (aa HBA w2 g2 cap2 (aa HB2) (aa jJ));clear HBA)
   | (go_at_call 180;refine (aa Qg).mono ?_;clear Qg;rintro x w3 ⟨ao3,gB,rs,t3,T3,S3,C3,rfl,hrs,hrl,qw,yJ,lQ⟩;obtain ⟨ao',cap',e',hv⟩:=aO (aa qw);injection e' with e1 e2 e3;subst e1;subst e3;obtain ⟨g3,rfl,-⟩:=hv (by omega);have mD:=hide (aa K7 w3 t3 T3 S3 C3 rs g3 gB yJ hrs hrl (fB (aa qw) (aa HB2).size) (aa lQ).pay);rw [(aa lQ).fr.tb,hrl] at mD;clear K7 hv)
   | (go_at_call 77;refine (aa mD).mono ?_;clear mD;rintro x w4 HH;have Db:=hide HH;obtain ⟨r4,t4,T4,S4,C4,rfl,-⟩:=HH))
  go_ret
  have h1:=BO.then ((Nx.world ((aa uu).trans (bq.below (aa HB2)))).trans (aa lQ)) (aa Db)
  exact h1.less (by have:=aa HGG;omega)
end
end Go.Proofs.YtfolanohokflkaaGreatDoor
namespace Go.Proofs.YtfolanohokflkaaGreatDoor
open Go.RowKit
open Tm (eps)
section
variable {B:List Int} {G:List Gx} {Vd:Tm->Int->Prop}
theorem Tq (k:Bool) (args:Array Value) (w:World):(callFunc (kF2 k) args).run Tryz.prog w=.ok (.enter (kF2 k) args) w:=by
 cases k
 ·exact aK Tryz.func179 (by kernel_rfl) (by kernel_rfl) args w
 ·exact aK Tryz.func184 (by kernel_rfl) (by kernel_rfl) args w
theorem Dc (hB:B.length<=480) (hS:NZ G Vd) {c:Int}:∀ n y,Vd y c->KX B G n y c:=by
 intro n
 induction n using Nat.strongRecOn with
 | _ n ih=>
  intro y hv w t T S C V d hr hsd hseg hV h hlim
  have hT:=(aa h).ti
  have hsc:=hS.sym hv
  have hP:=hS.fw c
  have K8:=hS.cost hv
  have hr0:=hr
  cases hr with
  | set hx ht=>
   exact jw hB hP hv hr0 hx hsd hseg hV h hlim (gg:=0) (.inl rfl) (m:=0) rfl (by decide) rfl (aK Tryz.func164 (by kernel_rfl) (by kernel_rfl)) (hide (acG hB ht (hT.sin n _ hr0)))
  | eps hx=>
   exact jw hB hP hv hr0 hx hsd hseg hV h hlim (gg:=0) (.inl rfl) (m:=1) rfl (by decide) rfl (aK Tryz.func169 (by kernel_rfl) (by kernel_rfl)) (hide W_)
  | @chain _ i j a u b hx ha hu=>
   obtain ⟨h1,h2⟩:=sH hT.wf hx
   have hc:∃ k,((Tm.chain a u,c),k)∈G/\nY c (.chain a u)<=k:=by
    rcases K8 with q | q
    ·cases q
    ·exact q
   have hbf:Hl B G n (.chain a u) c (bR i j) 172 (nY c (.chain a u)):=by
    cases h0:bZ a with
    | false=>exact Tk h1 hsc (ih i h1 a (hS.head hv)) h0 (by simp only [nY];omega)
    | true=>exact Tn h1 h2 hB hsc (ih i h1 a (hS.head hv)) (ih j h2 u (hS.next hv h0)) h0 (hS.adX hv) (hS.few false (hS.next hv h0)).2 (hS.few false hv).2 (Nat.le_refl _)
   exact jw hB hP hv hr0 hx hsd hseg hV h hlim (.inr hc) (m:=2) rfl (by decide) rfl (aK Tryz.func172 (by kernel_rfl) (by kernel_rfl)) (hide hbf)
  | @star _ i a b hx ha=>
   have hc:∃ k,((Tm.star a,c),k)∈G/\nY c (.star a)<=k:=by
    rcases K8 with q | q
    ·cases q
    ·exact q
   exact jw hB hP hv hr0 hx hsd hseg hV h hlim (.inr hc) (m:=3) rfl (by decide) rfl (aK Tryz.func176 (by kernel_rfl) (by kernel_rfl)) (hide (aan (wZ hT.wf hx) hsc (ih i (wZ hT.wf hx) a (hS.star hv))))
  | @not _ i a b hx ha=>
   have hc:K5 a=0\/∃ k,((Tm.not a,c),k)∈G/\K5 a<=k:=by
    rcases K8 with q | ⟨k,q1,q2⟩
    ·have:a=aF:=by
      unfold cZ at q
      split at q<;>first | rfl | (rename_i e;cases e;rfl) | cases q
      all_goals simp_all
     exact .inl (by unfold K5;rw [if_pos this])
    ·refine .inr ⟨k,q1,Nat.le_trans ?_ q2⟩
     unfold K5
     simp only [nY]
     split<;>omega
   exact jw hB hP hv hr0 hx hsd hseg hV h hlim hc (m:=6) rfl (by decide) rfl (aK Tryz.func187 (by kernel_rfl) (by kernel_rfl)) (hide (acH (Cm hT.wf hx) (ih i (Cm hT.wf hx) a (hS.neg hv))))
  | @aW _ i j k s u b hx hs hu=>
   obtain ⟨⟨a,e,eq⟩,-⟩:=(hT.Yk hr0).yes k i j b hx
   rw [eq] at hv hr0 hseg K8 ⊢
   have hc:∃ q,((Tm.aW k a e,c),q)∈G/\nY c (.aW k a e)<=q:=by
    rcases K8 with q | q
    ·cases q
    ·exact q
   exact jw hB hP hv hr0 hx hsd hseg hV h hlim (.inr hc) (m:=if k=true then 5 else 4) (f:=kF2 k) (by cases k<;>rfl) (by cases k<;>decide) (by cases k<;>rfl) (Tq k) (hide (acK hB hsc (fun m x hm hx=>ih m hm x (hS.mem hv hx)) (hS.few k hv).1 (fun x hx=>(hS.few k (hS.mem hv hx)).2) (hS.few k hv).2 (Nat.le_refl _)))
end
end Go.Proofs.YtfolanohokflkaaGreatDoor
