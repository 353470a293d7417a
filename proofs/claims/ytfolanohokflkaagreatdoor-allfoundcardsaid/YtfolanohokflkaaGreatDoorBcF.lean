import Derived.Test.YtfolanohokflkaaGreatDoorBecA
import Derived.Test.YtfolanohokflkaaGreatDoorBecB
import Derived.WalkKit
import Derived.WalkSpells
import Derived.WalkLawsBesides
import Derived.WalkMore
import Derived.Deep.QuietTactic
import Derived.BigQuiet
import Derived.BigRegion
import Derived.Deep.RegionHeld3
import Derived.Test.YtfolanohokflkaaGreatDoorKlD
namespace Go.Proofs.YtfolanohokflkaaGreatDoor
open Go.RowKit
open Tm (eps)
theorem Seg.uniq {y:Tm} {c d d':Int} (h:Seg y c d) (hd:si y d) (h':Seg y c d') (hd':si y d'):d=d':=by
 have h1:=(h d hd).2 (Int.le_refl _)
 have h2:=(h' d' hd').2 (Int.le_refl _)
 have h3:=(h d' hd').1 h2
 have h4:=(h' d hd).1 h1
 omega
def yC (T:List Te) (K:List Value) (y:Tm) (c:Int):Prop:=∃ (n:Nat) (d:Int),Rp T n y/\si y d/\Seg y c d/\j_ n d∈K
theorem yC.mono {T X:List Te} {K K':List Value} {y:Tm} {c:Int} (h:yC T K y c) (hk:∀ v∈K,v∈K'):yC (T++X) K' y c:=by
 obtain ⟨n,d,h1,h2,h3,h4⟩:=h
 exact ⟨n,d,h1.mono,h2,h3,hk _ h4⟩
open Classical in
noncomputable def mD (G:List Gx) (T:List Te) (K:List Value):Nat:=bu (G.map fun g=>if yC T K g.1.1 g.1.2 then 0 else g.2)
theorem VX {G:List Gx} {T T':List Te} {K K':List Value} (h:∀ y c,yC T K y c->yC T' K' y c):mD G T' K'<=mD G T K:=by
 unfold mD
 induction G with
 | nil=>simp [bu]
 | cons g G ih=>
  simp only [List.map_cons,bu]
  by_cases h1:yC T K g.1.1 g.1.2
  ·rw [if_pos h1,if_pos (h _ _ h1)];omega
  ·rw [if_neg h1]
   split<;>omega
theorem Kq {G:List Gx} {T X:List Te} {K K':List Value} (hk:∀ v∈K,v∈K'):mD G (T++X) K'<=mD G T K:=VX fun _ _ h=>h.mono hk
theorem Kr {G:List Gx} {T:List Te} {K K':List Value} (hk:∀ v∈K,v∈K'):mD G T K'<=mD G T K:=by
 have:=Kq (G:=G) (T:=T) (X:=[]) hk
 rwa [List.append_nil] at this
theorem Zt {G:List Gx} {T:List Te} {K K':List Value} {y:Tm} {c:Int} {k:Nat} (hm:((y,c),k)∈G) (h1:¬ yC T K y c) (h2:yC T K' y c) (hk:∀ v∈K,v∈K'):mD G T K'+k<=mD G T K:=by
 have hmono:∀ y c,yC T K y c->yC T K' y c:=fun y c h=>by have:=h.mono (X:=[]) hk;rwa [List.append_nil] at this
 induction G with
 | nil=>cases hm
 | cons g G ih=>
  have hrest:=VX (G:=G) hmono
  unfold mD at ih hrest ⊢
  simp only [List.map_cons,bu]
  rcases List.mem_cons.1 hm with e | e
  ·subst e
   rw [if_neg h1,if_pos h2]
   omega
  ·have:=ih e
   by_cases h3:yC T K g.1.1 g.1.2
   ·rw [if_pos h3,if_pos (hmono _ _ h3)];omega
   ·rw [if_neg h3]
    split<;>omega
theorem VY {B:List Int} {T:List Te} (hT:TI B T) {K:List Value} {n:Nat} {y:Tm} {c d:Int} (hr:Rp T n y) (hd:si y d) (hs:Seg y c d) (hm:j_ n d∉K):¬ yC T K y c:=by
 rintro ⟨n',d',h1,h2,h3,h4⟩
 rw [hT.inj n' n y h1 hr,h3.uniq h2 hs hd] at h4
 exact hm h4
def SV2 (T:List Te) (S:List (Value×Value)):Prop:=
 (S.map (·.1)).Nodup/\∀ p∈S,∃ (n:Nat) (d:Int) (r:Nat) (y:Tm),p=(j_ n d,.int .i64 (r:Int))/\n<=fU/\(Lit.int .i32 d).wf=true/\Rp T n y/\Rp T r (aK d y)
theorem SV2.keys {T:List Te} {S:List (Value×Value)} (h:SV2 T S):∀ p∈S,∃ x,keyOf Tryz.prog 227 p.1=some x:=fun p hp=>by
 obtain ⟨n,c,r,y,e,h1,h2,-⟩:=h.2 p hp
 rw [e]
 exact NF h1 h2
theorem SV2.grow {T X:List Te} {S:List (Value×Value)} (h:SV2 T S):SV2 (T++X) S:=by
 refine ⟨h.1,fun p hp=>?_⟩
 obtain ⟨n,c,r,y,e,h1,h2,h3,h4⟩:=h.2 p hp
 exact ⟨n,c,r,y,e,h1,h2,h3.mono,h4.mono⟩
theorem SV2.add {T:List Te} {S:List (Value×Value)} {n:Nat} {c:Int} {r:Nat} {y:Tm} (h:SV2 T S) (hn:n<=fU) (hc:(Lit.int .i32 c).wf=true) (hy:Rp T n y) (hb:Rp T r (aK c y)) (hm:∀ p∈S,p.1≠j_ n c):SV2 T (S++[(j_ n c,.int .i64 (r:Int))]):=by
 refine ⟨?_,fun p hp=>?_⟩
 ·rw [List.map_append]
  refine List.nodup_append.2 ⟨h.1,by simp,fun a ha d hd e=>?_⟩
  obtain ⟨p,hp,rfl⟩:=List.mem_map.1 ha
  simp at hd
  exact hm p hp (e.trans hd)
 ·rcases List.mem_append.1 hp with hp | hp
  ·exact h.2 p hp
  ·rw [List.mem_singleton] at hp
   exact ⟨n,c,r,y,hp,hn,hc,hy,hb⟩
structure Sz (B:List Int) (w:World) (t:TB) (T:List Te) (S C:List (Value×Value)):Prop where
 tab:aX w t T (ak T) S C
 ti:TI B T
 cv:iC w t T C
 sv:SV2 T S
structure Nx (G:List Gx) (V:List Value) (ok:Nat->Prop) (g:Nat) (w:World) (t:TB) (T:List Te) (S:List (Value×Value)) (w':World) (t':TB) (T':List Te) (S':List (Value×Value)):Prop where
 sub:∃ X,T'=T++X
 zJ:∀ p∈S,p∈S'
 new:∀ p∈S',p∈S\/∃ (i:Nat) (d:Int),ok i/\p.1=j_ i d
 fr:a_ t t' w w'
 pay:T'.length+mD G T' (S'.map (·.1)++V)<=T.length+mD G T (S.map (·.1)++V)+g
theorem Nx.trans {G:List Gx} {V:List Value} {ok:Nat->Prop} {g g':Nat} {w w1 w2:World} {t t1 t2:TB} {T T1 T2:List Te} {S S1 S2:List (Value×Value)} (h:Nx G V ok g w t T S w1 t1 T1 S1) (h':Nx G V ok g' w1 t1 T1 S1 w2 t2 T2 S2):Nx G V ok (g+g') w t T S w2 t2 T2 S2 where
 sub:=by
  obtain ⟨X,e⟩:=h.sub
  obtain ⟨Y,e'⟩:=h'.sub
  exact ⟨X++Y,by rw [e',e,List.append_assoc]⟩
 zJ:=fun p hp=>h'.zJ p (h.zJ p hp)
 new:=fun p hp=>by
  rcases h'.new p hp with q | q
  ·exact h.new p q
  ·exact .inr q
 fr:=h.fr.trans h'.fr
 pay:=by have:=h.pay;have:=h'.pay;omega
theorem Nx.rp {G:List Gx} {V:List Value} {ok:Nat->Prop} {g:Nat} {w w1:World} {t t1:TB} {T T1:List Te} {S S1:List (Value×Value)} (h:Nx G V ok g w t T S w1 t1 T1 S1) {n:Nat} {y:Tm} (hr:Rp T n y):Rp T1 n y:=by
 obtain ⟨X,e⟩:=h.sub
 rw [e];exact hr.mono
theorem Nx.get {G:List Gx} {V:List Value} {ok:Nat->Prop} {g:Nat} {w w1:World} {t t1:TB} {T T1:List Te} {S S1:List (Value×Value)} (h:Nx G V ok g w t T S w1 t1 T1 S1) {n:Nat} {x:Te} (hr:T[n]? = some x):T1[n]? = some x:=by
 obtain ⟨X,e⟩:=h.sub
 rw [e,List.getElem?_append_left (List.getElem?_eq_some_iff.1 hr).1];exact hr
theorem Nx.world {G:List Gx} {V:List Value} {ok:Nat->Prop} {w w':World} {t:TB} {T:List Te} {S:List (Value×Value)} (h:a_ t t w w'):Nx G V ok 0 w t T S w' t T S:=
 ⟨⟨[],by simp⟩,fun _ h=>h,fun _ h=>.inl h,h,Nat.le_refl _⟩
theorem Nx.op {B:List Int} {G:List Gx} {V:List Value} {ok:Nat->Prop} {w w':World} {t t':TB} {T:List Te} {S:List (Value×Value)} {R:List Te×Nat} {z:Tm} {g:Nat} (h:Op B T R z g) (hf:a_ t t' w w'):Nx G V ok g w t T S w' t' R.1 S:=by
 refine ⟨h.sub,fun _ h=>h,fun _ h=>.inl h,hf,?_⟩
 obtain ⟨X,e⟩:=h.sub
 have h1:=h.len
 have h2:mD G R.1 (S.map (·.1)++V)<=mD G T (S.map (·.1)++V):=by rw [e];exact Kq fun _ h=>h
 omega
theorem Sz.op {B:List Int} {w w':World} {t t':TB} {T:List Te} {S C:List (Value×Value)} {R:List Te×Nat} {z:Tm} {g:Nat} (h:Sz B w t T S C) (ho:Op B T R z g) (ht:Hid (aX w' t' R.1 (ak R.1) S C)) (hf:Hid (a_ t t' w w')):Sz B w' t' R.1 S C:=by
 have hc:=iC.fr (hide h.cv) hf
 obtain ⟨X,e⟩:=ho.sub
 refine ⟨aa ht,ho.ti,?_,?_⟩
 ·rw [e];exact (aa hc).grow
 ·rw [e];exact h.sv.grow
theorem Sz.move {B:List Int} {w w':World} {t:TB} {T:List Te} {S C:List (Value×Value)} (h:Sz B w t T S C) (hm:∀ k,k<w.heap.size->w'.heap[k]? = w.heap[k]?):Sz B w' t T S C:=
 ⟨h.tab.move fun k _ hk=>hm k hk,h.ti,aa (iC.move (hide h.cv) fun k hk _=>hm k hk),h.sv⟩
def BO (B:List Int) (G:List Gx) (V:List Value) (ok:Nat->Prop) (g:Nat) (z:Tm) (w:World) (t:TB) (T:List Te) (S:List (Value×Value)) (e:Ending) (w':World):Prop:=
 ∃ (r:Nat) (t':TB) (T':List Te) (S' C':List (Value×Value)),e=.returned (.int .i64 (r:Int))/\Rp T' r z/\Hid (Sz B w' t' T' S' C')/\Hid (Nx G V ok g w t T S w' t' T' S')
def Kt (B:List Int) (G:List Gx) (n:Nat) (y:Tm) (c:Int):Prop:=
 ∀ (w:World) (t:TB) (T:List Te) (S C:List (Value×Value)) (V:List Value) (d:Int),Rp T n y->aF d=true->Seg y c d->(∀ v∈V,∃ (m:Nat) (d':Int),n<m/\v=j_ m d')->Hid (Sz B w t T S C)->T.length+mD G T (S.map (·.1)++V)<=fU ->
  Calls Tryz.prog 101 #[.pointer (some ⟨t.tb,0,none⟩),.int .i64 n,.int .i32 d] w (BO B G V (fun i=>i<=n) 0 (aK d y) w t T S)
def GY (B:List Int) (G:List Gx) (n:Nat) (y:Tm) (c:Int) (k:Ky) (f:Nat) (g:Nat):Prop:=
 ∀ (w:World) (t:TB) (T:List Te) (S C:List (Value×Value)) (V:List Value) (d:Int) (b:Bool),Rp T n y->T[n]? = some (k,b)->aF d=true->Seg y c d->(∀ v∈V,∃ (m:Nat) (d':Int),n<=m/\v=j_ m d')->Hid (Sz B w t T S C)->T.length+mD G T (S.map (·.1)++V)+g<=fU ->
  Calls Tryz.prog f #[.pointer (some ⟨t.tb,0,none⟩),iD k,.int .i32 d] w (BO B G V (fun i=>i<n) g (aK d y) w t T S)
section
variable {w:World} {t:TB} {T:List Te} {N S C:List (Value×Value)} {k:Ky} {B:List Int} {G:List Gx} {V:List Value} {P:Tm->Prop}
theorem VZ {d:Int} (h:aF d=true):(Lit.int .i32 d).wf=true:=by
 have:=aD.1 h
 have h1:IntKind.i32.min<=d:=Int.le_trans (by decide) (show (0:Int)<=d by omega)
 have h2:d<=IntKind.i32.max:=Int.le_trans (show d<=1114111 by omega) (by decide)
 simp [Lit.wf,h1,h2]
theorem ab0 {y:Tm} {l:List Int} {c:Int} {i:Nat} (hok:jW y) (h:yt y l) (hc:aF c=true) (hb:Bs l c i i) (hf:¬ (i<l.length/\l.getD i 0=c)):∃ p,i=p+1/\p<l.length/\l.getD p 0∈l/\Seg y c (l.getD p 0):=by
 have hc0:0<=c:=by have:=aD.1 hc;omega
 obtain ⟨j,hj,hz⟩:=List.mem_iff_getElem.1 ((h.mem 0).2 (nQ hok))
 have hzj:l.getD j 0=0:=by rw [List.getD_eq_getElem?_getD,List.getElem?_eq_getElem hj];exact hz
 cases i with
 | zero=>
  exfalso
  have h1:=hb.hi j (Nat.zero_le _) hj
  have hpos:0<l.length:=by omega
  have h0:=hb.hi 0 (Nat.le_refl _) hpos
  have hm:l.getD 0 0∈l:=by rw [List.getD_eq_getElem?_getD,List.getElem?_eq_getElem hpos];exact List.getElem_mem _
  have hle:l.getD 0 0<=l.getD j 0:=by
   rcases Nat.eq_zero_or_pos j with e | e
   ·rw [e];exact Int.le_refl _
   ·have:=List.pairwise_iff_getElem.1 h.rise 0 j hpos hj e
    rw [List.getD_eq_getElem?_getD,List.getElem?_eq_getElem hpos,List.getD_eq_getElem?_getD,List.getElem?_eq_getElem hj]
    exact Int.le_of_lt this
  exact hf ⟨hpos,by omega⟩
 | succ p=>
  have hp:p<l.length:=by have:=hb.ln;omega
  have hm:l.getD p 0∈l:=by rw [List.getD_eq_getElem?_getD,List.getElem?_eq_getElem hp];exact List.getElem_mem _
  refine ⟨p,rfl,hp,hm,h.Hq (Int.le_of_lt (hb.lo p (Nat.lt_succ_self p))) fun b hbm hbc=>?_⟩
  obtain ⟨q,hq,rfl⟩:=List.mem_iff_getElem.1 hbm
  have e1:l.getD p 0=l[p]:=by rw [List.getD_eq_getElem?_getD,List.getElem?_eq_getElem hp];rfl
  have e2:l.getD q 0=l[q]:=by rw [List.getD_eq_getElem?_getD,List.getElem?_eq_getElem hq];rfl
  rw [e1]
  rcases Nat.lt_trichotomy q p with h1 | h1 | h1
  ·exact Int.le_of_lt (List.pairwise_iff_getElem.1 h.rise q p hq hp h1)
  ·subst h1;exact Int.le_refl _
  ·have h2:=hb.hi q h1 hq
   rw [e2] at h2
   have he:c=l[q]:=by omega
   have hq2:q=p+1:=by
    rcases Nat.lt_or_ge (p+1) q with h3 | h3
    ·have h4:=List.pairwise_iff_getElem.1 h.rise (p+1) q (by omega) hq h3
     have h5:=hb.hi (p+1) (Nat.le_refl _) (by omega)
     rw [List.getD_eq_getElem?_getD,List.getElem?_eq_getElem (by omega)] at h5
     have h6:c<=l[p+1]:=h5
     omega
    ·omega
   exact absurd ⟨by omega,by rw [<-hq2,e2];exact he.symm⟩ hf
theorem Zu {n m:Nat} {d d':Int} (h:j_ n d=j_ m d'):n=m:=(xh h).1
theorem PE (hT:TI B T) {n gg:Nat} {y:Tm} {c d:Int} (hr:Rp T n y) (hd:si y d) (hs:Seg y c d) (hm:∀ p∈S,p.1≠j_ n d) (hv:∀ v∈V,∃ (m:Nat) (d':Int),n<m/\v=j_ m d') (hp:gg=0\/∃ k,((y,c),k)∈G/\gg<=k) :
  mD G T (S.map (·.1)++j_ n d::V)+gg<=mD G T (S.map (·.1)++V):=by
 have hsub:∀ v∈S.map (·.1)++V,v∈S.map (·.1)++j_ n d::V:=fun v hv=>by
  rcases List.mem_append.1 hv with q | q
  ·exact List.mem_append_left _ q
  ·exact List.mem_append_right _ (List.mem_cons_of_mem _ q)
 rcases hp with e | ⟨k,hk,hle⟩
 ·rw [e];exact Kr hsub
 ·have:=Zt hk (VY hT hr hd hs (K:=S.map (·.1)++V) (fun q=>by
   rcases List.mem_append.1 q with q | q
   ·obtain ⟨p,hp,e⟩:=List.mem_map.1 q
    exact hm p hp e
   ·obtain ⟨m,d',h1,h2⟩:=hv _ q
    have:=Zu h2
    omega)) ⟨n,d,hr,hd,hs,List.mem_append_right _ (List.mem_cons_self ..)⟩ hsub
  omega
theorem PG {w0 w w1 w2:World} {t0 t1:TB} {T1:List Te} {S1:List (Value×Value)} {n gg:Nat} {d:Int} {r:Value} (h:Nx G (j_ n d::V) (fun i=>i<n) gg w t T S w1 t1 T1 S1) (hf:a_ t0 t1 w0 w2) (hp:mD G T (S.map (·.1)++j_ n d::V)+gg<=mD G T (S.map (·.1)++V)):Nx G V (fun i=>i<=n) 0 w0 t0 T S w2 t1 T1 (S1++[(j_ n d,r)]) where
 sub:=h.sub
 zJ:=fun p hp=>List.mem_append_left _ (h.zJ p hp)
 new:=fun p hp=>by
  rcases List.mem_append.1 hp with q | q
  ·rcases h.new p q with q | ⟨i,d',q1,q2⟩
   ·exact .inl q
   ·exact .inr ⟨i,d',Nat.le_of_lt q1,q2⟩
  ·rw [List.mem_singleton] at q
   exact .inr ⟨n,d,Nat.le_refl _,by rw [q]⟩
 fr:=hf
 pay:=by
  have h1:=h.pay
  have h2:mD G T1 ((S1++[(j_ n d,r)]).map (·.1)++V)<=mD G T1 (S1.map (·.1)++j_ n d::V):=Kr fun v hv=>by
   rw [List.map_append]
   rcases List.mem_append.1 hv with q | q
   ·exact List.mem_append_left _ (List.mem_append_left _ q)
   ·rcases List.mem_cons.1 q with q | q
    ·exact List.mem_append_left _ (List.mem_append_right _ (by simp [q]))
    ·exact List.mem_append_right _ q
  omega
set_option maxRecDepth 100000 in
set_option maxHeartbeats 4000000 in
theorem je {n m f gg:Nat} {b:Bool} {c d0:Int} {y:Tm} (hB:B.length<=480) (hP:Fw P) (hy:P y) (hr:Rp T n y) (hx:T[n]? = some (k,b)) (ab1:aF d0=true) (hsg:Seg y c d0) (hvn:∀ v∈V,∃ (m:Nat) (d':Int),n<m/\v=j_ m d') (h:Hid (Sz B w t T S C)) (hlim:T.length+mD G T (S.map (·.1)++V)<=fU) (hpay:gg=0\/∃ k,((y,c),k)∈G/\gg<=k) (hkd:k.kd=(m:Int)) (hm7:m<7) (hcell:dN[m*3+1]? = some (fv f))
  (hcf:∀ (args:Array Value) (w:World),(callFunc f args).run Tryz.prog w=.ok (.enter f args) w) (HF:Hid (GY B G n y c k f gg)) :
  Calls Tryz.prog 101 #[.pointer (some ⟨t.tb,0,none⟩),.int .i64 n,.int .i32 d0] w (BO B G V (fun i=>i<=n) 0 (aK d0 y) w t T S):=by
 have hTI:=(aa h).ti
 have hn:n<=fU:=by have:=hr.lt;omega
 have hcn:=hTI.cn hr
 have HTI:=hide hTI
 have D5:=hide (Ko hTI hB (by omega) hP hr hy (hide (aa h).tab) (hide (aa h).cv))
 have HR:=hide hr
 have HV:=hide (aa h).sv
 have HVN:=hide hvn
 have HSG:=hide hsg
 have HOK:=hide hcn.ok
 have adC:∀ l,yt y l->l.length<=481:=fun l hl=>by have:=hl.len hcn.ok (hTI.sin n y hr);omega
 clear hTI hr hvn hsg hcn h hy hB
 go_enter Tryz.func101,Tryz.ntmps101
 go_wp2_with (go_at_call 125;refine (aa D5).mono ?_;clear D5;rintro x w1 ⟨l,g,cap,C1,rfl,hcl,J6,HT1,LV,ru,hk1,ha1⟩;have hlen:=adC l hcl;have V3:=hide hcl;have NG:=hide (Gp w1 g l.length cap l d0 (by omega) (hide (aa J6).rn) (hide hcl.rise));clear hcl hk1 ha1)
 refine (aa NG).mono ?_
 clear NG
 rintro x w2 ⟨i,rfl,HB2,HBs⟩
 by_cases hfd:i<l.length/\l.getD i 0=d0
 ·rw [decide_eq_true hfd]
  have hiI:(i:Int)<(l.length:Int):=by omega
  have hi0:(0:Int)<=(i:Int):=by omega
  have c1:=((aa (kU.below J6 (aa HB2))).rn.get hfd.1).1
  have NH:l.getD i 0∈l:=by rw [List.getD_eq_getElem?_getD,List.getElem?_eq_getElem hfd.1];exact List.getElem_mem _
  have CQ:Seg y d0 (l.getD i 0):=by rw [hfd.2];exact Seg.refl _ _
  obtain ⟨d,hd⟩:∃ d,l.getD i 0=d:=⟨_,rfl⟩
  rw [hd] at c1 NH CQ
  have HDL:=NH
  have NI:=CQ
  clear NH CQ hd
  have hsl:aF d=true:=mO (aa HOK) ((aa V3).mem d |>.1 HDL)
  have V4:si y d:=((aa V3).mem d).1 HDL
  have hwf:(Lit.int .i32 d).wf=true:=VZ hsl
  have V5:Hid (aK d y=aK d0 y):=oz hsl ab1 _ (Nat.le_refl _) (aa HOK) NI.symm
  have HSC:Hid (Seg y c d):=(aa HSG).trans NI
  have HIC:=hide V4
  have Zo:=hide hsl
  clear hsl V4 HDL NI
  have HT2:=aX.below HT1 (aa HB2)
  have xD:=iC.move LV (fun k hk _=>(aa HB2).block k hk)
  have Si:=aX.alloc HT2 (.cells #[.int .i64 n,.int .i32 d] 227)
  have HCd:=iC.move (w':=w2.alloc (.cells #[.int .i64 n,.int .i32 d] 227)) xD (fun k hk _=>Below.heap_alloc w2 _ k hk)
  have HFd:Hid (a_ t t w (w2.alloc (.cells #[.int .i64 n,.int .i32 d] 227))):=((aa ru).trans (a_.below (aa HB2))).trans (a_.below ((Below.refl _ _).alloc (Nat.le_refl _) _))
  obtain ⟨q1,q2,q3,q4⟩:=(aa Si).cells
  have L6:=hide (heap_alloc_new w2 (.cells #[.int .i64 n,.int .i32 d] 227))
  have HFT:Hid (∀ k,TF t k->k<w2.heap.size):=fun k hk=>(aa HT2).foot hk
  clear HT1 LV HT2 xD ru
  dsimp only
  by_cases hit:∃ p∈S,p.1=j_ n d
  ·obtain ⟨p,hp,hpn⟩:=hit
   obtain ⟨n',d',r,y',e,h1,h2,h3,h4⟩:=(aa HV).2 p hp
   rw [e] at hpn
   obtain ⟨rfl,rfl⟩:=xh hpn
   obtain ⟨j,hj⟩:=List.mem_iff_getElem?.1 hp
   rw [e] at hj
   have hlk:=fun q=>vK tX Tryz.underlying127 ((aa Si).drew q).sb (aa HV).keys (NF hn hwf) (aa HV).1 hj
   unfold j_ at hlk
   have V6:=hlk 0
   rw [h3.uniq (aa HR),aa V5] at h4
   have Zv:=hide h4
   clear h1 h2 h3 h4 e hp hpn hj q2
   go_wp2_with fail
   go_quiet (fail)
   go_wp2_with fail
   go_ret
   exact ⟨r,t,T,S,C1,rfl,aa Zv,⟨(aa Si).drew nq,aa HTI,aa (iC.move HCd (fun _ _ _=>rfl)),aa HV⟩,Nx.world (a_.drewN (aa HFd) nq)⟩
  ·have hmiss:∀ p∈S,p.1≠j_ n d:=fun p hp e=>hit ⟨p,hp,e⟩
   have hlk:=fun q=>sS tX Tryz.underlying127 ((aa Si).drew q).sb (aa HV).keys (NF hn hwf) hmiss (z:=.int .i64 0) (by simp [go_sem])
   unfold j_ at hlk
   have V6:=hlk 0
   have Ku:=PE (aa HTI) (aa HR) (aa HIC) (aa HSC) hmiss (aa HVN) hpay
   have ab2:=hide Ku
   have HVV:Hid (∀ v∈j_ n d::V,∃ (m:Nat) (d':Int),n<=m/\v=j_ m d'):=fun v hv=>by
    rcases List.mem_cons.1 hv with q | q
    ·exact ⟨n,d,Nat.le_refl _,q⟩
    ·obtain ⟨m',d',q1,q2⟩:=aa HVN v q
     exact ⟨m',d',by omega,q2⟩
   have Kv:T.length+mD G T (S.map (·.1)++j_ n d::V)+gg<=fU:=by omega
   have V7:=hide Kv
   clear Kv Ku
   obtain ⟨kd,st,fi,se⟩:=k
   dsimp only at hkd
   subst hkd
   have hlt:n<T.length:=(List.getElem?_eq_some_iff.1 hx).1
   have hnI:(n:Int)<(T.length:Int):=by omega
   have hn0:(0:Int)<=(n:Int):=by omega
   have hm0:(0:Int)<=(m:Int):=by omega
   have hmI:(m:Int)<7:=by omega
   have V8:¬ TF t w2.heap.size:=fun hf=>absurd (aa HFT _ hf) (Nat.lt_irrefl _)
   clear q2 hit hm7
   go_wp2_with fail
   go_quiet (fail)
   have QS:=hide ((aa Si).drew nq)
   have HCq:Hid (iC ((w2.alloc (.cells #[.int .i64 n,.int .i32 d] 227)).drewN nq) t T C1):=iC.move HCd (fun _ _ _=>rfl)
   have HFq:Hid (a_ t t w ((w2.alloc (.cells #[.int .i64 n,.int .i32 d] 227)).drewN nq)):=a_.drewN (aa HFd) nq
   have XN:Hid (((w2.alloc (.cells #[.int .i64 n,.int .i32 d] 227)).drewN nq).heap[w2.heap.size]? = some (.cells #[.int .i64 n,.int .i32 d] 227)):=aa L6
   clear hlk V6 q1 q3 q4 Si HCd HFd L6
   generalize (w2.alloc (.cells #[.int .i64 n,.int .i32 d] 227)).drewN nq=Wq at *
   generalize w2.heap.size=Tx at *
   obtain ⟨gt,q5,a0,a1,a2,a3,-⟩:=(aa QS).at hx
   dsimp only at a0 a1 a2 a3
   have HTk:=aX.alloc QS (.cells #[.int .i64 m,.string st,.int .i64 fi,.int .i64 se] 135)
   have HCk:=iC.move (w':=Wq.alloc (.cells #[.int .i64 m,.string st,.int .i64 fi,.int .i64 se] 135)) HCq (fun k hk _=>Below.heap_alloc Wq _ k hk)
   have HFk:Hid (a_ t t w (Wq.alloc (.cells #[.int .i64 m,.string st,.int .i64 fi,.int .i64 se] 135))):=(aa HFq).trans (a_.below ((Below.refl _ _).alloc (Nat.le_refl _) _))
   have hsq:Tx<Wq.heap.size:=(Array.getElem?_eq_some_iff.1 (aa XN)).1
   have Zw:Hid ((Wq.alloc (.cells #[.int .i64 m,.string st,.int .i64 fi,.int .i64 se] 135)).heap[Tx]? = some (.cells #[.int .i64 n,.int .i32 d] 227)):=(Below.heap_alloc Wq _ Tx hsq).trans (aa XN)
   have HKk:=hide (heap_alloc_new Wq (.cells #[.int .i64 m,.string st,.int .i64 fi,.int .i64 se] 135))
   have V9:¬ TF t Wq.heap.size:=aX.dS QS (Nat.le_refl _)
   have qW:Wq.heap.size<(Wq.alloc (.cells #[.int .i64 m,.string st,.int .i64 fi,.int .i64 se] 135)).heap.size:=by simp
   have DZ:=hide (fun q=>aa HF ((Wq.alloc (.cells #[.int .i64 m,.string st,.int .i64 fi,.int .i64 se] 135)).drewN q) t T S C1 (j_ n d::V) d b (aa HR) hx (aa Zo) (aa HSC) (aa HVV) (hide ⟨(aa HTk).drew q,aa HTI,aa (iC.move HCk (fun _ _ _=>rfl)),aa HV⟩) (aa V7))
   unfold iD at DZ
   dsimp only at DZ
   have qk:=(aa HTk).kind hcell
   have J5:=hide hcell
   go_wp2_with fail
   clear QS HCq HFq XN q5 a0 a1 a2 a3 hcell
   generalize Wq.alloc (.cells #[.int .i64 m,.string st,.int .i64 fi,.int .i64 se] 135)=Wk at *
   generalize Wq.heap.size=kb at *
   obtain ⟨k0,k1,k2,k3⟩:=bI (aa HKk)
   obtain ⟨s0,s1⟩:=xn (aa Zw)
   have ab3:Tx<Wk.heap.size:=(Array.getElem?_eq_some_iff.1 (aa Zw)).1
   go_region_held3 (fun w'=>w'.cell? ⟨kb,0,none⟩=some (.int .i64 m)/\w'.cell? ⟨kb,1,none⟩=some (.string st)/\w'.cell? ⟨kb,2,none⟩=some (.int .i64 fi)/\w'.cell? ⟨kb,3,none⟩=some (.int .i64 se)/\w'.cell? ⟨Tx,1,none⟩=some (.int .i32 d)/\w'.cell? ⟨t.tb,m*3+1,none⟩=some (fv f)) (go_keep)
    ((refine Calls.mono (aa DZ 1) ?_;clear DZ;rintro x w4 ⟨r,t3,T3,S3,C3,rfl,hbr,yD,lI⟩;have u_:Hid (a_ t t3 (Wk.drewN 1) w4):=(aa lI).fr;have HT3:Hid (aX w4 t3 T3 (ak T3) S3 C3):=(aa yD).tab;obtain ⟨u0,u1,u2,u3⟩:=bI (a_.own u_ qW V9 (aa HKk));have V_:=hide (a_.own u_ ab3 V8 (aa Zw));obtain ⟨v0,v1⟩:=xn (aa V_);have rk:=(aa HT3).kind (aa J5);rw [(aa u_).tb] at rk;obtain ⟨p1,p2,p3,p4⟩:=(aa HT3).cells;rw [(aa u_).tb] at p1 p2 p3 p4))
   have vo:∀ p∈S3,p.1≠j_ n d:=fun p hp e=>by
    rcases (aa lI).new p hp with h1 | ⟨i,d2,hi,h1⟩
    ·exact hmiss p h1 e
    ·have:=(xh (h1.symm.trans e)).1
     omega
   have zh:Hid (aX w4.drew t3 T3 (ak T3) S3 C3):=(aa HT3).drew 1
   have hup:=vL tX Tryz.underlying127 (aa zh).sb (aa yD).sv.keys (NF hn hwf) vo (.int .i64 (r:Int))
   have qY:=hide ((aa zh).stepped (S3++[(j_ n d,.int .i64 (r:Int))]))
   have ab4:TF t3 t3.sb:=.inr (.inr (.inl rfl))
   have HC5:Hid (iC (ChangeMaps.setBlock (w4.drew) t3.sb (mkMap (S3++[(j_ n d,.int .i64 (r:Int))]))) t3 T3 C3):=iC.move (hide (aa yD).cv) fun k hk hf=>bO (w:=w4.drew) (fun e=>hf (by rw [e];exact ab4))
   have HV5:=hide ((aa yD).sv.add hn hwf ((aa lI).rp (aa HR)) hbr vo)
   have hf3:=aa u_
   have VS:Hid (a_ t t3 w w4):=(aa HFk).trans ⟨hf3.os,hf3.tape,hf3.output,hf3.size,hf3.block,hf3.tb,hf3.nb,hf3.sb,hf3.cb,hf3.row⟩
   have zK:=aa VS
   have Mf:Hid (a_ t t3 w (ChangeMaps.setBlock (w4.drew) t3.sb (mkMap (S3++[(j_ n d,.int .i64 (r:Int))])))):=⟨zK.os,zK.tape,zK.output,by rw [vO];exact zK.size,fun k hk hf=>(bO (w:=w4.drew) (fun e=>hf (by rw [e,zK.sb];exact .inr (.inr (.inl rfl))))).trans (zK.block k hk hf),zK.tb,zK.nb,zK.sb,zK.cb,zK.row⟩
   have HN5:Hid (Nx G V (fun i=>i<=n) 0 w t T S (ChangeMaps.setBlock (w4.drew) t3.sb (mkMap (S3++[(j_ n d,.int .i64 (r:Int))]))) t3 T3 (S3++[(j_ n d,.int .i64 (r:Int))])):=PG (aa lI) (aa Mf) (aa ab2)
   rw [aa V5] at hbr
   have Zv:=hide hbr
   have ab5:=hide (aa yD).ti
   generalize hS5:mkMap (S3++[(j_ n d,.int .i64 (r:Int))])=S5 at *
   generalize hSS:S3++[(j_ n d,Value.int .i64 (r:Int))]=SS at *
   unfold j_ at hup
   clear hmiss vo hf3 zK yD lI HT3 zh u_ HKk Zw V_ k0 k1 k2 k3 s0 s1 u0 u1 u2 u3 rk qk hS5 hSS hbr
   go_wp2_with fail
   go_region
   go_wp2_with fail
   go_ret
   exact ⟨r,t3,T3,SS,C3,rfl,aa Zv,⟨aa qY,aa ab5,aa HC5,aa HV5⟩,HN5⟩
 ·rw [decide_eq_false hfd]
  obtain ⟨p,rfl,hp,NH,CQ⟩:=ab0 (aa HOK) (aa V3) ab1 (aa HBs) hfd
  have hiI:(p:Int)<(l.length:Int):=by omega
  have hi0:(0:Int)<=(p:Int):=by omega
  have hwr:IntKind.i64.wrap (((p+1:Nat):Int) - 1)=(p:Int):=by simp [IntKind.wrap,IntKind.bits,IntKind.signed];omega
  have c1:=((aa (kU.below J6 (aa HB2))).rn.get hp).1
  obtain ⟨d,hd⟩:∃ d,l.getD p 0=d:=⟨_,rfl⟩
  rw [hd] at c1 NH CQ
  have HDL:=NH
  have NI:=CQ
  clear NH CQ hd
  have hsl:aF d=true:=mO (aa HOK) ((aa V3).mem d |>.1 HDL)
  have V4:si y d:=((aa V3).mem d).1 HDL
  have hwf:(Lit.int .i32 d).wf=true:=VZ hsl
  have V5:Hid (aK d y=aK d0 y):=oz hsl ab1 _ (Nat.le_refl _) (aa HOK) NI.symm
  have HSC:Hid (Seg y c d):=(aa HSG).trans NI
  have HIC:=hide V4
  have Zo:=hide hsl
  clear hsl V4 HDL NI
  have HT2:=aX.below HT1 (aa HB2)
  have xD:=iC.move LV (fun k hk _=>(aa HB2).block k hk)
  have Si:=aX.alloc HT2 (.cells #[.int .i64 n,.int .i32 d] 227)
  have HCd:=iC.move (w':=w2.alloc (.cells #[.int .i64 n,.int .i32 d] 227)) xD (fun k hk _=>Below.heap_alloc w2 _ k hk)
  have HFd:Hid (a_ t t w (w2.alloc (.cells #[.int .i64 n,.int .i32 d] 227))):=((aa ru).trans (a_.below (aa HB2))).trans (a_.below ((Below.refl _ _).alloc (Nat.le_refl _) _))
  obtain ⟨q1,q2,q3,q4⟩:=(aa Si).cells
  have L6:=hide (heap_alloc_new w2 (.cells #[.int .i64 n,.int .i32 d] 227))
  have HFT:Hid (∀ k,TF t k->k<w2.heap.size):=fun k hk=>(aa HT2).foot hk
  clear HT1 LV HT2 xD ru
  dsimp only
  by_cases hit:∃ p∈S,p.1=j_ n d
  ·obtain ⟨p,hp,hpn⟩:=hit
   obtain ⟨n',d',r,y',e,h1,h2,h3,h4⟩:=(aa HV).2 p hp
   rw [e] at hpn
   obtain ⟨rfl,rfl⟩:=xh hpn
   obtain ⟨j,hj⟩:=List.mem_iff_getElem?.1 hp
   rw [e] at hj
   have hlk:=fun q=>vK tX Tryz.underlying127 ((aa Si).drew q).sb (aa HV).keys (NF hn hwf) (aa HV).1 hj
   unfold j_ at hlk
   have V6:=hlk 0
   rw [h3.uniq (aa HR),aa V5] at h4
   have Zv:=hide h4
   clear h1 h2 h3 h4 e hp hpn hj q2
   go_wp2_with fail
   go_quiet (fail)
   go_wp2_with fail
   go_ret
   exact ⟨r,t,T,S,C1,rfl,aa Zv,⟨(aa Si).drew nq,aa HTI,aa (iC.move HCd (fun _ _ _=>rfl)),aa HV⟩,Nx.world (a_.drewN (aa HFd) nq)⟩
  ·have hmiss:∀ p∈S,p.1≠j_ n d:=fun p hp e=>hit ⟨p,hp,e⟩
   have hlk:=fun q=>sS tX Tryz.underlying127 ((aa Si).drew q).sb (aa HV).keys (NF hn hwf) hmiss (z:=.int .i64 0) (by simp [go_sem])
   unfold j_ at hlk
   have V6:=hlk 0
   have Ku:=PE (aa HTI) (aa HR) (aa HIC) (aa HSC) hmiss (aa HVN) hpay
   have ab2:=hide Ku
   have HVV:Hid (∀ v∈j_ n d::V,∃ (m:Nat) (d':Int),n<=m/\v=j_ m d'):=fun v hv=>by
    rcases List.mem_cons.1 hv with q | q
    ·exact ⟨n,d,Nat.le_refl _,q⟩
    ·obtain ⟨m',d',q1,q2⟩:=aa HVN v q
     exact ⟨m',d',by omega,q2⟩
   have Kv:T.length+mD G T (S.map (·.1)++j_ n d::V)+gg<=fU:=by omega
   have V7:=hide Kv
   clear Kv Ku
   obtain ⟨kd,st,fi,se⟩:=k
   dsimp only at hkd
   subst hkd
   have hlt:n<T.length:=(List.getElem?_eq_some_iff.1 hx).1
   have hnI:(n:Int)<(T.length:Int):=by omega
   have hn0:(0:Int)<=(n:Int):=by omega
   have hm0:(0:Int)<=(m:Int):=by omega
   have hmI:(m:Int)<7:=by omega
   have V8:¬ TF t w2.heap.size:=fun hf=>absurd (aa HFT _ hf) (Nat.lt_irrefl _)
   clear q2 hit hm7
   go_wp2_with fail
   go_quiet (fail)
   have QS:=hide ((aa Si).drew nq)
   have HCq:Hid (iC ((w2.alloc (.cells #[.int .i64 n,.int .i32 d] 227)).drewN nq) t T C1):=iC.move HCd (fun _ _ _=>rfl)
   have HFq:Hid (a_ t t w ((w2.alloc (.cells #[.int .i64 n,.int .i32 d] 227)).drewN nq)):=a_.drewN (aa HFd) nq
   have XN:Hid (((w2.alloc (.cells #[.int .i64 n,.int .i32 d] 227)).drewN nq).heap[w2.heap.size]? = some (.cells #[.int .i64 n,.int .i32 d] 227)):=aa L6
   clear hlk V6 q1 q3 q4 Si HCd HFd L6
   generalize (w2.alloc (.cells #[.int .i64 n,.int .i32 d] 227)).drewN nq=Wq at *
   generalize w2.heap.size=Tx at *
   obtain ⟨gt,q5,a0,a1,a2,a3,-⟩:=(aa QS).at hx
   dsimp only at a0 a1 a2 a3
   have HTk:=aX.alloc QS (.cells #[.int .i64 m,.string st,.int .i64 fi,.int .i64 se] 135)
   have HCk:=iC.move (w':=Wq.alloc (.cells #[.int .i64 m,.string st,.int .i64 fi,.int .i64 se] 135)) HCq (fun k hk _=>Below.heap_alloc Wq _ k hk)
   have HFk:Hid (a_ t t w (Wq.alloc (.cells #[.int .i64 m,.string st,.int .i64 fi,.int .i64 se] 135))):=(aa HFq).trans (a_.below ((Below.refl _ _).alloc (Nat.le_refl _) _))
   have hsq:Tx<Wq.heap.size:=(Array.getElem?_eq_some_iff.1 (aa XN)).1
   have Zw:Hid ((Wq.alloc (.cells #[.int .i64 m,.string st,.int .i64 fi,.int .i64 se] 135)).heap[Tx]? = some (.cells #[.int .i64 n,.int .i32 d] 227)):=(Below.heap_alloc Wq _ Tx hsq).trans (aa XN)
   have HKk:=hide (heap_alloc_new Wq (.cells #[.int .i64 m,.string st,.int .i64 fi,.int .i64 se] 135))
   have V9:¬ TF t Wq.heap.size:=aX.dS QS (Nat.le_refl _)
   have qW:Wq.heap.size<(Wq.alloc (.cells #[.int .i64 m,.string st,.int .i64 fi,.int .i64 se] 135)).heap.size:=by simp
   have DZ:=hide (fun q=>aa HF ((Wq.alloc (.cells #[.int .i64 m,.string st,.int .i64 fi,.int .i64 se] 135)).drewN q) t T S C1 (j_ n d::V) d b (aa HR) hx (aa Zo) (aa HSC) (aa HVV) (hide ⟨(aa HTk).drew q,aa HTI,aa (iC.move HCk (fun _ _ _=>rfl)),aa HV⟩) (aa V7))
   unfold iD at DZ
   dsimp only at DZ
   have qk:=(aa HTk).kind hcell
   have J5:=hide hcell
   go_wp2_with fail
   clear QS HCq HFq XN q5 a0 a1 a2 a3 hcell
   generalize Wq.alloc (.cells #[.int .i64 m,.string st,.int .i64 fi,.int .i64 se] 135)=Wk at *
   generalize Wq.heap.size=kb at *
   obtain ⟨k0,k1,k2,k3⟩:=bI (aa HKk)
   obtain ⟨s0,s1⟩:=xn (aa Zw)
   have ab3:Tx<Wk.heap.size:=(Array.getElem?_eq_some_iff.1 (aa Zw)).1
   go_region_held3 (fun w'=>w'.cell? ⟨kb,0,none⟩=some (.int .i64 m)/\w'.cell? ⟨kb,1,none⟩=some (.string st)/\w'.cell? ⟨kb,2,none⟩=some (.int .i64 fi)/\w'.cell? ⟨kb,3,none⟩=some (.int .i64 se)/\w'.cell? ⟨Tx,1,none⟩=some (.int .i32 d)/\w'.cell? ⟨t.tb,m*3+1,none⟩=some (fv f)) (go_keep)
    ((refine Calls.mono (aa DZ 1) ?_;clear DZ;rintro x w4 ⟨r,t3,T3,S3,C3,rfl,hbr,yD,lI⟩;have u_:Hid (a_ t t3 (Wk.drewN 1) w4):=(aa lI).fr;have HT3:Hid (aX w4 t3 T3 (ak T3) S3 C3):=(aa yD).tab;obtain ⟨u0,u1,u2,u3⟩:=bI (a_.own u_ qW V9 (aa HKk));have V_:=hide (a_.own u_ ab3 V8 (aa Zw));obtain ⟨v0,v1⟩:=xn (aa V_);have rk:=(aa HT3).kind (aa J5);rw [(aa u_).tb] at rk;obtain ⟨p1,p2,p3,p4⟩:=(aa HT3).cells;rw [(aa u_).tb] at p1 p2 p3 p4))
   have vo:∀ p∈S3,p.1≠j_ n d:=fun p hp e=>by
    rcases (aa lI).new p hp with h1 | ⟨i,d2,hi,h1⟩
    ·exact hmiss p h1 e
    ·have:=(xh (h1.symm.trans e)).1
     omega
   have zh:Hid (aX w4.drew t3 T3 (ak T3) S3 C3):=(aa HT3).drew 1
   have hup:=vL tX Tryz.underlying127 (aa zh).sb (aa yD).sv.keys (NF hn hwf) vo (.int .i64 (r:Int))
   have qY:=hide ((aa zh).stepped (S3++[(j_ n d,.int .i64 (r:Int))]))
   have ab4:TF t3 t3.sb:=.inr (.inr (.inl rfl))
   have HC5:Hid (iC (ChangeMaps.setBlock (w4.drew) t3.sb (mkMap (S3++[(j_ n d,.int .i64 (r:Int))]))) t3 T3 C3):=iC.move (hide (aa yD).cv) fun k hk hf=>bO (w:=w4.drew) (fun e=>hf (by rw [e];exact ab4))
   have HV5:=hide ((aa yD).sv.add hn hwf ((aa lI).rp (aa HR)) hbr vo)
   have hf3:=aa u_
   have VS:Hid (a_ t t3 w w4):=(aa HFk).trans ⟨hf3.os,hf3.tape,hf3.output,hf3.size,hf3.block,hf3.tb,hf3.nb,hf3.sb,hf3.cb,hf3.row⟩
   have zK:=aa VS
   have Mf:Hid (a_ t t3 w (ChangeMaps.setBlock (w4.drew) t3.sb (mkMap (S3++[(j_ n d,.int .i64 (r:Int))])))):=⟨zK.os,zK.tape,zK.output,by rw [vO];exact zK.size,fun k hk hf=>(bO (w:=w4.drew) (fun e=>hf (by rw [e,zK.sb];exact .inr (.inr (.inl rfl))))).trans (zK.block k hk hf),zK.tb,zK.nb,zK.sb,zK.cb,zK.row⟩
   have HN5:Hid (Nx G V (fun i=>i<=n) 0 w t T S (ChangeMaps.setBlock (w4.drew) t3.sb (mkMap (S3++[(j_ n d,.int .i64 (r:Int))]))) t3 T3 (S3++[(j_ n d,.int .i64 (r:Int))])):=PG (aa lI) (aa Mf) (aa ab2)
   rw [aa V5] at hbr
   have Zv:=hide hbr
   have ab5:=hide (aa yD).ti
   generalize hS5:mkMap (S3++[(j_ n d,.int .i64 (r:Int))])=S5 at *
   generalize hSS:S3++[(j_ n d,Value.int .i64 (r:Int))]=SS at *
   unfold j_ at hup
   clear hmiss vo hf3 zK yD lI HT3 zh u_ HKk Zw V_ k0 k1 k2 k3 s0 s1 u0 u1 u2 u3 rk qk hS5 hSS hbr
   go_wp2_with fail
   go_region
   go_wp2_with fail
   go_ret
   exact ⟨r,t3,T3,SS,C3,rfl,aa Zv,⟨aa qY,aa ab5,aa HC5,aa HV5⟩,HN5⟩
end
section
variable {w W:World} {t:TB} {T:List Te} {N S C:List (Value×Value)} {k:Ky} {B:List Int} {G:List Gx} {V:List Value} {P:Tm->Prop}
theorem BO.lift {ok ok':Nat->Prop} {g:Nat} {z:Tm} {e:Ending} {w':World} (h:BO B G V ok g z W t T S e w') (hf:a_ t t w W) (hok:∀ i,ok i->ok' i):BO B G V ok' g z w t T S e w':=by
 obtain ⟨r,t',T',S',C',h1,h2,h3,h4⟩:=h
 refine ⟨r,t',T',S',C',h1,h2,h3,?_⟩
 have h5:=aa h4
 exact ⟨h5.sub,h5.zJ,fun p hp=>(h5.new p hp).elim .inl fun ⟨i,d,q1,q2⟩=>.inr ⟨i,d,hok i q1,q2⟩,hf.trans h5.fr,h5.pay⟩
theorem Nx.ok {ok ok':Nat->Prop} {g:Nat} {w':World} {t':TB} {T':List Te} {S':List (Value×Value)} (h5:Nx G V ok g w t T S w' t' T' S') (hok:∀ i,ok i->ok' i):Nx G V ok' g w t T S w' t' T' S':=
 ⟨h5.sub,h5.zJ,fun p hp=>(h5.new p hp).elim .inl fun ⟨i,d,q1,q2⟩=>.inr ⟨i,d,hok i q1,q2⟩,h5.fr,h5.pay⟩
theorem BO.then {ok:Nat->Prop} {g g':Nat} {z:Tm} {e:Ending} {w1 w':World} {t1:TB} {T1:List Te} {S1:List (Value×Value)} (h0:Nx G V ok g w t T S w1 t1 T1 S1) (h:BO B G V ok g' z w1 t1 T1 S1 e w'):BO B G V ok (g+g') z w t T S e w':=by
 obtain ⟨r,t',T',S',C',h1,h2,h3,h4⟩:=h
 exact ⟨r,t',T',S',C',h1,h2,h3,h0.trans (aa h4)⟩
theorem BO.less {ok:Nat->Prop} {g g':Nat} {z:Tm} {e:Ending} {w':World} (h:BO B G V ok g z w t T S e w') (hg:g<=g'):BO B G V ok g' z w t T S e w':=by
 obtain ⟨r,t',T',S',C',h1,h2,h3,h4⟩:=h
 have h5:=aa h4
 exact ⟨r,t',T',S',C',h1,h2,h3,⟨h5.sub,h5.zJ,h5.new,h5.fr,by have:=h5.pay;omega⟩⟩
theorem BO.of {ok:Nat->Prop} {g:Nat} {z:Tm} {e:Ending} {w':World} {R:List Te×Nat} (h:Hid (Sz B w t T S C)) (ho:Op B T R z g) (ht:FO R w t S C e w'):BO B G V ok g z w t T S e w':=by
 obtain ⟨rfl,t',h1,h2⟩:=ht
 exact ⟨R.2,t',R.1,S,C,rfl,ho.rp,(aa h).op ho h1 h2,Nx.op ho (aa h2)⟩
theorem aaQ {n:Nat} {y:Tm} (h:Rp T n y) {x:Te} (hx:T[n]? = some x):0<=x.1.fi:=by
 cases h with
 | set h _=>rw [h] at hx;cases hx;exact Int.le_refl _
 | eps h=>rw [h] at hx;cases hx;exact Int.le_refl _
 | chain h _ _=>rw [h] at hx;cases hx;exact Int.natCast_nonneg _
 | star h _=>rw [h] at hx;cases hx;exact Int.natCast_nonneg _
 | aZ h _ _=>rw [h] at hx;cases hx;exact Int.natCast_nonneg _
 | not h _=>rw [h] at hx;cases hx;exact Int.natCast_nonneg _
theorem CR {ok:Nat->Prop} {i j:Nat} {s u:Tm} (h:Hid (Sz B w t T S C)) (hi:Rp T i s) (hj:Rp T j u) (hl:T.length+dO s<=fU) :
  Calls Tryz.prog 116 #[.pointer (some ⟨t.tb,0,none⟩),.int .i64 i,.int .i64 j] w (BO B G V ok (dO s) (ax s u) w t T S):=by
 have ho:=Op.chain (i+1) (aa h).ti (Nat.lt_succ_self i) hi hj
 refine (Ej (i+1) w t T i j (Nat.lt_succ_self i) (hide (aa h).tab) (aa h).ti.wf (by have:=hi.lt;omega) hi.lt hj.lt (by have:=ho.len;omega)).mono fun e w' ht=>BO.of h ho ht
theorem Wd {ok:Nat->Prop} {i:Nat} {s:Tm} (h:Hid (Sz B w t T S C)) (hi:Rp T i s) (hl:T.length+1<=fU) :
  Calls Tryz.prog 78 #[.pointer (some ⟨t.tb,0,none⟩),.int .i64 i] w (BO B G V ok 1 (ku s) w t T S):=by
 have ho:=Op.not (aa h).ti hi
 exact (Ot (hide (aa h).tab) hi.lt (fun x hx=>aaQ hi hx) (by have:=ho.len;omega)).mono fun e w' ht=>BO.of h ho ht
theorem Zx {ok:Nat->Prop} (h:Hid (Sz B w t T S C)) (hl:T.length<=fU) :
  Calls Tryz.prog 78 #[.pointer (some ⟨t.tb,0,none⟩),.int .i64 ((0:Nat):Int)] w (BO B G V ok 0 whole w t T S):=by
 have hT:=(aa h).ti
 have ho:Op B T (vP T 0) whole 0:=by
  have h1:vP T 0=dP T (dR 0):=by unfold vP;rw [hT.t0];rfl
  rw [h1]
  rcases dV T (dR 0) with ⟨i,b,hx,e⟩ | ⟨hno,e⟩
  ·rw [e];exact Op.same hT (.not hx hT.r0)
  ·exact absurd rfl (hno _ (List.mem_iff_getElem?.2 ⟨2,hT.t2⟩))
 exact (Ot (hide (aa h).tab) hT.r0.lt (fun x hx=>aaQ hT.r0 hx) (by have:=ho.len;omega)).mono fun e w' ht=>BO.of h ho ht
theorem We {ok:Nat->Prop} {n i:Nat} {a:Tm} {b:Bool} (h:Hid (Sz B w t T S C)) (hl:T.length<=fU) (hx:T[n]? = some (dQ i,b)) (hr:Rp T n (.star a)) (hi:Rp T i a) :
  Calls Tryz.prog 117 #[.pointer (some ⟨t.tb,0,none⟩),.int .i64 i] w (BO B G V ok 0 (.star a) w t T S):=by
 have hT:=(aa h).ti
 have hcn:uU .none (.star a):=hT.cn hr
 have ho:Op B T (uo T i) (.star a) 0:=by
  have h0:¬ (i=0\/i=1):=by
   rintro (e | e)
   ·exact hcn.2.1 ((hT.zero hi).1 e)
   ·exact hcn.2.2.1 ((hT.one hi).1 e)
  obtain ⟨x,hxi⟩:=hT.at hi
  have h3:x.1.kd≠3:=fun e3=>by
   have:=hcn.2.2.2
   cases hi with
   | set h _=>rw [h] at hxi;cases hxi;cases e3
   | eps h=>rw [h] at hxi;cases hxi;cases e3
   | chain h _ _=>rw [h] at hxi;cases hxi;cases e3
   | star h _=>cases this
   | @aZ _ _ _ k _ _ _ h _ _=>rw [h] at hxi;cases hxi;cases k<;>cases e3
   | not h _=>rw [h] at hxi;cases hxi;cases e3
  have h1:uo T i=dP T (dQ i):=by unfold uo;rw [if_neg h0,hxi];simp [h3]
  rw [h1]
  rcases dV T (dQ i) with ⟨m,b,hx,e⟩ | ⟨hno,e⟩
  ·rw [e];exact Op.same hT (.star hx hi)
  ·exact absurd rfl (hno _ (List.mem_iff_getElem?.2 ⟨n,hx⟩))
 exact (Ii (hide (aa h).tab) hi.lt (by have:=ho.len;omega)).mono fun e w' ht=>BO.of h ho ht
theorem Sz.alloc (h:Hid (Sz B w t T S C)) (o:Obj):Hid (Sz B (w.alloc o) t T S C):=(aa h).move fun k hk=>Below.heap_alloc w o k hk
theorem Sz.drewN (h:Hid (Sz B w t T S C)) (q:Nat):Hid (Sz B (w.drewN q) t T S C):=(aa h).move fun _ _=>rfl
theorem Sz.below {w':World} (h:Hid (Sz B w t T S C)) (hb:Below w.heap.size w w'):Hid (Sz B w' t T S C):=(aa h).move fun k hk=>hb.block k hk
set_option maxRecDepth 100000 in
set_option maxHeartbeats 4000000 in
theorem ab6 {n:Nat} {c:Int} {l:af} (hB:B.length<=480) (ht:Tidy l) (hb:bU B l):GY B G n (.set l) c (kg (encS l)) 164 0:=by
 intro w t T S C V d b hr hx hsd hseg hV dI hlim
 have hlen:=(fQ ht hb).1
 have HH:=hide (YL (w.alloc (.cells #[.int .i64 0,.string (encS l),.int .i64 0,.int .i64 0] 135)) l d (by omega) ht)
 have Gq:=hide (aa dI).ti.r0
 have HR1:=hide (aa dI).ti.r1
 rw [jy]
 unfold iD kg
 dsimp only
 have HA:Hid (Below w.heap.size w (w.alloc (.cells #[.int .i64 0,.string (encS l),.int .i64 0,.int .i64 0] 135))):=(Below.refl _ _).alloc (Nat.le_refl _) _
 have hsz:w.heap.size<(w.alloc (.cells #[.int .i64 0,.string (encS l),.int .i64 0,.int .i64 0] 135)).heap.size:=by simp
 clear hx hr hseg hsd hV hlim ht hb hlen
 generalize dw l d=q at *
 generalize encS l=es at *
 cases q
 ·go_enter Tryz.func164,Tryz.ntmps164
  go_wp2_with (go_at_call 165;refine (aa HH).mono ?_;clear HH;rintro e w2 ⟨rfl,HB⟩)
  go_ret
  have hb2:Below w.heap.size w w2:=(aa HA).trans (HB.mono (by omega))
  exact ⟨0,t,T,S,C,rfl,aa Gq,Sz.below dI hb2,Nx.world (a_.below hb2)⟩
 ·go_enter Tryz.func164,Tryz.ntmps164
  go_wp2_with (go_at_call 165;refine (aa HH).mono ?_;clear HH;rintro e w2 ⟨rfl,HB⟩)
  go_ret
  have hb2:Below w.heap.size w w2:=(aa HA).trans (HB.mono (by omega))
  exact ⟨1,t,T,S,C,rfl,aa HR1,Sz.below dI hb2,Nx.world (a_.below hb2)⟩
set_option maxRecDepth 100000 in
theorem Wh {n:Nat} {c:Int}:GY B G n eps c vH 169 0:=by
 intro w t T S C V d b hr hx hsd hseg hV dI hlim
 have Gq:=hide (aa dI).ti.r0
 rw [A_]
 unfold iD
 clear hx hr hseg hsd hV hlim
 go_enter Tryz.func169,Tryz.ntmps169
 go_wp2_with fail
 go_ret
 have hb2:Below w.heap.size w (w.alloc (.cells #[.int .i64 vH.kd,.string vH.st,.int .i64 vH.fi,.int .i64 vH.se] 135)):=(Below.refl _ _).alloc (Nat.le_refl _) _
 exact ⟨0,t,T,S,C,rfl,aa Gq,Sz.below dI hb2,Nx.world (a_.below hb2)⟩
theorem Zy {n i:Nat} {y:Tm} {b:Bool} (h:Rp T n y) (hx:T[n]? = some (dR i,b)):∃ a,y=.not a/\Rp T i a:=by
 cases h with
 | set h _=>have e:=aA hx h;cases e
 | eps h=>have e:=aA hx h;cases e
 | chain h _ _=>have e:=aA hx h;cases e
 | star h _=>have e:=aA hx h;cases e
 | @aZ _ _ _ k _ _ _ h _ _=>have e:=aA hx h;cases k<;>cases e
 | @not _ i' s _ h hs=>
  have e:=aA hx h
  simp only [dR,Ky.mk.injEq] at e
  have:i=i':=by omega
  subst this
  exact ⟨s,rfl,hs⟩
theorem Wi {n i:Nat} {y:Tm} {b:Bool} (h:Rp T n y) (hx:T[n]? = some (dQ i,b)):∃ a,y=.star a/\Rp T i a:=by
 cases h with
 | set h _=>have e:=aA hx h;cases e
 | eps h=>have e:=aA hx h;cases e
 | chain h _ _=>have e:=aA hx h;cases e
 | @star _ i' s _ h hs=>
  have e:=aA hx h
  simp only [dQ,Ky.mk.injEq] at e
  have:i=i':=by omega
  subst this
  exact ⟨s,rfl,hs⟩
 | @aZ _ _ _ k _ _ _ h _ _=>have e:=aA hx h;cases k<;>cases e
 | not h _=>have e:=aA hx h;cases e
theorem Fb {n i j:Nat} {y:Tm} {b:Bool} (h:Rp T n y) (hx:T[n]? = some (bJ i j,b)):∃ a u,y=.chain a u/\Rp T i a/\Rp T j u:=by
 cases h with
 | set h _=>have e:=aA hx h;cases e
 | eps h=>have e:=aA hx h;cases e
 | @chain _ i' j' s u _ h hs hu=>
  have e:=aA hx h
  simp only [bJ,Ky.mk.injEq] at e
  have e1:i=i':=by omega
  have e2:j=j':=by omega
  subst e1
  subst e2
  exact ⟨s,u,rfl,hs,hu⟩
 | star h _=>have e:=aA hx h;cases e
 | @aZ _ _ _ k _ _ _ h _ _=>have e:=aA hx h;cases k<;>cases e
 | not h _=>have e:=aA hx h;cases e
def Kw (a:Tm):Nat:=if a=aG then 0 else 1
theorem Zz {ok:Nat->Prop} {i:Nat} {a:Tm} {d:Int} (h:Hid (Sz B w t T S C)) (hi:Rp T i (aK d a)) (hl:T.length+Kw a<=fU) :
  Calls Tryz.prog 78 #[.pointer (some ⟨t.tb,0,none⟩),.int .i64 i] w (BO B G V ok (Kw a) (ku (aK d a)) w t T S):=by
 unfold Kw at *
 by_cases e:a=aG
 ·rw [if_pos e] at hl ⊢
  rw [e,show aK d aG=aG from rfl] at hi ⊢
  rw [((aa h).ti.zero hi).2 rfl]
  exact Zx h (by omega)
 ·rw [if_neg e] at hl ⊢
  exact Wd h hi hl
set_option maxRecDepth 100000 in
set_option maxHeartbeats 4000000 in
theorem ab7 {n i:Nat} {c:Int} {a:Tm} (hin:i<n) (ha:Kt B G i a c):GY B G n (.not a) c (dR i) 187 (Kw a):=by
 intro w t T S C V d b hr hx hsd hseg hV h hlim
 obtain ⟨a',e,hi⟩:=Zy hr hx
 cases e
 rw [vW]
 have GZ:=hide (ha (w.alloc (.cells #[.int .i64 6,.string ⟨#[]⟩,.int .i64 (i:Int),.int .i64 0] 135)) t T S C V d hi hsd (fun b hb=>hseg b hb) (fun v hv=>by obtain ⟨m,d',q1,q2⟩:=hV v hv;exact ⟨m,d',by omega,q2⟩) (Sz.alloc h _) (by omega))
 have uh:Hid (a_ t t w (w.alloc (.cells #[.int .i64 6,.string ⟨#[]⟩,.int .i64 (i:Int),.int .i64 0] 135))):=a_.below ((Below.refl _ _).alloc (Nat.le_refl _) _)
 have HNO:=hide (fun (w1:World) (t1:TB) (T1:List Te) (S1 C1:List (Value×Value)) (r:Nat) (h1:Hid (Sz B w1 t1 T1 S1 C1)) (hr1:Rp T1 r (aK d a)) (hp:T1.length+mD G T1 (S1.map (·.1)++V)<=T.length+mD G T (S.map (·.1)++V)+0)=>Zz (G:=G) (V:=V) (ok:=fun j=>j<n) h1 hr1 (by omega))
 unfold iD dR
 dsimp only
 clear h hx hr hseg hsd hV hlim hi ha
 go_enter Tryz.func187,Tryz.ntmps187
 go_wp2_with (first
  | (go_at_call 101;refine (aa GZ).mono ?_;clear GZ;rintro e w1 ⟨r1,t1,T1,S1,C1,rfl,hr1,xK,nY⟩;have l_:=hide (aa HNO w1 t1 T1 S1 C1 r1 xK hr1 (aa nY).pay);rw [(aa nY).fr.tb] at l_;clear HNO)
  | (go_at_call 78;refine (aa l_).mono ?_;clear l_;rintro e w2 HH;have CS:=hide HH;obtain ⟨r2,t2,T2,S2,C2,rfl,-⟩:=HH))
 go_ret
 have h1:=BO.then ((Nx.world (aa uh)).trans ((aa nY).ok fun j (hj:j<=i)=>(show j<n by omega))) (aa CS)
 exact h1.less (by omega)
set_option maxRecDepth 100000 in
set_option maxHeartbeats 4000000 in
theorem ZA {n i:Nat} {c:Int} {a:Tm} (hin:i<n) (hsc:aF c=true) (ha:Kt B G i a c):GY B G n (.star a) c (dQ i) 176 (dO (aK c a)):=by
 intro w t T S C V d b hr hx hsd hseg hV dI hlim
 obtain ⟨a',e,hi⟩:=Wi hr hx
 cases e
 have hok:jW (.star a):=((aa dI).ti.cn hr).ok
 rw [tu,show aK c a=aK d a from oz hsc hsd _ (Nat.le_refl _) (show jW a from hok) (fun b hb=>hseg b hb)] at *
 have uh:Hid (a_ t t w (w.alloc (.cells #[.int .i64 3,.string ⟨#[]⟩,.int .i64 (i:Int),.int .i64 0] 135))):=a_.below ((Below.refl _ _).alloc (Nat.le_refl _) _)
 have GZ:=hide (fun q=>ha ((w.alloc (.cells #[.int .i64 3,.string ⟨#[]⟩,.int .i64 (i:Int),.int .i64 0] 135)).drewN q) t T S C V d hi hsd (fun b hb=>hseg b hb) (fun v hv=>by obtain ⟨m,d',q1,q2⟩:=hV v hv;exact ⟨m,d',by omega,q2⟩) (Sz.drewN (Sz.alloc dI _) q) (by omega))
 have HST:=hide (fun (w1:World) (t1:TB) (T1:List Te) (S1 C1:List (Value×Value)) (h1:Hid (Sz B w1 t1 T1 S1 C1)) (hn:Nx G V (fun j=>j<=i) 0 ((w.alloc (.cells #[.int .i64 3,.string ⟨#[]⟩,.int .i64 (i:Int),.int .i64 0] 135)).drewN 1) t T S w1 t1 T1 S1)=>We (G:=G) (V:=V) (ok:=fun j=>j<n) h1 (by have:=hn.pay;omega) (hn.get hx) (hn.rp hr) (hn.rp hi))
 have Nn:=hide (fun (w1:World) (t1:TB) (T1:List Te) (S1 C1:List (Value×Value)) (r s:Nat) (h1:Hid (Sz B w1 t1 T1 S1 C1)) (hr1:Rp T1 r (aK d a)) (hs1:Rp T1 s (.star a)) (hp:T1.length+mD G T1 (S1.map (·.1)++V)<=T.length+mD G T (S.map (·.1)++V))=>CR (G:=G) (V:=V) (ok:=fun j=>j<n) h1 hr1 hs1 (by omega))
 have DC:=hide (heap_alloc_new w (.cells #[.int .i64 3,.string ⟨#[]⟩,.int .i64 (i:Int),.int .i64 0] 135))
 have hnot:¬ TF t w.heap.size:=aX.dS (hide (aa dI).tab) (Nat.le_refl _)
 have qW:w.heap.size<(w.alloc (.cells #[.int .i64 3,.string ⟨#[]⟩,.int .i64 (i:Int),.int .i64 0] 135)).heap.size:=by simp
 unfold iD dQ
 dsimp only
 clear dI hx hr hseg hsd hV hlim hi ha hok
 go_enter Tryz.func176,Tryz.ntmps176
 go_wp2_with fail
 generalize w.alloc (.cells #[.int .i64 3,.string ⟨#[]⟩,.int .i64 (i:Int),.int .i64 0] 135)=Wk at *
 obtain ⟨k0,k1,k2,k3⟩:=bI (aa DC)
 generalize hkb:w.heap.size=kb at *
 go_region_held3 (fun w'=>w'.cell? ⟨kb,2,none⟩=some (.int .i64 i)) (go_keep)
  (first
   | (go_at_call 101;refine (aa GZ 1).mono ?_;clear GZ;rintro x w1 ⟨r1,t1,T1,S1,C1,rfl,hr1,xK,nY⟩;have ru:Hid (a_ t t1 (Wk.drewN 1) w1):=(aa nY).fr;have D6:=hide (a_.own ru qW hnot (aa DC));obtain ⟨r0,r1',r2,r3⟩:=bI (aa D6);have HS2:=hide (aa HST w1 t1 T1 S1 C1 xK (aa nY));rw [(aa ru).tb] at HS2;have Fe:¬ TF t1 kb:=(fun hf=>((aa ru).foot hf).elim hnot (fun hle=>absurd qW (by have:Wk.heap.size<=kb:=hle;omega)));have hlt1:kb<w1.heap.size:=Nat.lt_of_lt_of_le qW (aa ru).size)
   | (go_at_call 117;refine (aa HS2).mono ?_;clear HS2;rintro x w2 ⟨s2,t2,T2,S2,C2,rfl,hs2,xL,iy⟩;have uJ:Hid (a_ t1 t2 w1 w2):=(aa iy).fr;have Kz:=hide (a_.own uJ hlt1 Fe (aa D6));obtain ⟨s0,s1',s2',s3⟩:=bI (aa Kz);have MZ:=hide (aa Nn w2 t2 T2 S2 C2 r1 s2 xL ((aa iy).rp hr1) hs2 (by have h1:=(aa nY).pay;have h2:=(aa iy).pay;omega));rw [(aa uJ).tb,(aa ru).tb] at MZ;have adD:¬ TF t2 kb:=(fun hf=>((aa uJ).foot hf).elim Fe (fun hle=>absurd hlt1 (by have:w1.heap.size<=kb:=hle;omega)));have hlt2:kb<w2.heap.size:=Nat.lt_of_lt_of_le hlt1 (aa uJ).size)
   | (go_at_call 116;refine (aa MZ).mono ?_;clear MZ;rintro x w3 HH;have CS:=hide HH;obtain ⟨c3,t3,T3,S3,C3,rfl,-,-,lI⟩:=HH;have u_:Hid (a_ t2 t3 w2 w3):=(aa lI).fr;have aez:=hide (a_.own u_ hlt2 adD (aa Kz));obtain ⟨z0,z1,z2,z3⟩:=bI (aa aez)))
 go_wp2_with fail
 go_ret
 have h1:=BO.then (((Nx.world (a_.drewN (aa uh) 1)).trans ((aa nY).ok fun j (hj:j<=i)=>(show j<n by omega))).trans (aa iy)) (aa CS)
 exact h1.less (by omega)
end
end Go.Proofs.YtfolanohokflkaaGreatDoor
namespace Go.Proofs.YtfolanohokflkaaGreatDoor
open Go.RowKit
section
variable {B:List Int} {w:World} {t:TB} {T:List Te} {S C:List (Value×Value)}
set_option maxRecDepth 100000 in
set_option maxHeartbeats 8000000 in
theorem Wj {l:List Nat} {ts:List Tm} {g0 cap0:Nat} (h:Hid (aX w t T (ak T) S C)) (hT:TI B T) (hB:B.length<=480) (hr:g_ T l ts) (hne:l≠[]) (hln:l.length<=500000) (nR:∀ t∈ts,(memT true t).length<=200000) (Sb:(memT true (aj true ts)).length<=200000) (hlim:T.length+(memT true (aj true ts)).length+2<=fU)
  (hc:∀ j x,(ay l)[j]? = some x->w.cell? ⟨g0,j,none⟩=some (.int .i64 x)) (hg0:g0<w.heap.size) :
  Calls Tryz.prog 77 #[.pointer (some ⟨t.tb,0,none⟩),.slice (some ⟨g0,0,none⟩) l.length cap0] w fun e w'=>∃ R,Op B T R (aj true ts) ((memT true (aj true ts)).length+1)/\(∀ r,l=[r]->R=(T,r))/\FO R w t S C e w':=by
 have hJ:=hT.toTJ
 have qN:∀ n∈l,∃ t,Rp T n t/\t∈ts:=fun n hn=>by
  obtain ⟨t,ht,_⟩:=hT.all n (hr.lt n hn)
  exact ⟨t,ht,hr.mem.2 ⟨n,hn,ht⟩⟩
 have hsp:∀ n∈l,ky T true n (gG T true n)/\(gG T true n).length<=200000:=fun n hn=>by
  obtain ⟨t,ht,htm⟩:=qN n hn
  have h1:=Ag (k:=true) ht
  exact ⟨h1,Nat.le_trans (Ah hT ht h1) (nR t htm)⟩
 have qM:(l.flatMap (gG T true)).length<=100000000000:=by
  have h1:=Cy (b:=200000) fun n hn=>(hsp n hn).2
  have h2:l.length*200000<=500000*200000:=Nat.mul_le_mul_right _ hln
  omega
 have hSL:=yz (k:=true) (T:=T) (l:=l) fun n hn=>(hsp n hn).1
 have Nw:=hSL.kinds hJ
 obtain ⟨L,Nh,Zn,Po⟩:=E9 (l.flatMap (gG T true))
 have HM:=hide (ze (cap0:=cap0) h hT.wf (fun n hn=>⟨(hsp n hn).1,by have:=(hsp n hn).2;omega⟩) hne (by omega) hc hg0 qM (fun m hm=>by
  obtain ⟨x,hx,_⟩:=Nw m hm
  exact (List.getElem?_eq_some_iff.1 hx).1) Nh)
 have XY:=hide qM
 have abR:Hid (∃ m,m∈l.flatMap (gG T true)):=by
  obtain ⟨a,r,rfl⟩:∃ a r,l=a::r:=by cases l with
   | nil=>exact absurd rfl hne
   | cons a r=>exact ⟨a,r,rfl⟩
  have:=(hsp a (List.mem_cons_self ..)).1.ne
  obtain ⟨x,y,e⟩:∃ x y,gG T true a=x::y:=by
   cases hq:gG T true a with
   | nil=>exact absurd hq this
   | cons x y=>exact ⟨x,y,rfl⟩
  exact ⟨x,by rw [List.flatMap_cons,e];simp⟩
 have Zo:=hide hSL
 have HKN:=hide Nw
 have HR:=hide hr
 have adz:1<=(memT true (aj true ts)).length:=by
  cases hq:memT true (aj true ts) with
  | nil=>exact absurd hq (v_ _ _)
  | cons _ _=>simp
 clear hc hg0 hne hln nR qN hsp qM hSL Nw hr
 have aaM:L.length<=(l.flatMap (gG T true)).length:=il (Zn.imp fun q e=>by omega) fun m hm=>(Po m).1 hm
 obtain ⟨ss,hs1,hs2,hs3⟩:=GK hT (L:=L.filter fun m=>aW T m) fun m hm=>(List.mem_filter.1 hm).2
 have l_:=hide (Vy hT (aa HR) (aa Zo) Zn Po hs1 fun s hs=>(hs3 s hs).1)
 have Zp:Hid (∀ r,l=[r]->Y4 T true L (fG true ss)=(T,r)):=fun r e=>by
  subst e
  cases aa HR with
  | cons h1 _=>exact Kb hT (Ag (k:=true) h1) Zn (fun m=>by rw [Po m];simp) hs1
 have hsl:(L.filter fun m=>aW T m).length=ss.length:=by
  have:=congrArg List.length hs2
  simpa using this
 rw [hs2,hsl] at HM
 have hkind:∀ m∈L,∃ x,T[m]? = some x/\x.1.kd≠kk true:=fun m hm=>aa HKN m ((Po m).1 hm)
 have hns:∀ m∈L.filter (fun m=>!aW T m),¬ Na T m:=fun m hm q=>by
  have:=(List.mem_filter.1 hm).2
  rw [l8.2 q] at this;cases this
 have hbf:(L.filter fun m=>!aW T m).Pairwise (Bf T):=(Zn.filter _).imp_of_mem fun {a b} ha hb q=>⟨hns a ha,.inr q⟩
 have hM:MOk T true (L.filter fun m=>!aW T m):=⟨fun m hm=>hkind m (List.mem_filter.1 hm).1,hbf⟩
 have hfl:=aa XY
 have hex:∀ m∈L,∃ t,Rp T m t:=fun m hm=>by
  obtain ⟨x,hx,_⟩:=hkind m hm
  obtain ⟨y,hy,_⟩:=hJ.all m (List.getElem?_eq_some_iff.1 hx).1
  exact ⟨y,hy⟩
 obtain ⟨zs,hzs⟩:=g_.of (T:=T) (l:=L.filter fun m=>!aW T m) fun m hm=>hex m (List.mem_filter.1 hm).1
 have TS:=hide (fun i (hi:TF t i)=>(aa h).foot hi)
 have hin:∀ m∈L.filter (fun m=>!aW T m),m<T.length:=hzs.lt
 have hNl:(L.filter fun m=>!aW T m).length<=100000000000:=Nat.le_trans (List.length_filter_le _ _) (by omega)
 have Hw:=hide hM
 have HNS:=hide hns
 have HZS:=hide hzs
 have Zj:=hide hin
 have hGm:=hlim
 obtain ⟨m0,hm0⟩:=aa abR
 have VP:=(Po m0).2 hm0
 clear hM hns hzs hbf hkind hex hs1 hs2 HKN XY Zo
 cases ss with
 | nil=>
  have VQ:0<(L.filter fun m=>!aW T m).length:=by
   have:m0∈L.filter fun m=>!aW T m:=List.mem_filter.2 ⟨VP,by
    cases hb:aW T m0 with
    | false=>rfl
    | true=>
     have hq:m0∈L.filter fun m=>aW T m:=List.mem_filter.2 ⟨VP,hb⟩
     rw [List.eq_nil_of_length_eq_zero hsl] at hq
     cases hq⟩
   exact List.length_pos_of_mem this
  have hop:=aa l_
  have hj0:=tV hT (aa Hw) (aa HZS)
  have e1:aj true ts=aj true zs:=hop.rp.uniq hj0.rp
  have Ny:=hide (fun (w2:World) (g1 pq:Nat) (hb2:Below w.heap.size w w2) (ho1:w2.ownsRow w.heap.size 3 1 (.slice (some ⟨g1,0,none⟩) (L.filter fun m=>!aW T m).length pq) (L.filter fun m=>!aW T m).length (ints (ay (L.filter fun m=>!aW T m)))) (GN:w.heap.size<=g1)=>wZ (k:=true) (cap:=pq) (aX.below h hb2) hT.wf (aa Zj) (by omega) (fun hz=>by
   have:=wY hT (aa Hw) (aa HZS) hz
   rw [<-e1] at this
   omega) (dU ho1 (Nat.zero_le _)) (aX.dS h GN))
  clear hj0 e1 hop
  rw [show ((aY true:Nat):Int)=2 from rfl,show ((dF true:Nat):Int)=0 from rfl,show kk true=5 from rfl] at Ny
  simp only [List.length_nil] at HM
  have Nz:Hid (Op B T (iF T true (L.filter fun m=>!aW T m)) (aj true ts) ((memT true (aj true ts)).length+1)):=l_
  have NA:Hid (∀ r0,l=[r0]->(iF T true (L.filter fun m=>!aW T m))=(T,r0)):=Zp
  clear Zp
  clear l_
  generalize iF T true (L.filter fun m=>!aW T m)=R at *
  generalize L.filter (fun m=>!aW T m)=NS at *
  go_enter Tryz.func77,Tryz.ntmps77
  go_wp2_with (first
   | (go_at_call 110;refine (aa HM).mono ?_;clear HM;rintro e w2 ⟨Tt,ao2,pq,cap2,rfl,xS,jh,HB2⟩;obtain ⟨ao1',cap1',e1,hv1⟩:=aN (aa xS);injection e1 with e2 e3 e4;subst e2;subst e4;obtain ⟨g1,rfl,GN,-⟩:=hv1 VQ;have HJ:=hide (aa Ny w2 g1 pq (aa HB2) (aa xS) GN);clear Ny)
   | (go_at_call 113;refine (aa HJ).mono ?_;clear HJ;rintro e w3 ⟨rfl,t3,HT3,HX3⟩))
  go_ret
  exact ⟨R,aa Nz,aa NA,rfl,t3,HT3,(a_.below (aa HB2)).past (aa HX3) GN⟩
 | cons s r=>
  have hrl:r.length+1<=100000000000:=by
   have h1:(s::r).length=r.length+1:=rfl
   have h2:(L.filter fun m=>aW T m).length<=L.length:=List.length_filter_le _ _
   omega
  have hs0:=hs3 s (List.mem_cons_self ..)
  have hf2:=jQ (B:=B) (k:=true) (l:=r) (s:=s) (fun x hx=>hs3 x (List.mem_cons_of_mem _ hx)) hs0.1 hs0.2
  have NB:=hide (fun (w2:World) (g2 cap2:Nat) (ho2:w2.ownsRow w.heap.size 61 1 (.slice (some ⟨g2,0,none⟩) (s::r).length cap2) (s::r).length (strs ((s::r).map encS)))=>Sa B hB w2 g2 cap2 s r (fun j x hj=>by
   have hjl:j<r.length+1:=(List.getElem?_eq_some_iff.1 hj).1
   rw [ho2.cellAt j (by simp;omega)]
   unfold strs
   rw [List.getElem?_map,List.getElem?_map,hj];rfl) (Ai ho2) (ho2.lt g2 rfl).2 (by omega) hs3)
  have hfs:(r.foldl (gI true) s).length<=481:=by have:=(fQ hf2.1 hf2.2).1;omega
  have hsz:(encS (r.foldl (gI true) s)).size<=maxLen:=by
   have:=yB (r.foldl (gI true) s)
   unfold maxLen
   omega
  have hop:=aa l_
  have oQ:=Op.set hT hf2.1 hf2.2
  have hmk:=Pq hT (aa Hw) (aa HNS) hf2.1 hf2.2
  have hup:g_ (fA T (encS (r.foldl (gI true) s))).1 ((L.filter fun m=>!aW T m)++[(fA T (encS (r.foldl (gI true) s))).2]) (zs++[.set (r.foldl (gI true) s)]):=by
   obtain ⟨X,eX⟩:=oQ.sub
   refine g_.app ?_ (.cons oQ.rp .nil)
   rw [eX];exact (aa HZS).mono
  have hj0:=tV oQ.ti hmk hup
  have e1:aj true ts=aj true (zs++[.set (r.foldl (gI true) s)]):=hop.rp.uniq hj0.rp
  have hjf:=fun hz=>wY oQ.ti hmk hup hz
  rw [<-e1] at hjf
  have VR:=hide (fun w2 w3 (hb2:Below w.heap.size w w2) (hb:Below w2.heap.size w2 w3)=>FP (S:=S) (C:=C) (s:=encS (r.foldl (gI true) s)) (aX.below (aX.below h hb2) hb) hsz (by have:=oQ.len;omega))
  have hql:=oQ.len
  have Ny:=hide (fun (w5:World) (t4:TB) (g5 cap5:Nat) (hT5:Hid (aX w5 t4 (fA T (encS (r.foldl (gI true) s))).1 (ak (fA T (encS (r.foldl (gI true) s))).1) S C)) (hO5:w5.ownsRow w.heap.size 3 1 (.slice (some ⟨g5,0,none⟩) ((L.filter fun m=>!aW T m)++[(fA T (encS (r.foldl (gI true) s))).2]).length cap5) ((L.filter fun m=>!aW T m)++[(fA T (encS (r.foldl (gI true) s))).2]).length (ints (ay ((L.filter fun m=>!aW T m)++[(fA T (encS (r.foldl (gI true) s))).2]))))=>
   wZ (k:=true) (cap:=cap5) hT5 oQ.ti.wf hup.lt (by rw [List.length_append];simp;omega) (fun hz=>by have:=hjf hz;omega) (dU hO5 (Nat.zero_le _)) (xg (aa hT5) hO5))
  clear hj0 e1 hop oQ hmk hup hjf hql hf2 hs3 hs0 hfs hsz
  rw [show ((aY true:Nat):Int)=2 from rfl,show ((dF true:Nat):Int)=0 from rfl,show kk true=5 from rfl] at Ny
  have Nz:Hid (Op B T (iF (fA T (encS (r.foldl (gI true) s))).1 true ((L.filter fun m=>!aW T m)++[(fA T (encS (r.foldl (gI true) s))).2])) (aj true ts) ((memT true (aj true ts)).length+1)):=l_
  have NA:Hid (∀ r0,l=[r0]->(iF (fA T (encS (r.foldl (gI true) s))).1 true ((L.filter fun m=>!aW T m)++[(fA T (encS (r.foldl (gI true) s))).2]))=(T,r0)):=Zp
  clear Zp
  clear l_
  generalize encS (r.foldl (gI true) s)=es at *
  generalize fA T es=Q at *
  generalize iF Q.1 true ((L.filter fun m=>!aW T m)++[Q.2])=R at *
  generalize hNS:L.filter (fun m=>!aW T m)=NS at *
  have hlen1:(NS++[Q.2]).length=NS.length+1:=by simp
  rw [hlen1] at Ny
  rw [show (s::r).length=r.length+1 from rfl] at HM NB
  go_enter Tryz.func77,Tryz.ntmps77
  go_wp2_with (first
   | (go_at_call 110;refine (aa HM).mono ?_;clear HM;rintro e w2 ⟨Tt,ao2,pq,cap2,rfl,xS,jh,HB2⟩;have hws:w.heap.size<=w2.heap.size:=(aa HB2).size;have HV1:Hid (∀ k,(Value.slice Tt NS.length pq).ownBlock=some k->¬ TF t k):=(fun k hk=>aX.dS h ((aa xS).lt k hk).1);obtain ⟨ao2',cap2',e1,hv2⟩:=aN (aa jh);injection e1 with e2 e3 e4;subst e2;subst e4;obtain ⟨g2,rfl,-⟩:=hv2 (by omega);have HFO:=hide (aa NB w2 g2 cap2 (aa jh));clear NB hv2)
   | (go_at_call 111;refine (aa HFO).mono ?_;clear HFO;rintro e w3 ⟨rfl,HB3⟩;have HST:=hide (aa VR w2 _ (aa HB2) (aa HB3));clear VR)
   | (go_at_call 82;refine (aa HST).mono ?_;clear HST;rintro e w4 ⟨rfl,t4,zh,VS⟩;have GQ:Hid (a_ t t4 w w4):=((a_.below (aa HB2)).trans (a_.below (aa HB3))).trans (aa VS);have z8:=hide (GL (own_below (aa xS) (aa HB3) (Nat.le_refl _)) (aa VS) (aa HV1));have hw4:w.heap.size<=w4.heap.size:=(aa GQ).size;have abS:Hid (Below w.heap.size w4 w4):=Below.refl _ _;have HO4':Hid (w4.ownsRow w.heap.size 3 1 (.slice Tt NS.length pq) NS.length (ints (ay NS))):=z8)
   | (at_builtin;refine jK Tryz.underlying31 gP rfl (by decide) (by decide) w.heap.size w4 w4 _ _ [.int .i64 (Q.2:Int)] _ (.tmp 16) (.tmp 21) rfl rfl rfl w4.heap.size rfl rfl HO4' abS hw4 hNl rfl (by intro u hu;simp at hu;rw [hu];rfl) ?_;intro g5 cap5 w5 oM kz FM;have qY:Hid (aX w5 t4 Q.1 (ak Q.1) S C):=GM (aa zh) (aa GQ) (aa TS) (aa kz) (aa FM);have HO5':Hid (w5.ownsRow w.heap.size 3 1 (.slice (some ⟨g5,0,none⟩) (NS.length+1) cap5) (NS.length+1) (ints (ay (NS++[Q.2])))):=(by show World.ownsRow _ _ _ _ _ _ _;rw [h_,show ints (ay NS++ay [Q.2])=ints (ay NS)++[.int .i64 (Q.2:Int)] from by simp [ints,ay]];exact oM);have HJ:=hide (aa Ny w5 t4 g5 cap5 qY (aa HO5'));rw [(aa GQ).tb] at HJ;have Mf:=hide (w_ (aa GQ) (aa kz));have abT:=((aa oM).lt g5 rfl).1)
   | (go_at_call 113;refine (aa HJ).mono ?_;clear HJ;rintro e w6 ⟨rfl,t6,XO,HX6⟩))
  go_ret
  exact ⟨R,aa Nz,aa NA,rfl,t6,XO,(aa Mf).past (aa HX6) abT⟩
end
end Go.Proofs.YtfolanohokflkaaGreatDoor
namespace Go.Proofs.YtfolanohokflkaaGreatDoor
open Go.RowKit
open Tm (eps)
section
variable {w W:World} {t:TB} {T:List Te} {N S C:List (Value×Value)} {k:Ky} {B:List Int} {G:List Gx} {V:List Value} {P:Tm->Prop}
theorem Wl {ok:Nat->Prop} {l:List Nat} {ts:List Tm} {g0 cap0:Nat} (h:Hid (Sz B w t T S C)) (hB:B.length<=480) (hr:g_ T l ts) (hne:l≠[]) (hln:l.length<=500000) (nR:∀ t∈ts,(memT false t).length<=200000) (Sb:(memT false (aj false ts)).length<=200000) (hlim:T.length+(memT false (aj false ts)).length+2<=fU)
  (hc:∀ j x,(ay l)[j]? = some x->w.cell? ⟨g0,j,none⟩=some (.int .i64 x)) (hg0:g0<w.heap.size) :
  Calls Tryz.prog 79 #[.pointer (some ⟨t.tb,0,none⟩),.slice (some ⟨g0,0,none⟩) l.length cap0] w (BO B G V ok ((memT false (aj false ts)).length+1) (aj false ts) w t T S):=
 (VO (hide (aa h).tab) (aa h).ti hB hr hne hln nR Sb hlim hc hg0).mono fun _ _ ⟨_,h1,_,h2⟩=>BO.of h h1 h2
theorem ab8 {ok:Nat->Prop} {l:List Nat} {ts:List Tm} {g0 cap0:Nat} (h:Hid (Sz B w t T S C)) (hB:B.length<=480) (hr:g_ T l ts) (hne:l≠[]) (hln:l.length<=500000) (nR:∀ t∈ts,(memT true t).length<=200000) (Sb:(memT true (aj true ts)).length<=200000) (hlim:T.length+(memT true (aj true ts)).length+2<=fU)
  (hc:∀ j x,(ay l)[j]? = some x->w.cell? ⟨g0,j,none⟩=some (.int .i64 x)) (hg0:g0<w.heap.size) :
  Calls Tryz.prog 77 #[.pointer (some ⟨t.tb,0,none⟩),.slice (some ⟨g0,0,none⟩) l.length cap0] w (BO B G V ok ((memT true (aj true ts)).length+1) (aj true ts) w t T S):=
 (Wj (hide (aa h).tab) (aa h).ti hB hr hne hln nR Sb hlim hc hg0).mono fun _ _ ⟨_,h1,_,h2⟩=>BO.of h h1 h2
theorem PH {ok:Nat->Prop} {i j:Nat} {x y:Tm} {g0:Nat} (h:Hid (Sz B w t T S C)) (hB:B.length<=480) (hi:Rp T i x) (hj:Rp T j y) (hx:(memT false x).length<=200000) (hy:(memT false y).length<=200000) (Sb:(memT false (aj false [x,y])).length<=200000) (hlim:T.length+(memT false (aj false [x,y])).length+2<=fU) (hg:w.heap.size=g0) :
  Calls Tryz.prog 79 #[.pointer (some ⟨t.tb,0,none⟩),.slice (some ⟨g0,0,none⟩) 2 2] (w.alloc (.cells #[.int .i64 (i:Int),.int .i64 (j:Int)] 3)) (BO B G V ok ((memT false (aj false [x,y])).length+1) (aj false [x,y]) (w.alloc (.cells #[.int .i64 (i:Int),.int .i64 (j:Int)] 3)) t T S):=by
 have hb:=heap_alloc_new w (.cells #[.int .i64 (i:Int),.int .i64 (j:Int)] 3)
 rw [hg] at hb
 refine Wl (l:=[i,j]) (Sz.alloc h _) hB (.cons hi (.cons hj .nil)) (by simp) (by simp) (fun t ht=>?_) Sb hlim (fun k n hk=>?_) (by rw [World.size_alloc,hg];exact Nat.lt_succ_self _)
 ·rcases List.mem_cons.1 ht with e | e
  ·rw [e];exact hx
  ·rw [List.mem_singleton] at e;rw [e];exact hy
 ·rw [cell_of_row _ _ k _ _ _ hb]
  match k,hk with
  | 0,hk=>cases hk;rfl
  | 1,hk=>cases hk;rfl
set_option maxRecDepth 100000 in
set_option maxHeartbeats 4000000 in
theorem Sj {n i j:Nat} {c:Int} {a u:Tm} {g:Nat} (hin:i<n) (hsc:aF c=true) (ha:Kt B G i a c) (h0:di a=false) (hg:dO (aK c a)<=g):GY B G n (.chain a u) c (bJ i j) 172 g:=by
 intro w t T S C V d b hr hx hsd hseg hV dI hlim
 obtain ⟨a',u',e,hi,hj⟩:=Fb hr hx
 cases e
 have hok:jW (.chain a u):=((aa dI).ti.cn hr).ok
 have hsa:Seg a c d:=fun b hb=>hseg b (.inl hb)
 rw [fM,h0,if_neg (by simp)]
 rw [show aK c a=aK d a from oz hsc hsd _ (Nat.le_refl _) hok.1 hsa] at hg
 obtain ⟨⟨ki,bi⟩,hxi⟩:=(aa dI).ti.at hi
 have hbi:bi=false:=((aa dI).ti.null hi hxi).trans h0
 subst hbi
 have uh:Hid (a_ t t w (w.alloc (.cells #[.int .i64 2,.string ⟨#[]⟩,.int .i64 (i:Int),.int .i64 (j:Int)] 135))):=a_.below ((Below.refl _ _).alloc (Nat.le_refl _) _)
 have GZ:=hide (fun q=>ha ((w.alloc (.cells #[.int .i64 2,.string ⟨#[]⟩,.int .i64 (i:Int),.int .i64 (j:Int)] 135)).drewN q) t T S C V d hi hsd hsa (fun v hv=>by obtain ⟨m,d',q1,q2⟩:=hV v hv;exact ⟨m,d',by omega,q2⟩) (Sz.drewN (Sz.alloc dI _) q) (by omega))
 have Nn:=hide (fun (w1:World) (t1:TB) (T1:List Te) (S1 C1:List (Value×Value)) (r:Nat) (h1:Hid (Sz B w1 t1 T1 S1 C1)) (hr1:Rp T1 r (aK d a)) (hs1:Rp T1 j u) (hp:T1.length+mD G T1 (S1.map (·.1)++V)<=T.length+mD G T (S.map (·.1)++V))=>CR (G:=G) (V:=V) (ok:=fun j=>j<n) h1 hr1 hs1 (by omega))
 have DC:=hide (heap_alloc_new w (.cells #[.int .i64 2,.string ⟨#[]⟩,.int .i64 (i:Int),.int .i64 (j:Int)] 135))
 have hnot:¬ TF t w.heap.size:=aX.dS (hide (aa dI).tab) (Nat.le_refl _)
 have qW:w.heap.size<(w.alloc (.cells #[.int .i64 2,.string ⟨#[]⟩,.int .i64 (i:Int),.int .i64 (j:Int)] 135)).heap.size:=by simp
 have hI0:(0:Int)<=(i:Int):=by omega
 have HRJ:=hide hj
 have HXI:=hide hxi
 unfold iD bJ
 dsimp only
 clear dI hx hr hseg hsa hsd hV hlim hi hj hxi ha hok
 go_enter Tryz.func172,Tryz.ntmps172
 go_wp2_with fail
 generalize w.alloc (.cells #[.int .i64 2,.string ⟨#[]⟩,.int .i64 (i:Int),.int .i64 (j:Int)] 135)=Wk at *
 obtain ⟨k0,k1,k2,k3⟩:=bI (aa DC)
 generalize hkb:w.heap.size=kb at *
 go_region_held3 (fun w'=>w'.cell? ⟨kb,2,none⟩=some (.int .i64 i)/\w'.cell? ⟨kb,3,none⟩=some (.int .i64 j)) (go_keep)
  (first
   | (go_at_call 101;refine (aa GZ 1).mono ?_;clear GZ;rintro x w1 ⟨r1,t1,T1,S1,C1,rfl,hr1,xK,nY⟩;have ru:Hid (a_ t t1 (Wk.drewN 1) w1):=(aa nY).fr;have D6:=hide (a_.own ru qW hnot (aa DC));obtain ⟨r0,r1',r2,r3⟩:=bI (aa D6);have MZ:=hide (aa Nn w1 t1 T1 S1 C1 r1 xK hr1 ((aa nY).rp (aa HRJ)) (by have h1:=(aa nY).pay;omega));rw [(aa ru).tb] at MZ;have Fe:¬ TF t1 kb:=(fun hf=>((aa ru).foot hf).elim hnot (fun hle=>absurd qW (by have:Wk.heap.size<=kb:=hle;omega)));have hlt1:kb<w1.heap.size:=Nat.lt_of_lt_of_le qW (aa ru).size)
   | (go_at_call 116;refine (aa MZ).mono ?_;clear MZ;rintro x w2 ⟨c2,t2,T2,S2,C2,rfl,hc2,xL,iy⟩;have uJ:Hid (a_ t1 t2 w1 w2):=(aa iy).fr;have Kz:=hide (a_.own uJ hlt1 Fe (aa D6));obtain ⟨s0,s1,s2,s3⟩:=bI (aa Kz)))
 have Wm:t2.tb=t.tb:=(aa uJ).tb.trans (aa ru).tb
 have hx2:=(aa iy).get ((aa nY).get (aa HXI))
 obtain ⟨gt,q2,-,-,-,-,a4⟩:=(aa xL).tab.at hx2
 rw [Wm] at q2
 dsimp only at a4
 have hI:(i:Int)<(T2.length:Int):=by have:=(List.getElem?_eq_some_iff.1 hx2).1;omega
 have HRX:=hide hc2
 have LW:=hide (((Nx.world (a_.drewN (aa uh) 1)).trans ((aa nY).ok fun j (hj:j<=i)=>(show j<n by omega))).trans (aa iy))
 clear hx2 DC D6 Kz k0 k1 k2 k3 r0 r1' r2 r3 ru uJ nY iy xK hr1 hc2 uh Nn HXI
 go_wp2_with fail
 go_quiet (fail)
 go_wp2_with fail
 go_ret
 have h1:BO B G V (fun j=>j<n) _ (ax (aK d a) u) w t T S (.returned (.int .i64 (c2:Int))) (w2.drewN nq):=⟨c2,t2,T2,S2,C2,rfl,aa HRX,Sz.drewN xL nq,(aa LW).trans (Nx.world (a_.drewN (a_.refl _ _) nq))⟩
 exact h1.less (by omega)
set_option maxRecDepth 100000 in
set_option maxHeartbeats 4000000 in
theorem Sk {n i j:Nat} {c:Int} {a u:Tm} {g:Nat} (hin:i<n) (hjn:j<n) (hB:B.length<=480) (hsc:aF c=true) (ha:Kt B G i a c) (hu:Kt B G j u c) (h0:di a=true) (hfx:(memT false (ax (aK c a) u)).length<=200000) (hfy:(memT false (aK c u)).length<=200000) (hfz:(memT false (aK c (.chain a u))).length<=200000) (hg:dO (aK c a)+(memT false (aK c (.chain a u))).length+2<=g):GY B G n (.chain a u) c (bJ i j) 172 g:=by
 intro w t T S C V d b hr hx hsd hseg hV dI hlim
 obtain ⟨a',u',e,hi,hj⟩:=Fb hr hx
 cases e
 have hok:jW (.chain a u):=((aa dI).ti.cn hr).ok
 have hsa:Seg a c d:=fun b hb=>hseg b (.inl hb)
 have hsu:Seg u c d:=fun b hb=>hseg b (.inr ⟨h0,hb⟩)
 rw [show aK c (.chain a u)=aj false [ax (aK c a) u,aK c u] from by rw [fM,h0,if_pos rfl]] at hfz hg
 rw [show aK d (.chain a u)=aj false [ax (aK d a) u,aK d u] from by rw [fM,h0,if_pos rfl]]
 rw [show aK c a=aK d a from oz hsc hsd _ (Nat.le_refl _) hok.1 hsa] at hg hfx hfz
 rw [show aK c u=aK d u from oz hsc hsd _ (Nat.le_refl _) hok.2 hsu] at hg hfy hfz
 obtain ⟨⟨ki,bi⟩,hxi⟩:=(aa dI).ti.at hi
 have hbi:bi=true:=((aa dI).ti.null hi hxi).trans h0
 subst hbi
 have uh:Hid (a_ t t w (w.alloc (.cells #[.int .i64 2,.string ⟨#[]⟩,.int .i64 (i:Int),.int .i64 (j:Int)] 135))):=a_.below ((Below.refl _ _).alloc (Nat.le_refl _) _)
 have GZ:=hide (fun q=>ha ((w.alloc (.cells #[.int .i64 2,.string ⟨#[]⟩,.int .i64 (i:Int),.int .i64 (j:Int)] 135)).drewN q) t T S C V d hi hsd hsa (fun v hv=>by obtain ⟨m,d',q1,q2⟩:=hV v hv;exact ⟨m,d',by omega,q2⟩) (Sz.drewN (Sz.alloc dI _) q) (by omega))
 have HBU:=hide (fun (w2:World) (t2:TB) (T2:List Te) (S2 C2:List (Value×Value)) (h2:Hid (Sz B w2 t2 T2 S2 C2)) (hs2:Rp T2 j u) (hp:T2.length+mD G T2 (S2.map (·.1)++V)<=T.length+mD G T (S.map (·.1)++V)+dO (aK d a))=>hu w2 t2 T2 S2 C2 V d hs2 hsd hsu (fun v hv=>by obtain ⟨m,d',q1,q2⟩:=hV v hv;exact ⟨m,d',by omega,q2⟩) h2 (by omega))
 have Nn:=hide (fun (w1:World) (t1:TB) (T1:List Te) (S1 C1:List (Value×Value)) (r:Nat) (h1:Hid (Sz B w1 t1 T1 S1 C1)) (hr1:Rp T1 r (aK d a)) (hs1:Rp T1 j u) (hp:T1.length+mD G T1 (S1.map (·.1)++V)<=T.length+mD G T (S.map (·.1)++V))=>CR (G:=G) (V:=V) (ok:=fun j=>j<n) h1 hr1 hs1 (by omega))
 have HAN:=hide (fun (w3:World) (t3:TB) (T3:List Te) (S3 C3:List (Value×Value)) (c2 r3:Nat) (h3:Hid (Sz B w3 t3 T3 S3 C3)) (hc2:Rp T3 c2 (ax (aK d a) u)) (hr3:Rp T3 r3 (aK d u)) (hp:T3.length+mD G T3 (S3.map (·.1)++V)<=T.length+mD G T (S.map (·.1)++V)+dO (aK d a))=>PH (G:=G) (V:=V) (ok:=fun j=>j<n) (g0:=w3.heap.size) h3 hB hc2 hr3 hfx hfy hfz (by omega) rfl)
 have DC:=hide (heap_alloc_new w (.cells #[.int .i64 2,.string ⟨#[]⟩,.int .i64 (i:Int),.int .i64 (j:Int)] 135))
 have hnot:¬ TF t w.heap.size:=aX.dS (hide (aa dI).tab) (Nat.le_refl _)
 have qW:w.heap.size<(w.alloc (.cells #[.int .i64 2,.string ⟨#[]⟩,.int .i64 (i:Int),.int .i64 (j:Int)] 135)).heap.size:=by simp
 have hI0:(0:Int)<=(i:Int):=by omega
 have HRJ:=hide hj
 have HXI:=hide hxi
 have HGG:=hide hg
 unfold iD bJ
 dsimp only
 clear dI hx hr hseg hsa hsu hsd hV hlim hi hj hxi ha hu hok hfx hfy hfz hg
 go_enter Tryz.func172,Tryz.ntmps172
 go_wp2_with fail
 generalize w.alloc (.cells #[.int .i64 2,.string ⟨#[]⟩,.int .i64 (i:Int),.int .i64 (j:Int)] 135)=Wk at *
 obtain ⟨k0,k1,k2,k3⟩:=bI (aa DC)
 generalize hkb:w.heap.size=kb at *
 go_region_held3 (fun w'=>w'.cell? ⟨kb,2,none⟩=some (.int .i64 i)/\w'.cell? ⟨kb,3,none⟩=some (.int .i64 j)) (go_keep)
  (first
   | (go_at_call 101;refine (aa GZ 1).mono ?_;clear GZ;rintro x w1 ⟨r1,t1,T1,S1,C1,rfl,hr1,xK,nY⟩;have ru:Hid (a_ t t1 (Wk.drewN 1) w1):=(aa nY).fr;have D6:=hide (a_.own ru qW hnot (aa DC));obtain ⟨r0,r1',r2,r3⟩:=bI (aa D6);have MZ:=hide (aa Nn w1 t1 T1 S1 C1 r1 xK hr1 ((aa nY).rp (aa HRJ)) (by have h1:=(aa nY).pay;omega));rw [(aa ru).tb] at MZ;have Fe:¬ TF t1 kb:=(fun hf=>((aa ru).foot hf).elim hnot (fun hle=>absurd qW (by have:Wk.heap.size<=kb:=hle;omega)));have hlt1:kb<w1.heap.size:=Nat.lt_of_lt_of_le qW (aa ru).size)
   | (go_at_call 116;refine (aa MZ).mono ?_;clear MZ;rintro x w2 ⟨c2,t2,T2,S2,C2,rfl,hc2,xL,iy⟩;have uJ:Hid (a_ t1 t2 w1 w2):=(aa iy).fr;have Kz:=hide (a_.own uJ hlt1 Fe (aa D6));obtain ⟨s0,s1,s2,s3⟩:=bI (aa Kz)))
 have Wm:t2.tb=t.tb:=(aa uJ).tb.trans (aa ru).tb
 have hx2:=(aa iy).get ((aa nY).get (aa HXI))
 obtain ⟨gt,q2,-,-,-,-,a4⟩:=(aa xL).tab.at hx2
 rw [Wm] at q2
 dsimp only at a4
 have hI:(i:Int)<(T2.length:Int):=by have:=(List.getElem?_eq_some_iff.1 hx2).1;omega
 have HRX:=hide hc2
 have aeA:=hide ((aa iy).rp ((aa nY).rp (aa HRJ)))
 have LW:=hide (((Nx.world (a_.drewN (aa uh) 1)).trans ((aa nY).ok fun j (hj:j<=i)=>(show j<n by omega))).trans (aa iy))
 have ab9:=hide (fun q=>aa HBU (w2.drewN q) t2 T2 S2 C2 (Sz.drewN xL q) (aa aeA) (by have:=(aa LW).pay;omega))
 rw [Wm] at ab9
 clear hx2 DC D6 Kz k0 k1 k2 k3 r0 r1' r2 r3 ru uJ nY iy xK hr1 hc2 uh Nn HXI HBU s0 s1
 go_wp2_with fail
 go_quiet (fail)
 go_wp2_with (first
  | (go_at_call 101;refine (aa ab9 _).mono ?_;clear ab9;rintro x w3 ⟨r3,t3,T3,S3,C3,rfl,hr3,yD,lI⟩;have Wn:=hide ((aa LW).trans ((Nx.world (a_.drewN (a_.refl _ _) nq)).trans ((aa lI).ok fun i (hj:i<=j)=>(show i<n by omega))));have HA4:=hide (aa HAN w3 t3 T3 S3 C3 c2 r3 yD ((aa lI).rp (aa HRX)) hr3 (by have:=(aa Wn).pay;omega));rw [(aa lI).fr.tb,Wm] at HA4;clear HAN)
  | (go_at_call 79;refine (aa HA4).mono ?_;clear HA4;rintro x w5 HH;have CS:=hide HH;obtain ⟨r5,t5,T5,S5,C5,rfl,-⟩:=HH))
 go_ret
 have h1:=BO.then ((aa Wn).trans (Nx.world (a_.below ((Below.refl _ _).alloc (Nat.le_refl _) _)))) (aa CS)
 exact h1.less (by have:=aa HGG;omega)
end
section
variable {w W:World} {t:TB} {T:List Te} {N S C:List (Value×Value)} {k:Ky} {B:List Int} {G:List Gx} {V:List Value} {P:Tm->Prop}
theorem NJ {w w4 w5:World} {t t4:TB} (h:Sz B w4 t4 T S C) (hf:a_ t t4 w w4) (hlt:∀ k,TF t k->k<w.heap.size) (hb:Below w.heap.size w4 w5) (hk:∀ B' e' s' u m ys,e'≠3->w4.ownsRow B' e' s' u m ys->w5.ownsRow B' e' s' u m ys):Sz B w5 t4 T S C:=by
 refine ⟨GM h.tab hf hlt hb hk,h.ti,⟨h.cv.1,fun p hp=>?_⟩,h.sv⟩
 obtain ⟨n,g,cap,l,y,e,h1,h2,h2',h3⟩:=h.cv.2 p hp
 exact ⟨n,g,cap,l,y,e,h1,h2,h2',hk _ _ _ _ _ _ (by decide) h3.own,h3.apart⟩
theorem Ak {w w':World} {t t':TB} {base n:Nat} {v:Value} {xs:List Value} (ht:aX w t T N S C) (h:w.ownsRow base 3 1 v n xs) (hf:a_ t t' w w'):w'.ownsRow base 3 1 v n xs:=by
 refine GL h hf fun k hk=>?_
 obtain ⟨ao,cap,rfl,-⟩:=aN h
 have h':=h
 obtain ⟨_,⟨hv,_⟩ | ⟨g,cap',cur,hv,_⟩⟩:=h
 ·rw [hv] at hk;cases hk
 ·rw [hv] at h' hk
  injection hv with e1 e2 e3
  have:g=k:=by simpa [Value.ownBlock] using hk
  subst this
  exact xg ht h'
theorem g_.get {l:List Nat} {ts:List Tm} (h:g_ T l ts):∀ {k n:Nat},l[k]? = some n->∃ y,ts[k]? = some y/\Rp T n y:=by
 induction h with
 | nil=>intro k n e;simp at e
 | @cons m y l ts h1 _ ih=>intro k n e;cases k with
  | zero=>simp at e;subst e;exact ⟨y,rfl,h1⟩
  | succ k=>simp at e;obtain ⟨z,h2,h3⟩:=ih e;exact ⟨z,by simpa using h2,h3⟩
set_option maxRecDepth 100000 in
set_option maxHeartbeats 4000000 in
theorem D7 {n:Nat} {c d:Int} {ns:List Nat} {ys:List Tm} {g0 cap0:Nat} (h:Hid (Sz B w t T S C)) (hsd:aF d=true) (hr:g_ T ns ys) (hl:ns.length<=1000000) (ha:∀ m∈ns,m<n/\∀ y,Rp T m y->Seg y c d/\Kt B G m y c) (hV:∀ v∈V,∃ (m:Nat) (d':Int),n<=m/\v=j_ m d') (hlim:T.length+mD G T (S.map (·.1)++V)<=fU)
  (hcl:∀ j m,ns[j]? = some m->w.cell? ⟨g0,j,none⟩=some (.int .i64 ((m:Nat):Int))) (hg0:g0<w.heap.size) (hg0':¬ TF t g0) :
  Calls Tryz.prog 180 #[.pointer (some ⟨t.tb,0,none⟩),.slice (some ⟨g0,0,none⟩) ns.length cap0,.int .i32 d] w fun e w'=>∃ (ao:Option Addr) (cap:Nat) (rs:List Nat) (t':TB) (T':List Te) (S' C':List (Value×Value)),e=.returned (.slice ao ns.length cap)/\g_ T' rs (ys.map (aK d))/\rs.length=ns.length/\Hid (w'.ownsRow w.heap.size 3 1 (.slice ao ns.length cap) ns.length (ints (ay rs)))/\Hid (Sz B w' t' T' S' C')/\Hid (Nx G V (fun i=>i<n) 0 w t T S w' t' T' S'):=by
 have zF:=hide hcl
 have HRL:=hide hr
 have HA:=hide ha
 have HV:=hide hV
 have TS:Hid (∀ k,TF t k->k<w.heap.size):=fun k hk=>(aa h).tab.foot hk
 clear hcl hr ha hV
 go_enter Tryz.func180,Tryz.ntmps180
 go_wp2_with fail
 go_loopw [7,12] (fun v i wr=>∃ (k':Nat) (ao:Option Addr) (cap:Nat) (rs:List Nat) (t1:TB) (T1:List Te) (S1 C1:List (Value×Value)),k'<=ns.length/\i=.int .i64 (k':Int)/\v=.slice ao k' cap/\Hid (rs.length=k')/\Hid (wr.ownsRow w.heap.size 3 1 (.slice ao k' cap) k' (ints (ay rs)))/\Hid (g_ T1 rs ((ys.take k').map (aK d)))/\Hid (Sz B wr t1 T1 S1 C1)/\Hid (Nx G V (fun i=>i<n) 0 w t T S wr t1 T1 S1)) (fun _ i _=>ns.length - (intOf i).toNat)
 case atStart=>exact ⟨0,none,0,[],t,T,S,C,Nat.zero_le _,rfl,rfl,rfl,World.ownsRow_nil _ _ _ _,.nil,h,Nx.world (a_.refl _ _)⟩
 case round=>
  obtain ⟨k',ao,cap,rs,t1,T1,S1,C1,hk',rfl,rfl,HM,HO,HRS,HY,HN⟩:=hrel
  by_cases hlt:k'<ns.length
  ·have cx:wr.cell? ⟨g0,k',none⟩=some (.int .i64 ((ns[k']:Nat):Int)):=by
    rw [World.cell?_of_block (a:=⟨g0,k',none⟩) ((aa HN).fr.block g0 hg0 hg0')]
    exact aa zF k' _ (by simp [hlt])
   obtain ⟨y,hy1,hy2⟩:=(aa HRL).get (List.getElem?_eq_getElem hlt)
   obtain ⟨hmn,hm2⟩:=aa HA ns[k'] (List.getElem_mem _)
   obtain ⟨hsg,adE⟩:=hm2 y hy2
   have GZ:=hide (adE wr t1 T1 S1 C1 V d ((aa HN).rp hy2) hsd hsg (fun v hv=>by obtain ⟨m,d',q1,q2⟩:=aa HV v hv;exact ⟨m,d',by omega,q2⟩) HY (by have:=(aa HN).pay;omega))
   rw [(aa HN).fr.tb] at GZ
   have xK:=hide hy1
   have LY:(k':Int)<(ns.length:Int):=by omega
   have hws:w.heap.size<=wr.heap.size:=(aa HN).fr.size
   clear hy1 hy2 hm2 hsg adE
   generalize ns[k']=m at *
   go_wp2_with (first
    | (go_at_call 101;refine (aa GZ).mono ?_;clear GZ;rintro e w2 ⟨r2,t2,T2,S2,C2,rfl,hr2,xL,iy⟩;have jh:=hide (Ak (aa HY).tab (aa HO) (aa iy).fr);have lI:=hide ((aa HN).trans ((aa iy).ok fun i (hj:i<=m)=>(show i<n by omega)));have hw2:w.heap.size<=w2.heap.size:=(aa lI).fr.size;have Wo:Hid (Below w.heap.size w2 w2):=Below.refl _ _;have HR2:=hide hr2;clear hr2)
    | (at_builtin;refine jK Tryz.underlying31 gP rfl (by decide) (by decide) w.heap.size w2 w2 _ _ [.int .i64 (r2:Int)] _ (.tmp 16) (.tmp 21) rfl rfl rfl w2.heap.size rfl rfl jh Wo hw2 (by omega) rfl (by intro u hu;simp at hu;rw [hu];rfl) ?_;intro g5 cap5 w5 oM kz FM;have HY5:Hid (Sz B w5 t2 T2 S2 C2):=NJ (aa xL) (aa lI).fr (aa TS) (aa kz) (aa FM)))
   go_roundw
   case rel=>
    refine ⟨k'+1,some ⟨g5,0,none⟩,cap5,rs++[r2],t2,T2,S2,C2,by omega,by go_num,rfl,by show _=_;rw [List.length_append,aa HM];rfl,?_,?_,HY5,?_⟩
    ·show World.ownsRow _ _ _ _ _ _ _
     rw [h_,show ints (ay rs++ay [r2])=ints (ay rs)++[.int .i64 (r2:Int)] from by simp [ints,ay]]
     exact oM
    ·have e1:ys.take (k'+1)=ys.take k'++[y]:=by
      have hy:=aa xK
      obtain ⟨hk1,hk2⟩:=List.getElem?_eq_some_iff.1 hy
      rw [List.take_succ_eq_append_getElem hk1,hk2]
     show g_ _ _ _
     rw [e1,List.map_append]
     refine g_.app ?_ (.cons (aa HR2) .nil)
     obtain ⟨X,eX⟩:=(aa iy).sub
     rw [eX]
     exact (aa HRS).mono
    ·have h3:=aa lI
     exact ⟨h3.sub,h3.zJ,h3.new,w_ h3.fr (aa kz),by have:=h3.pay;omega⟩
   case measure=>simp [intOf];omega
  ·obtain rfl:k'=ns.length:=by omega
   go_wp2_with fail
   go_ret
   refine ⟨ao,cap,rs,t1,T1,S1,C1,rfl,?_,aa HM,HO,HY,HN⟩
   have h1:=aa HRS
   rwa [<-(aa HRL).len,List.take_length] at h1
def kF2 (k:Bool):Nat:=if k=true then 184 else 179
def kG (k:Bool):Nat:=if k=true then 77 else 79
theorem Wp (k:Bool) {ok:Nat->Prop} {l:List Nat} {ts:List Tm} {g0 cap0:Nat} (h:Hid (Sz B w t T S C)) (hB:B.length<=480) (hr:g_ T l ts) (hne:l≠[]) (hln:l.length<=500000) (nR:∀ t∈ts,(memT k t).length<=200000) (Sb:(memT k (aj k ts)).length<=200000) (hlim:T.length+(memT k (aj k ts)).length+2<=fU)
  (hc:∀ j x,(ay l)[j]? = some x->w.cell? ⟨g0,j,none⟩=some (.int .i64 x)) (hg0:g0<w.heap.size) :
  Calls Tryz.prog (kG k) #[.pointer (some ⟨t.tb,0,none⟩),.slice (some ⟨g0,0,none⟩) l.length cap0] w (BO B G V ok ((memT k (aj k ts)).length+1) (aj k ts) w t T S):=by
 cases k
 ·exact Wl h hB hr hne hln nR Sb hlim hc hg0
 ·exact ab8 h hB hr hne hln nR Sb hlim hc hg0
theorem Sl {d:Int} {k:Bool} {n:Nat} {z:Tm} {l:List Nat} {ys:List Tm} (hT:TI B T) (hr:Rp T n z) (sp:ky T k n l) (hl:g_ T l ys):aj k (ys.map (aK d))=aK d z:=by
 have hcn:=hT.cn hr
 have hm:∀ x,x∈ys↔x∈memT k z:=fun x=>by rw [hT.mem hr sp x];exact hl.mem
 rw [rX (k:=k) hcn]
 refine fu (fun x hx=>?_) fun x=>?_
 ·obtain ⟨y,hy,rfl⟩:=List.mem_map.1 hx
  exact (fO d (hl.cn hT.toTJ y hy)).1
 ·simp only [List.mem_map,hm]
set_option maxRecDepth 100000 in
set_option maxHeartbeats 4000000 in
theorem ab_ {k:Bool} {n i j:Nat} {c:Int} {z:Tm} {g:Nat} (hB:B.length<=480) (hsc:aF c=true) (ha:∀ m x,m<n->x∈memT k z->Kt B G m x c) (hf1:(memT k z).length<=200000) (hf2:∀ x∈memT k z,(memT k (aK c x)).length<=200000) (hf3:(memT k (aK c z)).length<=200000) (hg:(memT k (aK c z)).length+2<=g):GY B G n z c (bW k i j) (kF2 k) g:=by
 intro w t T S C V d b hr hx hsd hseg hV dI hlim
 have hT:=(aa dI).ti
 obtain ⟨h1,h2⟩:=ve hT.wf hx
 obtain ⟨u,hu,-⟩:=hT.all j (by have:=hr.lt;omega)
 obtain ⟨l,hl⟩:=ky.rp (k:=k) hu
 have sp:ky T k n (i::l):=.more hx hl
 have nR:=Ah hT hr sp
 have hlen:(i::l).length=l.length+1:=rfl
 have hmem:=fun x=>hT.mem hr sp x
 have hok:jW z:=(hT.cn hr).ok
 have hlt:∀ m∈i::l,m<n:=fun m hm=>by
  rcases List.mem_cons.1 hm with q | q
  ·omega
  ·have:=hl.le hT.wf m q;omega
 obtain ⟨ys,hys⟩:=g_.of (T:=T) (l:=i::l) fun m hm=>by
  obtain ⟨x,hx1,-⟩:=hT.all m (by have:=hlt m hm;have:=hr.lt;omega)
  exact ⟨x,hx1⟩
 have Ws:∀ x∈memT k z,Seg x c d:=fun x hx b hb=>hseg b ((GG (k:=k) z).2 ⟨x,hx,hb⟩)
 have hym:∀ x∈ys,x∈memT k z:=fun x hx=>(hmem x).2 (hys.mem.1 hx)
 have adF:∀ x∈ys,jW x:=fun x hx=>(hys.cn hT.toTJ x hx).ok
 have hdp:=Sl (d:=d) hT hr sp hys
 rw [show aK c z=aK d z from oz hsc hsd _ (Nat.le_refl _) hok hseg] at hf3 hg
 rw [<-hdp] at hf3 hg ⊢
 have HGG:=hide hg
 have hfm:∀ x∈ys.map (aK d),(memT k x).length<=200000:=fun x hx=>by
  obtain ⟨y,hy,rfl⟩:=List.mem_map.1 hx
  rw [<-oz hsc hsd _ (Nat.le_refl _) (adF y hy) (Ws y (hym y hy))]
  exact hf2 y (hym y hy)
 have HP:=hide (E_ (i:=i) (aX.alloc (hide (aa dI).tab) (.cells #[.int .i64 (kk k),.string ⟨#[]⟩,.int .i64 (i:Int),.int .i64 (j:Int)] 135)) hT.wf hl (by omega))
 have uh:Hid (a_ t t w (w.alloc (.cells #[.int .i64 (kk k),.string ⟨#[]⟩,.int .i64 (i:Int),.int .i64 (j:Int)] 135))):=a_.below ((Below.refl _ _).alloc (Nat.le_refl _) _)
 have HSA:=Sz.alloc dI (.cells #[.int .i64 (kk k),.string ⟨#[]⟩,.int .i64 (i:Int),.int .i64 (j:Int)] 135)
 have HBA:=hide (fun (w2:World) (g2 cap2:Nat) (hb:Below (w.alloc (.cells #[.int .i64 (kk k),.string ⟨#[]⟩,.int .i64 (i:Int),.int .i64 (j:Int)] 135)).heap.size (w.alloc (.cells #[.int .i64 (kk k),.string ⟨#[]⟩,.int .i64 (i:Int),.int .i64 (j:Int)] 135)) w2) (ho:w2.ownsRow (w.alloc (.cells #[.int .i64 (kk k),.string ⟨#[]⟩,.int .i64 (i:Int),.int .i64 (j:Int)] 135)).heap.size 3 1 (.slice (some ⟨g2,0,none⟩) (l.length+1) cap2) (l.length+1) (ints (ay (i::l))))=>
  D7 (n:=n) (c:=c) (d:=d) (ns:=i::l) (ys:=ys) (V:=V) (g0:=g2) (cap0:=cap2) (Sz.below HSA hb) hsd hys (by omega) (fun m hm=>⟨hlt m hm,fun y hy=>⟨Ws y ((hmem y).2 ⟨m,hm,hy⟩),ha m y (hlt m hm) ((hmem y).2 ⟨m,hm,hy⟩)⟩⟩) hV (by omega) (fun k n hk=>by
   have hkl:k<l.length+1:=(List.getElem?_eq_some_iff.1 hk).1
   rw [ho.cellAt k (by omega)]
   unfold ints ay
   rw [List.getElem?_map,List.getElem?_map,hk];rfl) (ho.lt g2 rfl).2 (aX.dS (hide (aa HSA).tab) (ho.lt g2 rfl).1))
 rw [hlen] at HBA
 have KA:=hide (fun (w3:World) (t3:TB) (T3:List Te) (S3 C3:List (Value×Value)) (rs:List Nat) (g3 gp:Nat) (h3:Hid (Sz B w3 t3 T3 S3 C3)) (hrs:g_ T3 rs (ys.map (aK d))) (hrl:rs.length=l.length+1) (ho:w3.ownsRow (w.alloc (.cells #[.int .i64 (kk k),.string ⟨#[]⟩,.int .i64 (i:Int),.int .i64 (j:Int)] 135)).heap.size 3 1 (.slice (some ⟨g3,0,none⟩) (l.length+1) gp) (l.length+1) (ints (ay rs))) (hp:T3.length+mD G T3 (S3.map (·.1)++V)<=T.length+mD G T (S.map (·.1)++V)+0)=>Wp (G:=G) (V:=V) (ok:=fun j=>j<n) (cap0:=gp) k h3 hB hrs (by intro e;rw [e] at hrl;cases hrl) (by omega) hfm hf3 (by omega) (fun j x hj=>by
   have hjl:j<rs.length:=by
    have:=(List.getElem?_eq_some_iff.1 hj).1
    rwa [aO] at this
   rw [ho.cellAt j (by omega)]
   unfold ints
   rw [List.getElem?_map,hj];rfl) (ho.lt g3 rfl).2)
 unfold iD bW at HP
 unfold iD bW kF2
 dsimp only at HP ⊢
 clear dI hT hx hr hseg hsd hV hlim h1 h2 hu hl sp nR hmem hok hlt hys Ws hym adF hf3 hf2 hf1 hg hfm HSA ha hdp hB
 cases k with
 | false=>
  rw [if_neg (by simp)]
  rw [show kk false=4 from rfl] at uh HP HBA KA ⊢
  rw [show kG false=79 from rfl] at KA
  go_enter Tryz.func179,Tryz.ntmps179
  go_wp2_with (first
   | (go_at_call 181;refine (aa HP).mono ?_;clear HP;rintro x w2 ⟨g2,cap2,rfl,jh,HB2⟩;have PI:=hide (aa HBA w2 g2 cap2 (aa HB2) (aa jh));clear HBA)
   | (go_at_call 180;refine (aa PI).mono ?_;clear PI;rintro x w3 ⟨ao3,gp,rs,t3,T3,S3,C3,rfl,hrs,hrl,qg,yD,lI⟩;obtain ⟨ao',cap',e',hv⟩:=aN (aa qg);injection e' with e1 e2 e3;subst e1;subst e3;obtain ⟨g3,rfl,-⟩:=hv (by omega);have l_:=hide (aa KA w3 t3 T3 S3 C3 rs g3 gp yD hrs hrl (dU (aa qg) (aa HB2).size) (aa lI).pay);rw [(aa lI).fr.tb,hrl] at l_;clear KA hv)
   | (go_at_call 79;refine (aa l_).mono ?_;clear l_;rintro x w4 HH;have CS:=hide HH;obtain ⟨r4,t4,T4,S4,C4,rfl,-⟩:=HH))
  go_ret
  have h1:=BO.then ((Nx.world ((aa uh).trans (a_.below (aa HB2)))).trans (aa lI)) (aa CS)
  exact h1.less (by have:=aa HGG;omega)
 | true=>
  rw [if_pos rfl]
  rw [show kk true=5 from rfl] at uh HP HBA KA ⊢
  rw [show kG true=77 from rfl] at KA
  go_enter Tryz.func184,Tryz.ntmps184
  go_wp2_with (first
   | (go_at_call 181;refine (aa HP).mono ?_;clear HP;rintro x w2 ⟨g2,cap2,rfl,jh,HB2⟩;have PI:=hide (aa HBA w2 g2 cap2 (aa HB2) (aa jh));clear HBA)
   | (go_at_call 180;refine (aa PI).mono ?_;clear PI;rintro x w3 ⟨ao3,gp,rs,t3,T3,S3,C3,rfl,hrs,hrl,qg,yD,lI⟩;obtain ⟨ao',cap',e',hv⟩:=aN (aa qg);injection e' with e1 e2 e3;subst e1;subst e3;obtain ⟨g3,rfl,-⟩:=hv (by omega);have l_:=hide (aa KA w3 t3 T3 S3 C3 rs g3 gp yD hrs hrl (dU (aa qg) (aa HB2).size) (aa lI).pay);rw [(aa lI).fr.tb,hrl] at l_;clear KA hv)
   | (go_at_call 77;refine (aa l_).mono ?_;clear l_;rintro x w4 HH;have CS:=hide HH;obtain ⟨r4,t4,T4,S4,C4,rfl,-⟩:=HH))
  go_ret
  have h1:=BO.then ((Nx.world ((aa uh).trans (a_.below (aa HB2)))).trans (aa lI)) (aa CS)
  exact h1.less (by have:=aa HGG;omega)
end
section
variable {B:List Int} {G:List Gx} {Vd:Tm->Int->Prop}
theorem Sm (k:Bool) (args:Array Value) (w:World):(callFunc (kF2 k) args).run Tryz.prog w=.ok (.enter (kF2 k) args) w:=by
 cases k
 ·exact aL Tryz.func179 (by kernel_rfl) (by kernel_rfl) args w
 ·exact aL Tryz.func184 (by kernel_rfl) (by kernel_rfl) args w
theorem CU (hB:B.length<=480) (hS:Kn G Vd) {c:Int}:∀ n y,Vd y c->Kt B G n y c:=by
 intro n
 induction n using Nat.strongRecOn with
 | _ n ih=>
  intro y hv w t T S C V d hr hsd hseg hV h hlim
  have hT:=(aa h).ti
  have hsc:=hS.sym hv
  have hP:=hS.fw c
  have KD:=hS.cost hv
  have hr0:=hr
  cases hr with
  | set hx ht=>
   exact je hB hP hv hr0 hx hsd hseg hV h hlim (gg:=0) (.inl rfl) (m:=0) rfl (by decide) rfl (aL Tryz.func164 (by kernel_rfl) (by kernel_rfl)) (hide (ab6 hB ht (hT.sin n _ hr0)))
  | eps hx=>
   exact je hB hP hv hr0 hx hsd hseg hV h hlim (gg:=0) (.inl rfl) (m:=1) rfl (by decide) rfl (aL Tryz.func169 (by kernel_rfl) (by kernel_rfl)) (hide Wh)
  | @chain _ i j a u b hx ha hu=>
   obtain ⟨h1,h2⟩:=r_ hT.wf hx
   have hc:∃ k,((Tm.chain a u,c),k)∈G/\nM c (.chain a u)<=k:=by
    rcases KD with q | q
    ·cases q
    ·exact q
   have hbf:GY B G n (.chain a u) c (bJ i j) 172 (nM c (.chain a u)):=by
    cases h0:di a with
    | false=>exact Sj h1 hsc (ih i h1 a (hS.head hv)) h0 (by simp only [nM];omega)
    | true=>exact Sk h1 h2 hB hsc (ih i h1 a (hS.head hv)) (ih j h2 u (hS.next hv h0)) h0 (hS.adB hv) (hS.few false (hS.next hv h0)).2 (hS.few false hv).2 (Nat.le_refl _)
   exact je hB hP hv hr0 hx hsd hseg hV h hlim (.inr hc) (m:=2) rfl (by decide) rfl (aL Tryz.func172 (by kernel_rfl) (by kernel_rfl)) (hide hbf)
  | @star _ i a b hx ha=>
   have hc:∃ k,((Tm.star a,c),k)∈G/\nM c (.star a)<=k:=by
    rcases KD with q | q
    ·cases q
    ·exact q
   exact je hB hP hv hr0 hx hsd hseg hV h hlim (.inr hc) (m:=3) rfl (by decide) rfl (aL Tryz.func176 (by kernel_rfl) (by kernel_rfl)) (hide (ZA (wX hT.wf hx) hsc (ih i (wX hT.wf hx) a (hS.star hv))))
  | @not _ i a b hx ha=>
   have hc:Kw a=0\/∃ k,((Tm.not a,c),k)∈G/\Kw a<=k:=by
    rcases KD with q | ⟨k,q1,q2⟩
    ·have:a=aG:=by
      unfold bY at q
      split at q<;>first | rfl | (rename_i e;cases e;rfl) | cases q
      all_goals simp_all
     exact .inl (by unfold Kw;rw [if_pos this])
    ·refine .inr ⟨k,q1,Nat.le_trans ?_ q2⟩
     unfold Kw
     simp only [nM]
     split<;>omega
   exact je hB hP hv hr0 hx hsd hseg hV h hlim hc (m:=6) rfl (by decide) rfl (aL Tryz.func187 (by kernel_rfl) (by kernel_rfl)) (hide (ab7 (Cm hT.wf hx) (ih i (Cm hT.wf hx) a (hS.neg hv))))
  | @aZ _ i j k s u b hx hs hu=>
   obtain ⟨⟨a,e,eq⟩,-⟩:=(hT.XV hr0).yes k i j b hx
   rw [eq] at hv hr0 hseg KD ⊢
   have hc:∃ q,((Tm.aZ k a e,c),q)∈G/\nM c (.aZ k a e)<=q:=by
    rcases KD with q | q
    ·cases q
    ·exact q
   exact je hB hP hv hr0 hx hsd hseg hV h hlim (.inr hc) (m:=if k=true then 5 else 4) (f:=kF2 k) (by cases k<;>rfl) (by cases k<;>decide) (by cases k<;>rfl) (Sm k) (hide (ab_ hB hsc (fun m x hm hx=>ih m hm x (hS.mem hv hx)) (hS.few k hv).1 (fun x hx=>(hS.few k (hS.mem hv hx)).2) (hS.few k hv).2 (Nat.le_refl _)))
end
end Go.Proofs.YtfolanohokflkaaGreatDoor
