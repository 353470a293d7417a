import Derived.Test.YtfolanohokflkaaGreatDoorBecA
import Derived.Test.YtfolanohokflkaaGreatDoorBecB
import Derived.WalkKit
import Derived.WalkSpells
import Derived.WalkLawsBesides
import Derived.WalkMore
import Derived.Deep.QuietTactic
import Derived.BigQuiet
import Derived.BigRegion
import Derived.Deep.RegionHeld3
import Derived.Test.YtfolanohokflkaaGreatDoorKlD
namespace Go.Proofs.YtfolanohokflkaaGreatDoor
open Go.RowKit
open Tm (eps)
theorem Seg.uniq {y:Tm} {c d d':Int} (h:Seg y c d) (hd:rU y d) (h':Seg y c d') (hd':rU y d'):d=d':=by
 have h1:=(h d hd).2 (Int.le_refl _)
 have h2:=(h' d' hd').2 (Int.le_refl _)
 have h3:=(h d' hd').1 h2
 have h4:=(h' d hd).1 h1
 omega
def yn (T:List Te) (K:List Value) (y:Tm) (c:Int):Prop:=∃ (n:Nat) (d:Int),Rp T n y/\rU y d/\Seg y c d/\j4 n d∈K
theorem yn.mono {T X:List Te} {K K':List Value} {y:Tm} {c:Int} (h:yn T K y c) (hk:∀ v∈K,v∈K'):yn (T++X) K' y c:=by
 obtain ⟨n,d,h1,h2,h3,h4⟩:=h
 exact ⟨n,d,h1.mono,h2,h3,hk _ h4⟩
open Classical in
noncomputable def mQ (G:List Gx) (T:List Te) (K:List Value):Nat:=bA (G.map fun g=>if yn T K g.1.1 g.1.2 then 0 else g.2)
theorem Vs {G:List Gx} {T T':List Te} {K K':List Value} (h:∀ y c,yn T K y c->yn T' K' y c):mQ G T' K'<=mQ G T K:=by
 unfold mQ
 induction G with
 | nil=>simp [bA]
 | cons g G ih=>
  simp only [List.map_cons,bA]
  by_cases h1:yn T K g.1.1 g.1.2
  ·rw [if_pos h1,if_pos (h _ _ h1)];omega
  ·rw [if_neg h1]
   split<;>omega
theorem Kn {G:List Gx} {T X:List Te} {K K':List Value} (hk:∀ v∈K,v∈K'):mQ G (T++X) K'<=mQ G T K:=Vs fun _ _ h=>h.mono hk
theorem Ko {G:List Gx} {T:List Te} {K K':List Value} (hk:∀ v∈K,v∈K'):mQ G T K'<=mQ G T K:=by
 have:=Kn (G:=G) (T:=T) (X:=[]) hk
 rwa [List.append_nil] at this
theorem YV {G:List Gx} {T:List Te} {K K':List Value} {y:Tm} {c:Int} {k:Nat} (hm:((y,c),k)∈G) (h1:¬ yn T K y c) (h2:yn T K' y c) (hk:∀ v∈K,v∈K'):mQ G T K'+k<=mQ G T K:=by
 have hmono:∀ y c,yn T K y c->yn T K' y c:=fun y c h=>by have:=h.mono (X:=[]) hk;rwa [List.append_nil] at this
 induction G with
 | nil=>cases hm
 | cons g G ih=>
  have hrest:=Vs (G:=G) hmono
  unfold mQ at ih hrest ⊢
  simp only [List.map_cons,bA]
  rcases List.mem_cons.1 hm with e | e
  ·subst e
   rw [if_neg h1,if_pos h2]
   omega
  ·have:=ih e
   by_cases h3:yn T K g.1.1 g.1.2
   ·rw [if_pos h3,if_pos (hmono _ _ h3)];omega
   ·rw [if_neg h3]
    split<;>omega
theorem Vt {B:List Int} {T:List Te} (hT:TI B T) {K:List Value} {n:Nat} {y:Tm} {c d:Int} (hr:Rp T n y) (hd:rU y d) (hs:Seg y c d) (hm:j4 n d∉K):¬ yn T K y c:=by
 rintro ⟨n',d',h1,h2,h3,h4⟩
 rw [hT.inj n' n y h1 hr,h3.uniq h2 hs hd] at h4
 exact hm h4
def SV2 (T:List Te) (S:List (Value×Value)):Prop:=
 (S.map (·.1)).Nodup/\∀ p∈S,∃ (n:Nat) (d:Int) (r:Nat) (y:Tm),p=(j4 n d,.int .i64 (r:Int))/\n<=gB/\(Lit.int .i32 d).wf=true/\Rp T n y/\Rp T r (aL d y)
theorem SV2.keys {T:List Te} {S:List (Value×Value)} (h:SV2 T S):∀ p∈S,∃ x,keyOf Tryz.prog 227 p.1=some x:=fun p hp=>by
 obtain ⟨n,c,r,y,e,h1,h2,-⟩:=h.2 p hp
 rw [e]
 exact Nk h1 h2
theorem SV2.grow {T X:List Te} {S:List (Value×Value)} (h:SV2 T S):SV2 (T++X) S:=by
 refine ⟨h.1,fun p hp=>?_⟩
 obtain ⟨n,c,r,y,e,h1,h2,h3,h4⟩:=h.2 p hp
 exact ⟨n,c,r,y,e,h1,h2,h3.mono,h4.mono⟩
theorem SV2.add {T:List Te} {S:List (Value×Value)} {n:Nat} {c:Int} {r:Nat} {y:Tm} (h:SV2 T S) (hn:n<=gB) (hc:(Lit.int .i32 c).wf=true) (hy:Rp T n y) (hb:Rp T r (aL c y)) (hm:∀ p∈S,p.1≠j4 n c):SV2 T (S++[(j4 n c,.int .i64 (r:Int))]):=by
 refine ⟨?_,fun p hp=>?_⟩
 ·rw [List.map_append]
  refine List.nodup_append.2 ⟨h.1,by simp,fun a ha d hd e=>?_⟩
  obtain ⟨p,hp,rfl⟩:=List.mem_map.1 ha
  simp at hd
  exact hm p hp (e.trans hd)
 ·rcases List.mem_append.1 hp with hp | hp
  ·exact h.2 p hp
  ·rw [List.mem_singleton] at hp
   exact ⟨n,c,r,y,hp,hn,hc,hy,hb⟩
structure Sz (B:List Int) (w:World) (t:TB) (T:List Te) (S C:List (Value×Value)):Prop where
 tab:aZ w t T (au T) S C
 ti:TI B T
 cv:iI w t T C
 sv:SV2 T S
structure Nx (G:List Gx) (V:List Value) (ok:Nat->Prop) (g:Nat) (w:World) (t:TB) (T:List Te) (S:List (Value×Value)) (w':World) (t':TB) (T':List Te) (S':List (Value×Value)):Prop where
 sub:∃ X,T'=T++X
 zz:∀ p∈S,p∈S'
 new:∀ p∈S',p∈S\/∃ (i:Nat) (d:Int),ok i/\p.1=j4 i d
 fr:bg t t' w w'
 pay:T'.length+mQ G T' (S'.map (·.1)++V)<=T.length+mQ G T (S.map (·.1)++V)+g
theorem Nx.trans {G:List Gx} {V:List Value} {ok:Nat->Prop} {g g':Nat} {w w1 w2:World} {t t1 t2:TB} {T T1 T2:List Te} {S S1 S2:List (Value×Value)} (h:Nx G V ok g w t T S w1 t1 T1 S1) (h':Nx G V ok g' w1 t1 T1 S1 w2 t2 T2 S2):Nx G V ok (g+g') w t T S w2 t2 T2 S2 where
 sub:=by
  obtain ⟨X,e⟩:=h.sub
  obtain ⟨Y,e'⟩:=h'.sub
  exact ⟨X++Y,by rw [e',e,List.append_assoc]⟩
 zz:=fun p hp=>h'.zz p (h.zz p hp)
 new:=fun p hp=>by
  rcases h'.new p hp with q | q
  ·exact h.new p q
  ·exact .inr q
 fr:=h.fr.trans h'.fr
 pay:=by have:=h.pay;have:=h'.pay;omega
theorem Nx.rp {G:List Gx} {V:List Value} {ok:Nat->Prop} {g:Nat} {w w1:World} {t t1:TB} {T T1:List Te} {S S1:List (Value×Value)} (h:Nx G V ok g w t T S w1 t1 T1 S1) {n:Nat} {y:Tm} (hr:Rp T n y):Rp T1 n y:=by
 obtain ⟨X,e⟩:=h.sub
 rw [e];exact hr.mono
theorem Nx.get {G:List Gx} {V:List Value} {ok:Nat->Prop} {g:Nat} {w w1:World} {t t1:TB} {T T1:List Te} {S S1:List (Value×Value)} (h:Nx G V ok g w t T S w1 t1 T1 S1) {n:Nat} {x:Te} (hr:T[n]? = some x):T1[n]? = some x:=by
 obtain ⟨X,e⟩:=h.sub
 rw [e,List.getElem?_append_left (List.getElem?_eq_some_iff.1 hr).1];exact hr
theorem Nx.world {G:List Gx} {V:List Value} {ok:Nat->Prop} {w w':World} {t:TB} {T:List Te} {S:List (Value×Value)} (h:bg t t w w'):Nx G V ok 0 w t T S w' t T S:=
 ⟨⟨[],by simp⟩,fun _ h=>h,fun _ h=>.inl h,h,Nat.le_refl _⟩
theorem Nx.op {B:List Int} {G:List Gx} {V:List Value} {ok:Nat->Prop} {w w':World} {t t':TB} {T:List Te} {S:List (Value×Value)} {R:List Te×Nat} {z:Tm} {g:Nat} (h:Op B T R z g) (hf:bg t t' w w'):Nx G V ok g w t T S w' t' R.1 S:=by
 refine ⟨h.sub,fun _ h=>h,fun _ h=>.inl h,hf,?_⟩
 obtain ⟨X,e⟩:=h.sub
 have h1:=h.len
 have h2:mQ G R.1 (S.map (·.1)++V)<=mQ G T (S.map (·.1)++V):=by rw [e];exact Kn fun _ h=>h
 omega
theorem Sz.op {B:List Int} {w w':World} {t t':TB} {T:List Te} {S C:List (Value×Value)} {R:List Te×Nat} {z:Tm} {g:Nat} (h:Sz B w t T S C) (ho:Op B T R z g) (ht:Hid (aZ w' t' R.1 (au R.1) S C)) (hf:Hid (bg t t' w w')):Sz B w' t' R.1 S C:=by
 have hc:=iI.fr (hide h.cv) hf
 obtain ⟨X,e⟩:=ho.sub
 refine ⟨aa ht,ho.ti,?_,?_⟩
 ·rw [e];exact (aa hc).grow
 ·rw [e];exact h.sv.grow
theorem Sz.move {B:List Int} {w w':World} {t:TB} {T:List Te} {S C:List (Value×Value)} (h:Sz B w t T S C) (hm:∀ k,k<w.heap.size->w'.heap[k]? = w.heap[k]?):Sz B w' t T S C:=
 ⟨h.tab.move fun k _ hk=>hm k hk,h.ti,aa (iI.move (hide h.cv) fun k hk _=>hm k hk),h.sv⟩
def BO (B:List Int) (G:List Gx) (V:List Value) (ok:Nat->Prop) (g:Nat) (z:Tm) (w:World) (t:TB) (T:List Te) (S:List (Value×Value)) (e:Ending) (w':World):Prop:=
 ∃ (r:Nat) (t':TB) (T':List Te) (S' C':List (Value×Value)),e=.returned (.int .i64 (r:Int))/\Rp T' r z/\Hid (Sz B w' t' T' S' C')/\Hid (Nx G V ok g w t T S w' t' T' S')
def Kq (B:List Int) (G:List Gx) (n:Nat) (y:Tm) (c:Int):Prop:=
 ∀ (w:World) (t:TB) (T:List Te) (S C:List (Value×Value)) (V:List Value) (d:Int),Rp T n y->aG d=true->Seg y c d->(∀ v∈V,∃ (m:Nat) (d':Int),n<m/\v=j4 m d')->Hid (Sz B w t T S C)->T.length+mQ G T (S.map (·.1)++V)<=gB ->
  Calls Tryz.prog 101 #[.pointer (some ⟨t.tb,0,none⟩),.int .i64 n,.int .i32 d] w (BO B G V (fun i=>i<=n) 0 (aL d y) w t T S)
def GZ (B:List Int) (G:List Gx) (n:Nat) (y:Tm) (c:Int) (k:Ky) (f:Nat) (g:Nat):Prop:=
 ∀ (w:World) (t:TB) (T:List Te) (S C:List (Value×Value)) (V:List Value) (d:Int) (b:Bool),Rp T n y->T[n]? = some (k,b)->aG d=true->Seg y c d->(∀ v∈V,∃ (m:Nat) (d':Int),n<=m/\v=j4 m d')->Hid (Sz B w t T S C)->T.length+mQ G T (S.map (·.1)++V)+g<=gB ->
  Calls Tryz.prog f #[.pointer (some ⟨t.tb,0,none⟩),iD k,.int .i32 d] w (BO B G V (fun i=>i<n) g (aL d y) w t T S)
end Go.Proofs.YtfolanohokflkaaGreatDoor
namespace Go.Proofs.YtfolanohokflkaaGreatDoor
open Go.RowKit
open Tm (eps)
section
variable {w:World} {t:TB} {T:List Te} {N S C:List (Value×Value)} {k:Ky} {B:List Int} {G:List Gx} {V:List Value} {P:Tm->Prop}
theorem Vu {d:Int} (h:aG d=true):(Lit.int .i32 d).wf=true:=by
 have:=aF.1 h
 have h1:IntKind.i32.min<=d:=Int.le_trans (by decide) (show (0:Int)<=d by omega)
 have h2:d<=IntKind.i32.max:=Int.le_trans (show d<=1114111 by omega) (by decide)
 simp [Lit.wf,h1,h2]
theorem abp {y:Tm} {l:List Int} {c:Int} {i:Nat} (hok:jX y) (h:yc y l) (hc:aG c=true) (hb:Bs l c i i) (hf:¬ (i<l.length/\l.getD i 0=c)):∃ p,i=p+1/\p<l.length/\l.getD p 0∈l/\Seg y c (l.getD p 0):=by
 have hc0:0<=c:=by have:=aF.1 hc;omega
 obtain ⟨j,hj,hz⟩:=List.mem_iff_getElem.1 ((h.mem 0).2 (nQ hok))
 have hzj:l.getD j 0=0:=by rw [List.getD_eq_getElem?_getD,List.getElem?_eq_getElem hj];exact hz
 cases i with
 | zero=>
  exfalso
  have h1:=hb.hi j (Nat.zero_le _) hj
  have hpos:0<l.length:=by omega
  have h0:=hb.hi 0 (Nat.le_refl _) hpos
  have hm:l.getD 0 0∈l:=by rw [List.getD_eq_getElem?_getD,List.getElem?_eq_getElem hpos];exact List.getElem_mem _
  have hle:l.getD 0 0<=l.getD j 0:=by
   rcases Nat.eq_zero_or_pos j with e | e
   ·rw [e];exact Int.le_refl _
   ·have:=List.pairwise_iff_getElem.1 h.rise 0 j hpos hj e
    rw [List.getD_eq_getElem?_getD,List.getElem?_eq_getElem hpos,List.getD_eq_getElem?_getD,List.getElem?_eq_getElem hj]
    exact Int.le_of_lt this
  exact hf ⟨hpos,by omega⟩
 | succ p=>
  have hp:p<l.length:=by have:=hb.ln;omega
  have hm:l.getD p 0∈l:=by rw [List.getD_eq_getElem?_getD,List.getElem?_eq_getElem hp];exact List.getElem_mem _
  refine ⟨p,rfl,hp,hm,h.Ht (Int.le_of_lt (hb.lo p (Nat.lt_succ_self p))) fun b hbm hbc=>?_⟩
  obtain ⟨q,hq,rfl⟩:=List.mem_iff_getElem.1 hbm
  have e1:l.getD p 0=l[p]:=by rw [List.getD_eq_getElem?_getD,List.getElem?_eq_getElem hp];rfl
  have e2:l.getD q 0=l[q]:=by rw [List.getD_eq_getElem?_getD,List.getElem?_eq_getElem hq];rfl
  rw [e1]
  rcases Nat.lt_trichotomy q p with h1 | h1 | h1
  ·exact Int.le_of_lt (List.pairwise_iff_getElem.1 h.rise q p hq hp h1)
  ·subst h1;exact Int.le_refl _
  ·have h2:=hb.hi q h1 hq
   rw [e2] at h2
   have he:c=l[q]:=by omega
   have hq2:q=p+1:=by
    rcases Nat.lt_or_ge (p+1) q with h3 | h3
    ·have h4:=List.pairwise_iff_getElem.1 h.rise (p+1) q (by omega) hq h3
     have h5:=hb.hi (p+1) (Nat.le_refl _) (by omega)
     rw [List.getD_eq_getElem?_getD,List.getElem?_eq_getElem (by omega)] at h5
     have h6:c<=l[p+1]:=h5
     omega
    ·omega
   exact absurd ⟨by omega,by rw [<-hq2,e2];exact he.symm⟩ hf
theorem YW {n m:Nat} {d d':Int} (h:j4 n d=j4 m d'):n=m:=(wR h).1
theorem O_ (hT:TI B T) {n gg:Nat} {y:Tm} {c d:Int} (hr:Rp T n y) (hd:rU y d) (hs:Seg y c d) (hm:∀ p∈S,p.1≠j4 n d) (hv:∀ v∈V,∃ (m:Nat) (d':Int),n<m/\v=j4 m d') (hp:gg=0\/∃ k,((y,c),k)∈G/\gg<=k) :
  mQ G T (S.map (·.1)++j4 n d::V)+gg<=mQ G T (S.map (·.1)++V):=by
 have hsub:∀ v∈S.map (·.1)++V,v∈S.map (·.1)++j4 n d::V:=fun v hv=>by
  rcases List.mem_append.1 hv with q | q
  ·exact List.mem_append_left _ q
  ·exact List.mem_append_right _ (List.mem_cons_of_mem _ q)
 rcases hp with e | ⟨k,hk,hle⟩
 ·rw [e];exact Ko hsub
 ·have:=YV hk (Vt hT hr hd hs (K:=S.map (·.1)++V) (fun q=>by
   rcases List.mem_append.1 q with q | q
   ·obtain ⟨p,hp,e⟩:=List.mem_map.1 q
    exact hm p hp e
   ·obtain ⟨m,d',h1,h2⟩:=hv _ q
    have:=YW h2
    omega)) ⟨n,d,hr,hd,hs,List.mem_append_right _ (List.mem_cons_self ..)⟩ hsub
  omega
theorem Pd {w0 w w1 w2:World} {t0 t1:TB} {T1:List Te} {S1:List (Value×Value)} {n gg:Nat} {d:Int} {r:Value} (h:Nx G (j4 n d::V) (fun i=>i<n) gg w t T S w1 t1 T1 S1) (hf:bg t0 t1 w0 w2) (hp:mQ G T (S.map (·.1)++j4 n d::V)+gg<=mQ G T (S.map (·.1)++V)):Nx G V (fun i=>i<=n) 0 w0 t0 T S w2 t1 T1 (S1++[(j4 n d,r)]) where
 sub:=h.sub
 zz:=fun p hp=>List.mem_append_left _ (h.zz p hp)
 new:=fun p hp=>by
  rcases List.mem_append.1 hp with q | q
  ·rcases h.new p q with q | ⟨i,d',q1,q2⟩
   ·exact .inl q
   ·exact .inr ⟨i,d',Nat.le_of_lt q1,q2⟩
  ·rw [List.mem_singleton] at q
   exact .inr ⟨n,d,Nat.le_refl _,by rw [q]⟩
 fr:=hf
 pay:=by
  have h1:=h.pay
  have h2:mQ G T1 ((S1++[(j4 n d,r)]).map (·.1)++V)<=mQ G T1 (S1.map (·.1)++j4 n d::V):=Ko fun v hv=>by
   rw [List.map_append]
   rcases List.mem_append.1 hv with q | q
   ·exact List.mem_append_left _ (List.mem_append_left _ q)
   ·rcases List.mem_cons.1 q with q | q
    ·exact List.mem_append_left _ (List.mem_append_right _ (by simp [q]))
    ·exact List.mem_append_right _ q
  omega
set_option maxRecDepth 100000 in
set_option maxHeartbeats 4000000 in
theorem jh {n m f gg:Nat} {b:Bool} {c d0:Int} {y:Tm} (hB:B.length<=480) (hP:Fw P) (hy:P y) (hr:Rp T n y) (hx:T[n]? = some (k,b)) (abq:aG d0=true) (hsg:Seg y c d0) (hvn:∀ v∈V,∃ (m:Nat) (d':Int),n<m/\v=j4 m d') (h:Hid (Sz B w t T S C)) (hlim:T.length+mQ G T (S.map (·.1)++V)<=gB) (hpay:gg=0\/∃ k,((y,c),k)∈G/\gg<=k) (hkd:k.kd=(m:Int)) (hm7:m<7) (hcell:dP[m*3+1]? = some (fv f))
  (hcf:∀ (args:Array Value) (w:World),(callFunc f args).run Tryz.prog w=.ok (.enter f args) w) (HF:Hid (GZ B G n y c k f gg)) :
  Calls Tryz.prog 101 #[.pointer (some ⟨t.tb,0,none⟩),.int .i64 n,.int .i32 d0] w (BO B G V (fun i=>i<=n) 0 (aL d0 y) w t T S):=by
 have hTI:=(aa h).ti
 have hn:n<=gB:=by have:=hr.lt;omega
 have hcn:=hTI.cn hr
 have HTI:=hide hTI
 have DT:=hide (Km hTI hB (by omega) hP hr hy (hide (aa h).tab) (hide (aa h).cv))
 have HR:=hide hr
 have HV:=hide (aa h).sv
 have HVN:=hide hvn
 have HSG:=hide hsg
 have HOK:=hide hcn.ok
 have acO:∀ l,yc y l->l.length<=481:=fun l hl=>by have:=hl.len hcn.ok (hTI.sin n y hr);omega
 clear hTI hr hvn hsg hcn h hy hB
 go_enter Tryz.func101,Tryz.ntmps101
 go_wp2_with (go_at_call 125;refine (aa DT).mono ?_;clear DT;rintro x w1 ⟨l,g,cap,C1,rfl,hcl,J6,HT1,Ls,qV,hk1,ha1⟩;have hlen:=acO l hcl;have Vv:=hide hcl;have Kr:=hide (Gr w1 g l.length cap l d0 (by omega) (hide (aa J6).rn) (hide hcl.rise));clear hcl hk1 ha1)
 refine (aa Kr).mono ?_
 clear Kr
 rintro x w2 ⟨i,rfl,HB2,HBs⟩
 by_cases hfd:i<l.length/\l.getD i 0=d0
 ·rw [decide_eq_true hfd]
  have hiI:(i:Int)<(l.length:Int):=by omega
  have hi0:(0:Int)<=(i:Int):=by omega
  have c1:=((aa (kU.below J6 (aa HB2))).rn.get hfd.1).1
  have Nl:l.getD i 0∈l:=by rw [List.getD_eq_getElem?_getD,List.getElem?_eq_getElem hfd.1];exact List.getElem_mem _
  have CF:Seg y d0 (l.getD i 0):=by rw [hfd.2];exact Seg.refl _ _
  obtain ⟨d,hd⟩:∃ d,l.getD i 0=d:=⟨_,rfl⟩
  rw [hd] at c1 Nl CF
  have HDL:=Nl
  have Nn:=CF
  clear Nl CF hd
  have hsl:aG d=true:=mO (aa HOK) ((aa Vv).mem d |>.1 HDL)
  have Vw:rU y d:=((aa Vv).mem d).1 HDL
  have hwf:(Lit.int .i32 d).wf=true:=Vu hsl
  have Vx:Hid (aL d y=aL d0 y):=ou hsl abq _ (Nat.le_refl _) (aa HOK) Nn.symm
  have tF:Hid (Seg y c d):=(aa HSG).trans Nn
  have HIC:=hide Vw
  have YR:=hide hsl
  clear hsl Vw HDL Nn
  have HT2:=aZ.below HT1 (aa HB2)
  have xh:=iI.move Ls (fun k hk _=>(aa HB2).block k hk)
  have RV:=aZ.alloc HT2 (.cells #[.int .i64 n,.int .i32 d] 227)
  have HCd:=iI.move (w':=w2.alloc (.cells #[.int .i64 n,.int .i32 d] 227)) xh (fun k hk _=>Below.heap_alloc w2 _ k hk)
  have HFd:Hid (bg t t w (w2.alloc (.cells #[.int .i64 n,.int .i32 d] 227))):=((aa qV).trans (bg.below (aa HB2))).trans (bg.below ((Below.refl _ _).alloc (Nat.le_refl _) _))
  obtain ⟨q1,q2,q3,q4⟩:=(aa RV).cells
  have LA:=hide (heap_alloc_new w2 (.cells #[.int .i64 n,.int .i32 d] 227))
  have HFT:Hid (∀ k,TF t k->k<w2.heap.size):=fun k hk=>(aa HT2).foot hk
  clear HT1 Ls HT2 xh qV
  dsimp only
  by_cases hit:∃ p∈S,p.1=j4 n d
  ·obtain ⟨p,hp,hpn⟩:=hit
   obtain ⟨n',d',r,y',e,h1,h2,h3,h4⟩:=(aa HV).2 p hp
   rw [e] at hpn
   obtain ⟨rfl,rfl⟩:=wR hpn
   obtain ⟨j,hj⟩:=List.mem_iff_getElem?.1 hp
   rw [e] at hj
   have hlk:=fun q=>vz tC Tryz.underlying127 ((aa RV).drew q).sb (aa HV).keys (Nk hn hwf) (aa HV).1 hj
   unfold j4 at hlk
   have Vy:=hlk 0
   rw [h3.uniq (aa HR),aa Vx] at h4
   have YX:=hide h4
   clear h1 h2 h3 h4 e hp hpn hj q2
   go_wp2_with fail
   go_quiet (fail)
   go_wp2_with fail
   go_ret
   exact ⟨r,t,T,S,C1,rfl,aa YX,⟨(aa RV).drew nq,aa HTI,aa (iI.move HCd (fun _ _ _=>rfl)),aa HV⟩,Nx.world (bg.drewN (aa HFd) nq)⟩
  ·have hmiss:∀ p∈S,p.1≠j4 n d:=fun p hp e=>hit ⟨p,hp,e⟩
   have hlk:=fun q=>sG tC Tryz.underlying127 ((aa RV).drew q).sb (aa HV).keys (Nk hn hwf) hmiss (z:=.int .i64 0) (by simp [go_sem])
   unfold j4 at hlk
   have Vy:=hlk 0
   have Kt:=O_ (aa HTI) (aa HR) (aa HIC) (aa tF) hmiss (aa HVN) hpay
   have abr:=hide Kt
   have HVV:Hid (∀ v∈j4 n d::V,∃ (m:Nat) (d':Int),n<=m/\v=j4 m d'):=fun v hv=>by
    rcases List.mem_cons.1 hv with q | q
    ·exact ⟨n,d,Nat.le_refl _,q⟩
    ·obtain ⟨m',d',q1,q2⟩:=aa HVN v q
     exact ⟨m',d',by omega,q2⟩
   have Ku:T.length+mQ G T (S.map (·.1)++j4 n d::V)+gg<=gB:=by omega
   have Vz:=hide Ku
   clear Ku Kt
   obtain ⟨kd,st,fi,se⟩:=k
   dsimp only at hkd
   subst hkd
   have hlt:n<T.length:=(List.getElem?_eq_some_iff.1 hx).1
   have hnI:(n:Int)<(T.length:Int):=by omega
   have hn0:(0:Int)<=(n:Int):=by omega
   have hm0:(0:Int)<=(m:Int):=by omega
   have ZP:(m:Int)<7:=by omega
   have VA:¬ TF t w2.heap.size:=fun hf=>absurd (aa HFT _ hf) (Nat.lt_irrefl _)
   clear q2 hit hm7
   go_wp2_with fail
   go_quiet (fail)
   have Qv:=hide ((aa RV).drew nq)
   have HCq:Hid (iI ((w2.alloc (.cells #[.int .i64 n,.int .i32 d] 227)).drewN nq) t T C1):=iI.move HCd (fun _ _ _=>rfl)
   have HFq:Hid (bg t t w ((w2.alloc (.cells #[.int .i64 n,.int .i32 d] 227)).drewN nq)):=bg.drewN (aa HFd) nq
   have Xd:Hid (((w2.alloc (.cells #[.int .i64 n,.int .i32 d] 227)).drewN nq).heap[w2.heap.size]? = some (.cells #[.int .i64 n,.int .i32 d] 227)):=aa LA
   clear hlk Vy q1 q3 q4 RV HCd HFd LA
   generalize (w2.alloc (.cells #[.int .i64 n,.int .i32 d] 227)).drewN nq=Wq at *
   generalize w2.heap.size=SN at *
   obtain ⟨gt,q5,a0,a1,a2,a3,-⟩:=(aa Qv).at hx
   dsimp only at a0 a1 a2 a3
   have HTk:=aZ.alloc Qv (.cells #[.int .i64 m,.string st,.int .i64 fi,.int .i64 se] 135)
   have HCk:=iI.move (w':=Wq.alloc (.cells #[.int .i64 m,.string st,.int .i64 fi,.int .i64 se] 135)) HCq (fun k hk _=>Below.heap_alloc Wq _ k hk)
   have HFk:Hid (bg t t w (Wq.alloc (.cells #[.int .i64 m,.string st,.int .i64 fi,.int .i64 se] 135))):=(aa HFq).trans (bg.below ((Below.refl _ _).alloc (Nat.le_refl _) _))
   have hsq:SN<Wq.heap.size:=(Array.getElem?_eq_some_iff.1 (aa Xd)).1
   have YY:Hid ((Wq.alloc (.cells #[.int .i64 m,.string st,.int .i64 fi,.int .i64 se] 135)).heap[SN]? = some (.cells #[.int .i64 n,.int .i32 d] 227)):=(Below.heap_alloc Wq _ SN hsq).trans (aa Xd)
   have HKk:=hide (heap_alloc_new Wq (.cells #[.int .i64 m,.string st,.int .i64 fi,.int .i64 se] 135))
   have VB:¬ TF t Wq.heap.size:=aZ.dX Qv (Nat.le_refl _)
   have qK:Wq.heap.size<(Wq.alloc (.cells #[.int .i64 m,.string st,.int .i64 fi,.int .i64 se] 135)).heap.size:=by simp
   have OW:=hide (fun q=>aa HF ((Wq.alloc (.cells #[.int .i64 m,.string st,.int .i64 fi,.int .i64 se] 135)).drewN q) t T S C1 (j4 n d::V) d b (aa HR) hx (aa YR) (aa tF) (aa HVV) (hide ⟨(aa HTk).drew q,aa HTI,aa (iI.move HCk (fun _ _ _=>rfl)),aa HV⟩) (aa Vz))
   unfold iD at OW
   dsimp only at OW
   have qk:=(aa HTk).kind hcell
   have J5:=hide hcell
   go_wp2_with fail
   clear Qv HCq HFq Xd q5 a0 a1 a2 a3 hcell
   generalize Wq.alloc (.cells #[.int .i64 m,.string st,.int .i64 fi,.int .i64 se] 135)=Wk at *
   generalize Wq.heap.size=kb at *
   obtain ⟨k0,k1,k2,k3⟩:=bJ (aa HKk)
   obtain ⟨s0,s1⟩:=wS (aa YY)
   have abt:SN<Wk.heap.size:=(Array.getElem?_eq_some_iff.1 (aa YY)).1
   go_region_held3 (fun w'=>w'.cell? ⟨kb,0,none⟩=some (.int .i64 m)/\w'.cell? ⟨kb,1,none⟩=some (.string st)/\w'.cell? ⟨kb,2,none⟩=some (.int .i64 fi)/\w'.cell? ⟨kb,3,none⟩=some (.int .i64 se)/\w'.cell? ⟨SN,1,none⟩=some (.int .i32 d)/\w'.cell? ⟨t.tb,m*3+1,none⟩=some (fv f)) (go_keep)
    ((refine Calls.mono (aa OW 1) ?_;clear OW;rintro x w4 ⟨r,t3,T3,S3,C3,rfl,hbr,yo,lI⟩;have uU:Hid (bg t t3 (Wk.drewN 1) w4):=(aa lI).fr;have HT3:Hid (aZ w4 t3 T3 (au T3) S3 C3):=(aa yo).tab;obtain ⟨u0,u1,u2,u3⟩:=bJ (bg.own uU qK VB (aa HKk));have VC:=hide (bg.own uU abt VA (aa YY));obtain ⟨v0,v1⟩:=wS (aa VC);have rk:=(aa HT3).kind (aa J5);rw [(aa uU).tb] at rk;obtain ⟨p1,p2,p3,p4⟩:=(aa HT3).cells;rw [(aa uU).tb] at p1 p2 p3 p4))
   have uY:∀ p∈S3,p.1≠j4 n d:=fun p hp e=>by
    rcases (aa lI).new p hp with h1 | ⟨i,d2,hi,h1⟩
    ·exact hmiss p h1 e
    ·have:=(wR (h1.symm.trans e)).1
     omega
   have yU:Hid (aZ w4.drew t3 T3 (au T3) S3 C3):=(aa HT3).drew 1
   have hup:=vB tC Tryz.underlying127 (aa yU).sb (aa yo).sv.keys (Nk hn hwf) uY (.int .i64 (r:Int))
   have qN:=hide ((aa yU).stepped (S3++[(j4 n d,.int .i64 (r:Int))]))
   have abu:TF t3 t3.sb:=.inr (.inr (.inl rfl))
   have HC5:Hid (iI (ChangeMaps.setBlock (w4.drew) t3.sb (mkMap (S3++[(j4 n d,.int .i64 (r:Int))]))) t3 T3 C3):=iI.move (hide (aa yo).cv) fun k hk hf=>bQ (w:=w4.drew) (fun e=>hf (by rw [e];exact abu))
   have HV5:=hide ((aa yo).sv.add hn hwf ((aa lI).rp (aa HR)) hbr uY)
   have hf3:=aa uU
   have Vn:Hid (bg t t3 w w4):=(aa HFk).trans ⟨hf3.os,hf3.tape,hf3.output,hf3.size,hf3.block,hf3.tb,hf3.nb,hf3.sb,hf3.cb,hf3.row⟩
   have zA:=aa Vn
   have LM:Hid (bg t t3 w (ChangeMaps.setBlock (w4.drew) t3.sb (mkMap (S3++[(j4 n d,.int .i64 (r:Int))])))):=⟨zA.os,zA.tape,zA.output,by rw [vE];exact zA.size,fun k hk hf=>(bQ (w:=w4.drew) (fun e=>hf (by rw [e,zA.sb];exact .inr (.inr (.inl rfl))))).trans (zA.block k hk hf),zA.tb,zA.nb,zA.sb,zA.cb,zA.row⟩
   have HN5:Hid (Nx G V (fun i=>i<=n) 0 w t T S (ChangeMaps.setBlock (w4.drew) t3.sb (mkMap (S3++[(j4 n d,.int .i64 (r:Int))]))) t3 T3 (S3++[(j4 n d,.int .i64 (r:Int))])):=Pd (aa lI) (aa LM) (aa abr)
   rw [aa Vx] at hbr
   have YX:=hide hbr
   have abw:=hide (aa yo).ti
   generalize hS5:mkMap (S3++[(j4 n d,.int .i64 (r:Int))])=S5 at *
   generalize hSS:S3++[(j4 n d,Value.int .i64 (r:Int))]=SS at *
   unfold j4 at hup
   clear hmiss uY hf3 zA yo lI HT3 yU uU HKk YY VC k0 k1 k2 k3 s0 s1 u0 u1 u2 u3 rk qk hS5 hSS hbr
   go_wp2_with fail
   go_region
   go_wp2_with fail
   go_ret
   exact ⟨r,t3,T3,SS,C3,rfl,aa YX,⟨aa qN,aa abw,aa HC5,aa HV5⟩,HN5⟩
 ·rw [decide_eq_false hfd]
  obtain ⟨p,rfl,hp,Nl,CF⟩:=abp (aa HOK) (aa Vv) abq (aa HBs) hfd
  have hiI:(p:Int)<(l.length:Int):=by omega
  have hi0:(0:Int)<=(p:Int):=by omega
  have hwr:IntKind.i64.wrap (((p+1:Nat):Int) - 1)=(p:Int):=by simp [IntKind.wrap,IntKind.bits,IntKind.signed];omega
  have c1:=((aa (kU.below J6 (aa HB2))).rn.get hp).1
  obtain ⟨d,hd⟩:∃ d,l.getD p 0=d:=⟨_,rfl⟩
  rw [hd] at c1 Nl CF
  have HDL:=Nl
  have Nn:=CF
  clear Nl CF hd
  have hsl:aG d=true:=mO (aa HOK) ((aa Vv).mem d |>.1 HDL)
  have Vw:rU y d:=((aa Vv).mem d).1 HDL
  have hwf:(Lit.int .i32 d).wf=true:=Vu hsl
  have Vx:Hid (aL d y=aL d0 y):=ou hsl abq _ (Nat.le_refl _) (aa HOK) Nn.symm
  have tF:Hid (Seg y c d):=(aa HSG).trans Nn
  have HIC:=hide Vw
  have YR:=hide hsl
  clear hsl Vw HDL Nn
  have HT2:=aZ.below HT1 (aa HB2)
  have xh:=iI.move Ls (fun k hk _=>(aa HB2).block k hk)
  have RV:=aZ.alloc HT2 (.cells #[.int .i64 n,.int .i32 d] 227)
  have HCd:=iI.move (w':=w2.alloc (.cells #[.int .i64 n,.int .i32 d] 227)) xh (fun k hk _=>Below.heap_alloc w2 _ k hk)
  have HFd:Hid (bg t t w (w2.alloc (.cells #[.int .i64 n,.int .i32 d] 227))):=((aa qV).trans (bg.below (aa HB2))).trans (bg.below ((Below.refl _ _).alloc (Nat.le_refl _) _))
  obtain ⟨q1,q2,q3,q4⟩:=(aa RV).cells
  have LA:=hide (heap_alloc_new w2 (.cells #[.int .i64 n,.int .i32 d] 227))
  have HFT:Hid (∀ k,TF t k->k<w2.heap.size):=fun k hk=>(aa HT2).foot hk
  clear HT1 Ls HT2 xh qV
  dsimp only
  by_cases hit:∃ p∈S,p.1=j4 n d
  ·obtain ⟨p,hp,hpn⟩:=hit
   obtain ⟨n',d',r,y',e,h1,h2,h3,h4⟩:=(aa HV).2 p hp
   rw [e] at hpn
   obtain ⟨rfl,rfl⟩:=wR hpn
   obtain ⟨j,hj⟩:=List.mem_iff_getElem?.1 hp
   rw [e] at hj
   have hlk:=fun q=>vz tC Tryz.underlying127 ((aa RV).drew q).sb (aa HV).keys (Nk hn hwf) (aa HV).1 hj
   unfold j4 at hlk
   have Vy:=hlk 0
   rw [h3.uniq (aa HR),aa Vx] at h4
   have YX:=hide h4
   clear h1 h2 h3 h4 e hp hpn hj q2
   go_wp2_with fail
   go_quiet (fail)
   go_wp2_with fail
   go_ret
   exact ⟨r,t,T,S,C1,rfl,aa YX,⟨(aa RV).drew nq,aa HTI,aa (iI.move HCd (fun _ _ _=>rfl)),aa HV⟩,Nx.world (bg.drewN (aa HFd) nq)⟩
  ·have hmiss:∀ p∈S,p.1≠j4 n d:=fun p hp e=>hit ⟨p,hp,e⟩
   have hlk:=fun q=>sG tC Tryz.underlying127 ((aa RV).drew q).sb (aa HV).keys (Nk hn hwf) hmiss (z:=.int .i64 0) (by simp [go_sem])
   unfold j4 at hlk
   have Vy:=hlk 0
   have Kt:=O_ (aa HTI) (aa HR) (aa HIC) (aa tF) hmiss (aa HVN) hpay
   have abr:=hide Kt
   have HVV:Hid (∀ v∈j4 n d::V,∃ (m:Nat) (d':Int),n<=m/\v=j4 m d'):=fun v hv=>by
    rcases List.mem_cons.1 hv with q | q
    ·exact ⟨n,d,Nat.le_refl _,q⟩
    ·obtain ⟨m',d',q1,q2⟩:=aa HVN v q
     exact ⟨m',d',by omega,q2⟩
   have Ku:T.length+mQ G T (S.map (·.1)++j4 n d::V)+gg<=gB:=by omega
   have Vz:=hide Ku
   clear Ku Kt
   obtain ⟨kd,st,fi,se⟩:=k
   dsimp only at hkd
   subst hkd
   have hlt:n<T.length:=(List.getElem?_eq_some_iff.1 hx).1
   have hnI:(n:Int)<(T.length:Int):=by omega
   have hn0:(0:Int)<=(n:Int):=by omega
   have hm0:(0:Int)<=(m:Int):=by omega
   have ZP:(m:Int)<7:=by omega
   have VA:¬ TF t w2.heap.size:=fun hf=>absurd (aa HFT _ hf) (Nat.lt_irrefl _)
   clear q2 hit hm7
   go_wp2_with fail
   go_quiet (fail)
   have Qv:=hide ((aa RV).drew nq)
   have HCq:Hid (iI ((w2.alloc (.cells #[.int .i64 n,.int .i32 d] 227)).drewN nq) t T C1):=iI.move HCd (fun _ _ _=>rfl)
   have HFq:Hid (bg t t w ((w2.alloc (.cells #[.int .i64 n,.int .i32 d] 227)).drewN nq)):=bg.drewN (aa HFd) nq
   have Xd:Hid (((w2.alloc (.cells #[.int .i64 n,.int .i32 d] 227)).drewN nq).heap[w2.heap.size]? = some (.cells #[.int .i64 n,.int .i32 d] 227)):=aa LA
   clear hlk Vy q1 q3 q4 RV HCd HFd LA
   generalize (w2.alloc (.cells #[.int .i64 n,.int .i32 d] 227)).drewN nq=Wq at *
   generalize w2.heap.size=SN at *
   obtain ⟨gt,q5,a0,a1,a2,a3,-⟩:=(aa Qv).at hx
   dsimp only at a0 a1 a2 a3
   have HTk:=aZ.alloc Qv (.cells #[.int .i64 m,.string st,.int .i64 fi,.int .i64 se] 135)
   have HCk:=iI.move (w':=Wq.alloc (.cells #[.int .i64 m,.string st,.int .i64 fi,.int .i64 se] 135)) HCq (fun k hk _=>Below.heap_alloc Wq _ k hk)
   have HFk:Hid (bg t t w (Wq.alloc (.cells #[.int .i64 m,.string st,.int .i64 fi,.int .i64 se] 135))):=(aa HFq).trans (bg.below ((Below.refl _ _).alloc (Nat.le_refl _) _))
   have hsq:SN<Wq.heap.size:=(Array.getElem?_eq_some_iff.1 (aa Xd)).1
   have YY:Hid ((Wq.alloc (.cells #[.int .i64 m,.string st,.int .i64 fi,.int .i64 se] 135)).heap[SN]? = some (.cells #[.int .i64 n,.int .i32 d] 227)):=(Below.heap_alloc Wq _ SN hsq).trans (aa Xd)
   have HKk:=hide (heap_alloc_new Wq (.cells #[.int .i64 m,.string st,.int .i64 fi,.int .i64 se] 135))
   have VB:¬ TF t Wq.heap.size:=aZ.dX Qv (Nat.le_refl _)
   have qK:Wq.heap.size<(Wq.alloc (.cells #[.int .i64 m,.string st,.int .i64 fi,.int .i64 se] 135)).heap.size:=by simp
   have OW:=hide (fun q=>aa HF ((Wq.alloc (.cells #[.int .i64 m,.string st,.int .i64 fi,.int .i64 se] 135)).drewN q) t T S C1 (j4 n d::V) d b (aa HR) hx (aa YR) (aa tF) (aa HVV) (hide ⟨(aa HTk).drew q,aa HTI,aa (iI.move HCk (fun _ _ _=>rfl)),aa HV⟩) (aa Vz))
   unfold iD at OW
   dsimp only at OW
   have qk:=(aa HTk).kind hcell
   have J5:=hide hcell
   go_wp2_with fail
   clear Qv HCq HFq Xd q5 a0 a1 a2 a3 hcell
   generalize Wq.alloc (.cells #[.int .i64 m,.string st,.int .i64 fi,.int .i64 se] 135)=Wk at *
   generalize Wq.heap.size=kb at *
   obtain ⟨k0,k1,k2,k3⟩:=bJ (aa HKk)
   obtain ⟨s0,s1⟩:=wS (aa YY)
   have abt:SN<Wk.heap.size:=(Array.getElem?_eq_some_iff.1 (aa YY)).1
   go_region_held3 (fun w'=>w'.cell? ⟨kb,0,none⟩=some (.int .i64 m)/\w'.cell? ⟨kb,1,none⟩=some (.string st)/\w'.cell? ⟨kb,2,none⟩=some (.int .i64 fi)/\w'.cell? ⟨kb,3,none⟩=some (.int .i64 se)/\w'.cell? ⟨SN,1,none⟩=some (.int .i32 d)/\w'.cell? ⟨t.tb,m*3+1,none⟩=some (fv f)) (go_keep)
    ((refine Calls.mono (aa OW 1) ?_;clear OW;rintro x w4 ⟨r,t3,T3,S3,C3,rfl,hbr,yo,lI⟩;have uU:Hid (bg t t3 (Wk.drewN 1) w4):=(aa lI).fr;have HT3:Hid (aZ w4 t3 T3 (au T3) S3 C3):=(aa yo).tab;obtain ⟨u0,u1,u2,u3⟩:=bJ (bg.own uU qK VB (aa HKk));have VC:=hide (bg.own uU abt VA (aa YY));obtain ⟨v0,v1⟩:=wS (aa VC);have rk:=(aa HT3).kind (aa J5);rw [(aa uU).tb] at rk;obtain ⟨p1,p2,p3,p4⟩:=(aa HT3).cells;rw [(aa uU).tb] at p1 p2 p3 p4))
   have uY:∀ p∈S3,p.1≠j4 n d:=fun p hp e=>by
    rcases (aa lI).new p hp with h1 | ⟨i,d2,hi,h1⟩
    ·exact hmiss p h1 e
    ·have:=(wR (h1.symm.trans e)).1
     omega
   have yU:Hid (aZ w4.drew t3 T3 (au T3) S3 C3):=(aa HT3).drew 1
   have hup:=vB tC Tryz.underlying127 (aa yU).sb (aa yo).sv.keys (Nk hn hwf) uY (.int .i64 (r:Int))
   have qN:=hide ((aa yU).stepped (S3++[(j4 n d,.int .i64 (r:Int))]))
   have abu:TF t3 t3.sb:=.inr (.inr (.inl rfl))
   have HC5:Hid (iI (ChangeMaps.setBlock (w4.drew) t3.sb (mkMap (S3++[(j4 n d,.int .i64 (r:Int))]))) t3 T3 C3):=iI.move (hide (aa yo).cv) fun k hk hf=>bQ (w:=w4.drew) (fun e=>hf (by rw [e];exact abu))
   have HV5:=hide ((aa yo).sv.add hn hwf ((aa lI).rp (aa HR)) hbr uY)
   have hf3:=aa uU
   have Vn:Hid (bg t t3 w w4):=(aa HFk).trans ⟨hf3.os,hf3.tape,hf3.output,hf3.size,hf3.block,hf3.tb,hf3.nb,hf3.sb,hf3.cb,hf3.row⟩
   have zA:=aa Vn
   have LM:Hid (bg t t3 w (ChangeMaps.setBlock (w4.drew) t3.sb (mkMap (S3++[(j4 n d,.int .i64 (r:Int))])))):=⟨zA.os,zA.tape,zA.output,by rw [vE];exact zA.size,fun k hk hf=>(bQ (w:=w4.drew) (fun e=>hf (by rw [e,zA.sb];exact .inr (.inr (.inl rfl))))).trans (zA.block k hk hf),zA.tb,zA.nb,zA.sb,zA.cb,zA.row⟩
   have HN5:Hid (Nx G V (fun i=>i<=n) 0 w t T S (ChangeMaps.setBlock (w4.drew) t3.sb (mkMap (S3++[(j4 n d,.int .i64 (r:Int))]))) t3 T3 (S3++[(j4 n d,.int .i64 (r:Int))])):=Pd (aa lI) (aa LM) (aa abr)
   rw [aa Vx] at hbr
   have YX:=hide hbr
   have abw:=hide (aa yo).ti
   generalize hS5:mkMap (S3++[(j4 n d,.int .i64 (r:Int))])=S5 at *
   generalize hSS:S3++[(j4 n d,Value.int .i64 (r:Int))]=SS at *
   unfold j4 at hup
   clear hmiss uY hf3 zA yo lI HT3 yU uU HKk YY VC k0 k1 k2 k3 s0 s1 u0 u1 u2 u3 rk qk hS5 hSS hbr
   go_wp2_with fail
   go_region
   go_wp2_with fail
   go_ret
   exact ⟨r,t3,T3,SS,C3,rfl,aa YX,⟨aa qN,aa abw,aa HC5,aa HV5⟩,HN5⟩
end
end Go.Proofs.YtfolanohokflkaaGreatDoor
namespace Go.Proofs.YtfolanohokflkaaGreatDoor
open Go.RowKit
open Tm (eps)
section
variable {w W:World} {t:TB} {T:List Te} {N S C:List (Value×Value)} {k:Ky} {B:List Int} {G:List Gx} {V:List Value} {P:Tm->Prop}
theorem BO.lift {ok ok':Nat->Prop} {g:Nat} {z:Tm} {e:Ending} {w':World} (h:BO B G V ok g z W t T S e w') (hf:bg t t w W) (hok:∀ i,ok i->ok' i):BO B G V ok' g z w t T S e w':=by
 obtain ⟨r,t',T',S',C',h1,h2,h3,h4⟩:=h
 refine ⟨r,t',T',S',C',h1,h2,h3,?_⟩
 have h5:=aa h4
 exact ⟨h5.sub,h5.zz,fun p hp=>(h5.new p hp).elim .inl fun ⟨i,d,q1,q2⟩=>.inr ⟨i,d,hok i q1,q2⟩,hf.trans h5.fr,h5.pay⟩
theorem Nx.ok {ok ok':Nat->Prop} {g:Nat} {w':World} {t':TB} {T':List Te} {S':List (Value×Value)} (h5:Nx G V ok g w t T S w' t' T' S') (hok:∀ i,ok i->ok' i):Nx G V ok' g w t T S w' t' T' S':=
 ⟨h5.sub,h5.zz,fun p hp=>(h5.new p hp).elim .inl fun ⟨i,d,q1,q2⟩=>.inr ⟨i,d,hok i q1,q2⟩,h5.fr,h5.pay⟩
theorem BO.then {ok:Nat->Prop} {g g':Nat} {z:Tm} {e:Ending} {w1 w':World} {t1:TB} {T1:List Te} {S1:List (Value×Value)} (h0:Nx G V ok g w t T S w1 t1 T1 S1) (h:BO B G V ok g' z w1 t1 T1 S1 e w'):BO B G V ok (g+g') z w t T S e w':=by
 obtain ⟨r,t',T',S',C',h1,h2,h3,h4⟩:=h
 exact ⟨r,t',T',S',C',h1,h2,h3,h0.trans (aa h4)⟩
theorem BO.less {ok:Nat->Prop} {g g':Nat} {z:Tm} {e:Ending} {w':World} (h:BO B G V ok g z w t T S e w') (hg:g<=g'):BO B G V ok g' z w t T S e w':=by
 obtain ⟨r,t',T',S',C',h1,h2,h3,h4⟩:=h
 have h5:=aa h4
 exact ⟨r,t',T',S',C',h1,h2,h3,⟨h5.sub,h5.zz,h5.new,h5.fr,by have:=h5.pay;omega⟩⟩
theorem BO.of {ok:Nat->Prop} {g:Nat} {z:Tm} {e:Ending} {w':World} {R:List Te×Nat} (h:Hid (Sz B w t T S C)) (ho:Op B T R z g) (ht:FQ R w t S C e w'):BO B G V ok g z w t T S e w':=by
 obtain ⟨rfl,t',h1,h2⟩:=ht
 exact ⟨R.2,t',R.1,S,C,rfl,ho.rp,(aa h).op ho h1 h2,Nx.op ho (aa h2)⟩
theorem aah {n:Nat} {y:Tm} (h:Rp T n y) {x:Te} (hx:T[n]? = some x):0<=x.1.fi:=by
 cases h with
 | set h _=>rw [h] at hx;cases hx;exact Int.le_refl _
 | eps h=>rw [h] at hx;cases hx;exact Int.le_refl _
 | chain h _ _=>rw [h] at hx;cases hx;exact Int.natCast_nonneg _
 | star h _=>rw [h] at hx;cases hx;exact Int.natCast_nonneg _
 | bf h _ _=>rw [h] at hx;cases hx;exact Int.natCast_nonneg _
 | not h _=>rw [h] at hx;cases hx;exact Int.natCast_nonneg _
theorem CG {ok:Nat->Prop} {i j:Nat} {s u:Tm} (h:Hid (Sz B w t T S C)) (hi:Rp T i s) (hj:Rp T j u) (hl:T.length+dQ s<=gB) :
  Calls Tryz.prog 116 #[.pointer (some ⟨t.tb,0,none⟩),.int .i64 i,.int .i64 j] w (BO B G V ok (dQ s) (ay s u) w t T S):=by
 have ho:=Op.chain (i+1) (aa h).ti (Nat.lt_succ_self i) hi hj
 refine (Ei (i+1) w t T i j (Nat.lt_succ_self i) (hide (aa h).tab) (aa h).ti.wf (by have:=hi.lt;omega) hi.lt hj.lt (by have:=ho.len;omega)).mono fun e w' ht=>BO.of h ho ht
theorem VD {ok:Nat->Prop} {i:Nat} {s:Tm} (h:Hid (Sz B w t T S C)) (hi:Rp T i s) (hl:T.length+1<=gB) :
  Calls Tryz.prog 78 #[.pointer (some ⟨t.tb,0,none⟩),.int .i64 i] w (BO B G V ok 1 (kg s) w t T S):=by
 have ho:=Op.not (aa h).ti hi
 exact (NV (hide (aa h).tab) hi.lt (fun x hx=>aah hi hx) (by have:=ho.len;omega)).mono fun e w' ht=>BO.of h ho ht
theorem YZ {ok:Nat->Prop} (h:Hid (Sz B w t T S C)) (hl:T.length<=gB) :
  Calls Tryz.prog 78 #[.pointer (some ⟨t.tb,0,none⟩),.int .i64 ((0:Nat):Int)] w (BO B G V ok 0 whole w t T S):=by
 have hT:=(aa h).ti
 have ho:Op B T (vF T 0) whole 0:=by
  have h1:vF T 0=dR T (dU 0):=by unfold vF;rw [hT.t0];rfl
  rw [h1]
  rcases dY T (dU 0) with ⟨i,b,hx,e⟩ | ⟨hno,e⟩
  ·rw [e];exact Op.same hT (.not hx hT.r0)
  ·exact absurd rfl (hno _ (List.mem_iff_getElem?.2 ⟨2,hT.t2⟩))
 exact (NV (hide (aa h).tab) hT.r0.lt (fun x hx=>aah hT.r0 hx) (by have:=ho.len;omega)).mono fun e w' ht=>BO.of h ho ht
theorem VE {ok:Nat->Prop} {n i:Nat} {a:Tm} {b:Bool} (h:Hid (Sz B w t T S C)) (hl:T.length<=gB) (hx:T[n]? = some (dS i,b)) (hr:Rp T n (.star a)) (hi:Rp T i a) :
  Calls Tryz.prog 117 #[.pointer (some ⟨t.tb,0,none⟩),.int .i64 i] w (BO B G V ok 0 (.star a) w t T S):=by
 have hT:=(aa h).ti
 have hcn:uL .none (.star a):=hT.cn hr
 have ho:Op B T (tY T i) (.star a) 0:=by
  have h0:¬ (i=0\/i=1):=by
   rintro (e | e)
   ·exact hcn.2.1 ((hT.zero hi).1 e)
   ·exact hcn.2.2.1 ((hT.one hi).1 e)
  obtain ⟨x,hxi⟩:=hT.at hi
  have h3:x.1.kd≠3:=fun e3=>by
   have:=hcn.2.2.2
   cases hi with
   | set h _=>rw [h] at hxi;cases hxi;cases e3
   | eps h=>rw [h] at hxi;cases hxi;cases e3
   | chain h _ _=>rw [h] at hxi;cases hxi;cases e3
   | star h _=>cases this
   | @bf _ _ _ k _ _ _ h _ _=>rw [h] at hxi;cases hxi;cases k<;>cases e3
   | not h _=>rw [h] at hxi;cases hxi;cases e3
  have h1:tY T i=dR T (dS i):=by unfold tY;rw [if_neg h0,hxi];simp [h3]
  rw [h1]
  rcases dY T (dS i) with ⟨m,b,hx,e⟩ | ⟨hno,e⟩
  ·rw [e];exact Op.same hT (.star hx hi)
  ·exact absurd rfl (hno _ (List.mem_iff_getElem?.2 ⟨n,hx⟩))
 exact (Ij (hide (aa h).tab) hi.lt (by have:=ho.len;omega)).mono fun e w' ht=>BO.of h ho ht
theorem Sz.alloc (h:Hid (Sz B w t T S C)) (o:Obj):Hid (Sz B (w.alloc o) t T S C):=(aa h).move fun k hk=>Below.heap_alloc w o k hk
theorem Sz.drewN (h:Hid (Sz B w t T S C)) (q:Nat):Hid (Sz B (w.drewN q) t T S C):=(aa h).move fun _ _=>rfl
theorem Sz.below {w':World} (h:Hid (Sz B w t T S C)) (hb:Below w.heap.size w w'):Hid (Sz B w' t T S C):=(aa h).move fun k hk=>hb.block k hk
set_option maxRecDepth 100000 in
set_option maxHeartbeats 4000000 in
theorem abx {n:Nat} {c:Int} {l:af} (hB:B.length<=480) (ht:Tidy l) (hb:bY B l):GZ B G n (.set l) c (j6 (encS l)) 164 0:=by
 intro w t T S C V d b hr hx hsd hseg hV dK hlim
 have hlen:=(fZ ht hb).1
 have HH:=hide (Ye (w.alloc (.cells #[.int .i64 0,.string (encS l),.int .i64 0,.int .i64 0] 135)) l d (by omega) ht)
 have Gs:=hide (aa dK).ti.r0
 have HR1:=hide (aa dK).ti.r1
 rw [jC]
 unfold iD j6
 dsimp only
 have HA:Hid (Below w.heap.size w (w.alloc (.cells #[.int .i64 0,.string (encS l),.int .i64 0,.int .i64 0] 135))):=(Below.refl _ _).alloc (Nat.le_refl _) _
 have hsz:w.heap.size<(w.alloc (.cells #[.int .i64 0,.string (encS l),.int .i64 0,.int .i64 0] 135)).heap.size:=by simp
 clear hx hr hseg hsd hV hlim ht hb hlen
 generalize dw l d=q at *
 generalize encS l=es at *
 cases q
 ·go_enter Tryz.func164,Tryz.ntmps164
  go_wp2_with (go_at_call 165;refine (aa HH).mono ?_;clear HH;rintro e w2 ⟨rfl,HB⟩)
  go_ret
  have hb2:Below w.heap.size w w2:=(aa HA).trans (HB.mono (by omega))
  exact ⟨0,t,T,S,C,rfl,aa Gs,Sz.below dK hb2,Nx.world (bg.below hb2)⟩
 ·go_enter Tryz.func164,Tryz.ntmps164
  go_wp2_with (go_at_call 165;refine (aa HH).mono ?_;clear HH;rintro e w2 ⟨rfl,HB⟩)
  go_ret
  have hb2:Below w.heap.size w w2:=(aa HA).trans (HB.mono (by omega))
  exact ⟨1,t,T,S,C,rfl,aa HR1,Sz.below dK hb2,Nx.world (bg.below hb2)⟩
set_option maxRecDepth 100000 in
theorem VF {n:Nat} {c:Int}:GZ B G n eps c vv 169 0:=by
 intro w t T S C V d b hr hx hsd hseg hV dK hlim
 have Gs:=hide (aa dK).ti.r0
 rw [AP]
 unfold iD
 clear hx hr hseg hsd hV hlim
 go_enter Tryz.func169,Tryz.ntmps169
 go_wp2_with fail
 go_ret
 have hb2:Below w.heap.size w (w.alloc (.cells #[.int .i64 vv.kd,.string vv.st,.int .i64 vv.fi,.int .i64 vv.se] 135)):=(Below.refl _ _).alloc (Nat.le_refl _) _
 exact ⟨0,t,T,S,C,rfl,aa Gs,Sz.below dK hb2,Nx.world (bg.below hb2)⟩
theorem Y0 {n i:Nat} {y:Tm} {b:Bool} (h:Rp T n y) (hx:T[n]? = some (dU i,b)):∃ a,y=.not a/\Rp T i a:=by
 cases h with
 | set h _=>have e:=aC hx h;cases e
 | eps h=>have e:=aC hx h;cases e
 | chain h _ _=>have e:=aC hx h;cases e
 | star h _=>have e:=aC hx h;cases e
 | @bf _ _ _ k _ _ _ h _ _=>have e:=aC hx h;cases k<;>cases e
 | @not _ i' s _ h hs=>
  have e:=aC hx h
  simp only [dU,Ky.mk.injEq] at e
  have:i=i':=by omega
  subst this
  exact ⟨s,rfl,hs⟩
theorem VG {n i:Nat} {y:Tm} {b:Bool} (h:Rp T n y) (hx:T[n]? = some (dS i,b)):∃ a,y=.star a/\Rp T i a:=by
 cases h with
 | set h _=>have e:=aC hx h;cases e
 | eps h=>have e:=aC hx h;cases e
 | chain h _ _=>have e:=aC hx h;cases e
 | @star _ i' s _ h hs=>
  have e:=aC hx h
  simp only [dS,Ky.mk.injEq] at e
  have:i=i':=by omega
  subst this
  exact ⟨s,rfl,hs⟩
 | @bf _ _ _ k _ _ _ h _ _=>have e:=aC hx h;cases k<;>cases e
 | not h _=>have e:=aC hx h;cases e
theorem Fe {n i j:Nat} {y:Tm} {b:Bool} (h:Rp T n y) (hx:T[n]? = some (bL i j,b)):∃ a u,y=.chain a u/\Rp T i a/\Rp T j u:=by
 cases h with
 | set h _=>have e:=aC hx h;cases e
 | eps h=>have e:=aC hx h;cases e
 | @chain _ i' j' s u _ h hs hu=>
  have e:=aC hx h
  simp only [bL,Ky.mk.injEq] at e
  have e1:i=i':=by omega
  have e2:j=j':=by omega
  subst e1
  subst e2
  exact ⟨s,u,rfl,hs,hu⟩
 | star h _=>have e:=aC hx h;cases e
 | @bf _ _ _ k _ _ _ h _ _=>have e:=aC hx h;cases k<;>cases e
 | not h _=>have e:=aC hx h;cases e
def Kv (a:Tm):Nat:=if a=aH then 0 else 1
theorem Y1 {ok:Nat->Prop} {i:Nat} {a:Tm} {d:Int} (h:Hid (Sz B w t T S C)) (hi:Rp T i (aL d a)) (hl:T.length+Kv a<=gB) :
  Calls Tryz.prog 78 #[.pointer (some ⟨t.tb,0,none⟩),.int .i64 i] w (BO B G V ok (Kv a) (kg (aL d a)) w t T S):=by
 unfold Kv at *
 by_cases e:a=aH
 ·rw [if_pos e] at hl ⊢
  rw [e,show aL d aH=aH from rfl] at hi ⊢
  rw [((aa h).ti.zero hi).2 rfl]
  exact YZ h (by omega)
 ·rw [if_neg e] at hl ⊢
  exact VD h hi hl
set_option maxRecDepth 100000 in
set_option maxHeartbeats 4000000 in
theorem aby {n i:Nat} {c:Int} {a:Tm} (hin:i<n) (ha:Kq B G i a c):GZ B G n (.not a) c (dU i) 187 (Kv a):=by
 intro w t T S C V d b hr hx hsd hseg hV h hlim
 obtain ⟨a',e,hi⟩:=Y0 hr hx
 cases e
 rw [vM]
 have Np:=hide (ha (w.alloc (.cells #[.int .i64 6,.string ⟨#[]⟩,.int .i64 (i:Int),.int .i64 0] 135)) t T S C V d hi hsd (fun b hb=>hseg b hb) (fun v hv=>by obtain ⟨m,d',q1,q2⟩:=hV v hv;exact ⟨m,d',by omega,q2⟩) (Sz.alloc h _) (by omega))
 have tK:Hid (bg t t w (w.alloc (.cells #[.int .i64 6,.string ⟨#[]⟩,.int .i64 (i:Int),.int .i64 0] 135))):=bg.below ((Below.refl _ _).alloc (Nat.le_refl _) _)
 have HNO:=hide (fun (w1:World) (t1:TB) (T1:List Te) (S1 C1:List (Value×Value)) (r:Nat) (h1:Hid (Sz B w1 t1 T1 S1 C1)) (hr1:Rp T1 r (aL d a)) (hp:T1.length+mQ G T1 (S1.map (·.1)++V)<=T.length+mQ G T (S.map (·.1)++V)+0)=>Y1 (G:=G) (V:=V) (ok:=fun j=>j<n) h1 hr1 (by omega))
 unfold iD dU
 dsimp only
 clear h hx hr hseg hsd hV hlim hi ha
 go_enter Tryz.func187,Tryz.ntmps187
 go_wp2_with (first
  | (go_at_call 101;refine (aa Np).mono ?_;clear Np;rintro e w1 ⟨r1,t1,T1,S1,C1,rfl,hr1,xB,nW⟩;have l9:=hide (aa HNO w1 t1 T1 S1 C1 r1 xB hr1 (aa nW).pay);rw [(aa nW).fr.tb] at l9;clear HNO)
  | (go_at_call 78;refine (aa l9).mono ?_;clear l9;rintro e w2 HH;have CJ:=hide HH;obtain ⟨r2,t2,T2,S2,C2,rfl,-⟩:=HH))
 go_ret
 have h1:=BO.then ((Nx.world (aa tK)).trans ((aa nW).ok fun j (hj:j<=i)=>(show j<n by omega))) (aa CJ)
 exact h1.less (by omega)
set_option maxRecDepth 100000 in
set_option maxHeartbeats 4000000 in
theorem Y2 {n i:Nat} {c:Int} {a:Tm} (hin:i<n) (hsc:aG c=true) (ha:Kq B G i a c):GZ B G n (.star a) c (dS i) 176 (dQ (aL c a)):=by
 intro w t T S C V d b hr hx hsd hseg hV dK hlim
 obtain ⟨a',e,hi⟩:=VG hr hx
 cases e
 have hok:jX (.star a):=((aa dK).ti.cn hr).ok
 rw [sN,show aL c a=aL d a from ou hsc hsd _ (Nat.le_refl _) (show jX a from hok) (fun b hb=>hseg b hb)] at *
 have tK:Hid (bg t t w (w.alloc (.cells #[.int .i64 3,.string ⟨#[]⟩,.int .i64 (i:Int),.int .i64 0] 135))):=bg.below ((Below.refl _ _).alloc (Nat.le_refl _) _)
 have Np:=hide (fun q=>ha ((w.alloc (.cells #[.int .i64 3,.string ⟨#[]⟩,.int .i64 (i:Int),.int .i64 0] 135)).drewN q) t T S C V d hi hsd (fun b hb=>hseg b hb) (fun v hv=>by obtain ⟨m,d',q1,q2⟩:=hV v hv;exact ⟨m,d',by omega,q2⟩) (Sz.drewN (Sz.alloc dK _) q) (by omega))
 have HST:=hide (fun (w1:World) (t1:TB) (T1:List Te) (S1 C1:List (Value×Value)) (h1:Hid (Sz B w1 t1 T1 S1 C1)) (hn:Nx G V (fun j=>j<=i) 0 ((w.alloc (.cells #[.int .i64 3,.string ⟨#[]⟩,.int .i64 (i:Int),.int .i64 0] 135)).drewN 1) t T S w1 t1 T1 S1)=>VE (G:=G) (V:=V) (ok:=fun j=>j<n) h1 (by have:=hn.pay;omega) (hn.get hx) (hn.rp hr) (hn.rp hi))
 have M3:=hide (fun (w1:World) (t1:TB) (T1:List Te) (S1 C1:List (Value×Value)) (r s:Nat) (h1:Hid (Sz B w1 t1 T1 S1 C1)) (hr1:Rp T1 r (aL d a)) (hs1:Rp T1 s (.star a)) (hp:T1.length+mQ G T1 (S1.map (·.1)++V)<=T.length+mQ G T (S.map (·.1)++V))=>CG (G:=G) (V:=V) (ok:=fun j=>j<n) h1 hr1 hs1 (by omega))
 have Du:=hide (heap_alloc_new w (.cells #[.int .i64 3,.string ⟨#[]⟩,.int .i64 (i:Int),.int .i64 0] 135))
 have hnot:¬ TF t w.heap.size:=aZ.dX (hide (aa dK).tab) (Nat.le_refl _)
 have qK:w.heap.size<(w.alloc (.cells #[.int .i64 3,.string ⟨#[]⟩,.int .i64 (i:Int),.int .i64 0] 135)).heap.size:=by simp
 unfold iD dS
 dsimp only
 clear dK hx hr hseg hsd hV hlim hi ha hok
 go_enter Tryz.func176,Tryz.ntmps176
 go_wp2_with fail
 generalize w.alloc (.cells #[.int .i64 3,.string ⟨#[]⟩,.int .i64 (i:Int),.int .i64 0] 135)=Wk at *
 obtain ⟨k0,k1,k2,k3⟩:=bJ (aa Du)
 generalize hkb:w.heap.size=kb at *
 go_region_held3 (fun w'=>w'.cell? ⟨kb,2,none⟩=some (.int .i64 i)) (go_keep)
  (first
   | (go_at_call 101;refine (aa Np 1).mono ?_;clear Np;rintro x w1 ⟨r1,t1,T1,S1,C1,rfl,hr1,xB,nW⟩;have qV:Hid (bg t t1 (Wk.drewN 1) w1):=(aa nW).fr;have DU:=hide (bg.own qV qK hnot (aa Du));obtain ⟨r0,r1',r2,r3⟩:=bJ (aa DU);have HS2:=hide (aa HST w1 t1 T1 S1 C1 xB (aa nW));rw [(aa qV).tb] at HS2;have Ff:¬ TF t1 kb:=(fun hf=>((aa qV).foot hf).elim hnot (fun hle=>absurd qK (by have:Wk.heap.size<=kb:=hle;omega)));have hlt1:kb<w1.heap.size:=Nat.lt_of_lt_of_le qK (aa qV).size)
   | (go_at_call 117;refine (aa HS2).mono ?_;clear HS2;rintro x w2 ⟨s2,t2,T2,S2,C2,rfl,hs2,xC,iy⟩;have uA:Hid (bg t1 t2 w1 w2):=(aa iy).fr;have Kw:=hide (bg.own uA hlt1 Ff (aa DU));obtain ⟨s0,s1',s2',s3⟩:=bJ (aa Kw);have MG:=hide (aa M3 w2 t2 T2 S2 C2 r1 s2 xC ((aa iy).rp hr1) hs2 (by have h1:=(aa nW).pay;have h2:=(aa iy).pay;omega));rw [(aa uA).tb,(aa qV).tb] at MG;have acP:¬ TF t2 kb:=(fun hf=>((aa uA).foot hf).elim Ff (fun hle=>absurd hlt1 (by have:w1.heap.size<=kb:=hle;omega)));have hlt2:kb<w2.heap.size:=Nat.lt_of_lt_of_le hlt1 (aa uA).size)
   | (go_at_call 116;refine (aa MG).mono ?_;clear MG;rintro x w3 HH;have CJ:=hide HH;obtain ⟨c3,t3,T3,S3,C3,rfl,-,-,lI⟩:=HH;have uU:Hid (bg t2 t3 w2 w3):=(aa lI).fr;have adF:=hide (bg.own uU hlt2 acP (aa Kw));obtain ⟨z0,z1,z2,z3⟩:=bJ (aa adF)))
 go_wp2_with fail
 go_ret
 have h1:=BO.then (((Nx.world (bg.drewN (aa tK) 1)).trans ((aa nW).ok fun j (hj:j<=i)=>(show j<n by omega))).trans (aa iy)) (aa CJ)
 exact h1.less (by omega)
end
end Go.Proofs.YtfolanohokflkaaGreatDoor
namespace Go.Proofs.YtfolanohokflkaaGreatDoor
open Go.RowKit
section
variable {B:List Int} {w:World} {t:TB} {T:List Te} {S C:List (Value×Value)}
set_option maxRecDepth 100000 in
set_option maxHeartbeats 8000000 in
theorem VH {l:List Nat} {ts:List Tm} {g0 cap0:Nat} (h:Hid (aZ w t T (au T) S C)) (hT:TI B T) (hB:B.length<=480) (hr:ic T l ts) (hne:l≠[]) (hln:l.length<=500000) (nR:∀ t∈ts,(memT true t).length<=200000) (RO:(memT true (aj true ts)).length<=200000) (hlim:T.length+(memT true (aj true ts)).length+2<=gB)
  (hc:∀ j x,(az l)[j]? = some x->w.cell? ⟨g0,j,none⟩=some (.int .i64 x)) (hg0:g0<w.heap.size) :
  Calls Tryz.prog 77 #[.pointer (some ⟨t.tb,0,none⟩),.slice (some ⟨g0,0,none⟩) l.length cap0] w fun e w'=>∃ R,Op B T R (aj true ts) ((memT true (aj true ts)).length+1)/\(∀ r,l=[r]->R=(T,r))/\FQ R w t S C e w':=by
 have hJ:=hT.toTJ
 have qD:∀ n∈l,∃ t,Rp T n t/\t∈ts:=fun n hn=>by
  obtain ⟨t,ht,_⟩:=hT.all n (hr.lt n hn)
  exact ⟨t,ht,hr.mem.2 ⟨n,hn,ht⟩⟩
 have hsp:∀ n∈l,ko T true n (gK T true n)/\(gK T true n).length<=200000:=fun n hn=>by
  obtain ⟨t,ht,htm⟩:=qD n hn
  have h1:=zX (k:=true) ht
  exact ⟨h1,Nat.le_trans (zY hT ht h1) (nR t htm)⟩
 have qC:(l.flatMap (gK T true)).length<=100000000000:=by
  have h1:=Cr (b:=200000) fun n hn=>(hsp n hn).2
  have h2:l.length*200000<=500000*200000:=Nat.mul_le_mul_right _ hln
  omega
 have hSL:=yj (k:=true) (T:=T) (l:=l) fun n hn=>(hsp n hn).1
 have Na:=hSL.kinds hJ
 obtain ⟨L,MV,YQ,OX⟩:=E_ (l.flatMap (gK T true))
 have HM:=hide (yS (cap0:=cap0) h hT.wf (fun n hn=>⟨(hsp n hn).1,by have:=(hsp n hn).2;omega⟩) hne (by omega) hc hg0 qC (fun m hm=>by
  obtain ⟨x,hx,_⟩:=Na m hm
  exact (List.getElem?_eq_some_iff.1 hx).1) MV)
 have Xo:=hide qC
 have abf:Hid (∃ m,m∈l.flatMap (gK T true)):=by
  obtain ⟨a,r,rfl⟩:∃ a r,l=a::r:=by cases l with
   | nil=>exact absurd rfl hne
   | cons a r=>exact ⟨a,r,rfl⟩
  have:=(hsp a (List.mem_cons_self ..)).1.ne
  obtain ⟨x,y,e⟩:∃ x y,gK T true a=x::y:=by
   cases hq:gK T true a with
   | nil=>exact absurd hq this
   | cons x y=>exact ⟨x,y,rfl⟩
  exact ⟨x,by rw [List.flatMap_cons,e];simp⟩
 have YR:=hide hSL
 have HKN:=hide Na
 have HR:=hide hr
 have acL:1<=(memT true (aj true ts)).length:=by
  cases hq:memT true (aj true ts) with
  | nil=>exact absurd hq (vQ _ _)
  | cons _ _=>simp
 clear hc hg0 hne hln nR qD hsp qC hSL Na hr
 have aad:L.length<=(l.flatMap (gK T true)).length:=jf (YQ.imp fun q e=>by omega) fun m hm=>(OX m).1 hm
 obtain ⟨ss,hs1,hs2,hs3⟩:=GM hT (L:=L.filter fun m=>aX T m) fun m hm=>(List.mem_filter.1 hm).2
 have l9:=hide (U2 hT (aa HR) (aa YR) YQ OX hs1 fun s hs=>(hs3 s hs).1)
 have YS:Hid (∀ r,l=[r]->Yy T true L (fJ true ss)=(T,r)):=fun r e=>by
  subst e
  cases aa HR with
  | cons h1 _=>exact Ka hT (zX (k:=true) h1) YQ (fun m=>by rw [OX m];simp) hs1
 have hsl:(L.filter fun m=>aX T m).length=ss.length:=by
  have:=congrArg List.length hs2
  simpa using this
 rw [hs2,hsl] at HM
 have hkind:∀ m∈L,∃ x,T[m]? = some x/\x.1.kd≠kk true:=fun m hm=>aa HKN m ((OX m).1 hm)
 have hns:∀ m∈L.filter (fun m=>!aX T m),¬ MP T m:=fun m hm q=>by
  have:=(List.mem_filter.1 hm).2
  rw [l7.2 q] at this;cases this
 have hbf:(L.filter fun m=>!aX T m).Pairwise (Bf T):=(YQ.filter _).imp_of_mem fun {a b} ha hb q=>⟨hns a ha,.inr q⟩
 have hM:MOk T true (L.filter fun m=>!aX T m):=⟨fun m hm=>hkind m (List.mem_filter.1 hm).1,hbf⟩
 have hfl:=aa Xo
 have hex:∀ m∈L,∃ t,Rp T m t:=fun m hm=>by
  obtain ⟨x,hx,_⟩:=hkind m hm
  obtain ⟨y,hy,_⟩:=hJ.all m (List.getElem?_eq_some_iff.1 hx).1
  exact ⟨y,hy⟩
 obtain ⟨zs,hzs⟩:=ic.of (T:=T) (l:=L.filter fun m=>!aX T m) fun m hm=>hex m (List.mem_filter.1 hm).1
 have Tj:=hide (fun i (hi:TF t i)=>(aa h).foot hi)
 have hin:∀ m∈L.filter (fun m=>!aX T m),m<T.length:=hzs.lt
 have hNl:(L.filter fun m=>!aX T m).length<=100000000000:=Nat.le_trans (List.length_filter_le _ _) (by omega)
 have Hz:=hide hM
 have HNS:=hide hns
 have HZS:=hide hzs
 have YM:=hide hin
 have hGm:=hlim
 obtain ⟨m0,hm0⟩:=aa abf
 have Vk:=(OX m0).2 hm0
 clear hM hns hzs hbf hkind hex hs1 hs2 HKN Xo YR
 cases ss with
 | nil=>
  have Vl:0<(L.filter fun m=>!aX T m).length:=by
   have:m0∈L.filter fun m=>!aX T m:=List.mem_filter.2 ⟨Vk,by
    cases hb:aX T m0 with
    | false=>rfl
    | true=>
     have hq:m0∈L.filter fun m=>aX T m:=List.mem_filter.2 ⟨Vk,hb⟩
     rw [List.eq_nil_of_length_eq_zero hsl] at hq
     cases hq⟩
   exact List.length_pos_of_mem this
  have hop:=aa l9
  have hj0:=tu hT (aa Hz) (aa HZS)
  have e1:aj true ts=aj true zs:=hop.rp.uniq hj0.rp
  have Nb:=hide (fun (w2:World) (g1 oG:Nat) (hb2:Below w.heap.size w w2) (ho1:w2.ownsRow w.heap.size 3 1 (.slice (some ⟨g1,0,none⟩) (L.filter fun m=>!aX T m).length oG) (L.filter fun m=>!aX T m).length (ints (az (L.filter fun m=>!aX T m)))) (GR:w.heap.size<=g1)=>wO (k:=true) (cap:=oG) (aZ.below h hb2) hT.wf (aa YM) (by omega) (fun hz=>by
   have:=wN hT (aa Hz) (aa HZS) hz
   rw [<-e1] at this
   omega) (eH ho1 (Nat.zero_le _)) (aZ.dX h GR))
  clear hj0 e1 hop
  rw [show ((a_ true:Nat):Int)=2 from rfl,show ((dH true:Nat):Int)=0 from rfl,show kk true=5 from rfl] at Nb
  simp only [List.length_nil] at HM
  have Nc:Hid (Op B T (iG T true (L.filter fun m=>!aX T m)) (aj true ts) ((memT true (aj true ts)).length+1)):=l9
  have Nf:Hid (∀ r0,l=[r0]->(iG T true (L.filter fun m=>!aX T m))=(T,r0)):=YS
  clear YS
  clear l9
  generalize iG T true (L.filter fun m=>!aX T m)=R at *
  generalize L.filter (fun m=>!aX T m)=NS at *
  go_enter Tryz.func77,Tryz.ntmps77
  go_wp2_with (first
   | (go_at_call 110;refine (aa HM).mono ?_;clear HM;rintro e w2 ⟨SG,ao2,oG,cap2,rfl,zt,jl,HB2⟩;obtain ⟨ao1',cap1',e1,hv1⟩:=aQ (aa zt);injection e1 with e2 e3 e4;subst e2;subst e4;obtain ⟨g1,rfl,GR,-⟩:=hv1 Vl;have HJ:=hide (aa Nb w2 g1 oG (aa HB2) (aa zt) GR);clear Nb)
   | (go_at_call 113;refine (aa HJ).mono ?_;clear HJ;rintro e w3 ⟨rfl,t3,HT3,HX3⟩))
  go_ret
  exact ⟨R,aa Nc,aa Nf,rfl,t3,HT3,(bg.below (aa HB2)).past (aa HX3) GR⟩
 | cons s r=>
  have hrl:r.length+1<=100000000000:=by
   have h1:(s::r).length=r.length+1:=rfl
   have h2:(L.filter fun m=>aX T m).length<=L.length:=List.length_filter_le _ _
   omega
  have hs0:=hs3 s (List.mem_cons_self ..)
  have hf2:=jR (B:=B) (k:=true) (l:=r) (s:=s) (fun x hx=>hs3 x (List.mem_cons_of_mem _ hx)) hs0.1 hs0.2
  have Ng:=hide (fun (w2:World) (g2 cap2:Nat) (ho2:w2.ownsRow w.heap.size 61 1 (.slice (some ⟨g2,0,none⟩) (s::r).length cap2) (s::r).length (strs ((s::r).map encS)))=>RN B hB w2 g2 cap2 s r (fun j x hj=>by
   have hjl:j<r.length+1:=(List.getElem?_eq_some_iff.1 hj).1
   rw [ho2.cellAt j (by simp;omega)]
   unfold strs
   rw [List.getElem?_map,List.getElem?_map,hj];rfl) (zZ ho2) (ho2.lt g2 rfl).2 (by omega) hs3)
  have hfs:(r.foldl (gN true) s).length<=481:=by have:=(fZ hf2.1 hf2.2).1;omega
  have hsz:(encS (r.foldl (gN true) s)).size<=maxLen:=by
   have:=ym (r.foldl (gN true) s)
   unfold maxLen
   omega
  have hop:=aa l9
  have oQ:=Op.set hT hf2.1 hf2.2
  have hmk:=OZ hT (aa Hz) (aa HNS) hf2.1 hf2.2
  have hup:ic (fD T (encS (r.foldl (gN true) s))).1 ((L.filter fun m=>!aX T m)++[(fD T (encS (r.foldl (gN true) s))).2]) (zs++[.set (r.foldl (gN true) s)]):=by
   obtain ⟨X,eX⟩:=oQ.sub
   refine ic.app ?_ (.cons oQ.rp .nil)
   rw [eX];exact (aa HZS).mono
  have hj0:=tu oQ.ti hmk hup
  have e1:aj true ts=aj true (zs++[.set (r.foldl (gN true) s)]):=hop.rp.uniq hj0.rp
  have hjf:=fun hz=>wN oQ.ti hmk hup hz
  rw [<-e1] at hjf
  have Vm:=hide (fun w2 w3 (hb2:Below w.heap.size w w2) (hb:Below w2.heap.size w2 w3)=>FR (S:=S) (C:=C) (s:=encS (r.foldl (gN true) s)) (aZ.below (aZ.below h hb2) hb) hsz (by have:=oQ.len;omega))
  have hql:=oQ.len
  have Nb:=hide (fun (w5:World) (t4:TB) (g5 cap5:Nat) (hT5:Hid (aZ w5 t4 (fD T (encS (r.foldl (gN true) s))).1 (au (fD T (encS (r.foldl (gN true) s))).1) S C)) (hO5:w5.ownsRow w.heap.size 3 1 (.slice (some ⟨g5,0,none⟩) ((L.filter fun m=>!aX T m)++[(fD T (encS (r.foldl (gN true) s))).2]).length cap5) ((L.filter fun m=>!aX T m)++[(fD T (encS (r.foldl (gN true) s))).2]).length (ints (az ((L.filter fun m=>!aX T m)++[(fD T (encS (r.foldl (gN true) s))).2]))))=>
   wO (k:=true) (cap:=cap5) hT5 oQ.ti.wf hup.lt (by rw [List.length_append];simp;omega) (fun hz=>by have:=hjf hz;omega) (eH hO5 (Nat.zero_le _)) (wQ (aa hT5) hO5))
  clear hj0 e1 hop oQ hmk hup hjf hql hf2 hs3 hs0 hfs hsz
  rw [show ((a_ true:Nat):Int)=2 from rfl,show ((dH true:Nat):Int)=0 from rfl,show kk true=5 from rfl] at Nb
  have Nc:Hid (Op B T (iG (fD T (encS (r.foldl (gN true) s))).1 true ((L.filter fun m=>!aX T m)++[(fD T (encS (r.foldl (gN true) s))).2])) (aj true ts) ((memT true (aj true ts)).length+1)):=l9
  have Nf:Hid (∀ r0,l=[r0]->(iG (fD T (encS (r.foldl (gN true) s))).1 true ((L.filter fun m=>!aX T m)++[(fD T (encS (r.foldl (gN true) s))).2]))=(T,r0)):=YS
  clear YS
  clear l9
  generalize encS (r.foldl (gN true) s)=es at *
  generalize fD T es=Q at *
  generalize iG Q.1 true ((L.filter fun m=>!aX T m)++[Q.2])=R at *
  generalize hNS:L.filter (fun m=>!aX T m)=NS at *
  have hlen1:(NS++[Q.2]).length=NS.length+1:=by simp
  rw [hlen1] at Nb
  rw [show (s::r).length=r.length+1 from rfl] at HM Ng
  go_enter Tryz.func77,Tryz.ntmps77
  go_wp2_with (first
   | (go_at_call 110;refine (aa HM).mono ?_;clear HM;rintro e w2 ⟨SG,ao2,oG,cap2,rfl,zt,jl,HB2⟩;have hws:w.heap.size<=w2.heap.size:=(aa HB2).size;have HV1:Hid (∀ k,(Value.slice SG NS.length oG).ownBlock=some k->¬ TF t k):=(fun k hk=>aZ.dX h ((aa zt).lt k hk).1);obtain ⟨ao2',cap2',e1,hv2⟩:=aQ (aa jl);injection e1 with e2 e3 e4;subst e2;subst e4;obtain ⟨g2,rfl,-⟩:=hv2 (by omega);have HFO:=hide (aa Ng w2 g2 cap2 (aa jl));clear Ng hv2)
   | (go_at_call 111;refine (aa HFO).mono ?_;clear HFO;rintro e w3 ⟨rfl,HB3⟩;have HST:=hide (aa Vm w2 _ (aa HB2) (aa HB3));clear Vm)
   | (go_at_call 82;refine (aa HST).mono ?_;clear HST;rintro e w4 ⟨rfl,t4,yU,Vn⟩;have GU:Hid (bg t t4 w w4):=((bg.below (aa HB2)).trans (bg.below (aa HB3))).trans (aa Vn);have xR:=hide (GN (own_below (aa zt) (aa HB3) (Nat.le_refl _)) (aa Vn) (aa HV1));have hw4:w.heap.size<=w4.heap.size:=(aa GU).size;have abg:Hid (Below w.heap.size w4 w4):=Below.refl _ _;have HO4':Hid (w4.ownsRow w.heap.size 3 1 (.slice SG NS.length oG) NS.length (ints (az NS))):=xR)
   | (at_builtin;refine jK Tryz.underlying31 gU rfl (by decide) (by decide) w.heap.size w4 w4 _ _ [.int .i64 (Q.2:Int)] _ (.tmp 16) (.tmp 21) rfl rfl rfl w4.heap.size rfl rfl HO4' abg hw4 hNl rfl (by intro u hu;simp at hu;rw [hu];rfl) ?_;intro g5 cap5 w5 iC kV FO;have qN:Hid (aZ w5 t4 Q.1 (au Q.1) S C):=GQ (aa yU) (aa GU) (aa Tj) (aa kV) (aa FO);have HO5':Hid (w5.ownsRow w.heap.size 3 1 (.slice (some ⟨g5,0,none⟩) (NS.length+1) cap5) (NS.length+1) (ints (az (NS++[Q.2])))):=(by show World.ownsRow _ _ _ _ _ _ _;rw [ig,show ints (az NS++az [Q.2])=ints (az NS)++[.int .i64 (Q.2:Int)] from by simp [ints,az]];exact iC);have HJ:=hide (aa Nb w5 t4 g5 cap5 qN (aa HO5'));rw [(aa GU).tb] at HJ;have LM:=hide (wP (aa GU) (aa kV));have abh:=((aa iC).lt g5 rfl).1)
   | (go_at_call 113;refine (aa HJ).mono ?_;clear HJ;rintro e w6 ⟨rfl,t6,Xe,HX6⟩))
  go_ret
  exact ⟨R,aa Nc,aa Nf,rfl,t6,Xe,(aa LM).past (aa HX6) abh⟩
end
end Go.Proofs.YtfolanohokflkaaGreatDoor
namespace Go.Proofs.YtfolanohokflkaaGreatDoor
open Go.RowKit
open Tm (eps)
section
variable {w W:World} {t:TB} {T:List Te} {N S C:List (Value×Value)} {k:Ky} {B:List Int} {G:List Gx} {V:List Value} {P:Tm->Prop}
theorem VI {ok:Nat->Prop} {l:List Nat} {ts:List Tm} {g0 cap0:Nat} (h:Hid (Sz B w t T S C)) (hB:B.length<=480) (hr:ic T l ts) (hne:l≠[]) (hln:l.length<=500000) (nR:∀ t∈ts,(memT false t).length<=200000) (RO:(memT false (aj false ts)).length<=200000) (hlim:T.length+(memT false (aj false ts)).length+2<=gB)
  (hc:∀ j x,(az l)[j]? = some x->w.cell? ⟨g0,j,none⟩=some (.int .i64 x)) (hg0:g0<w.heap.size) :
  Calls Tryz.prog 79 #[.pointer (some ⟨t.tb,0,none⟩),.slice (some ⟨g0,0,none⟩) l.length cap0] w (BO B G V ok ((memT false (aj false ts)).length+1) (aj false ts) w t T S):=
 (Vj (hide (aa h).tab) (aa h).ti hB hr hne hln nR RO hlim hc hg0).mono fun _ _ ⟨_,h1,_,h2⟩=>BO.of h h1 h2
theorem abz {ok:Nat->Prop} {l:List Nat} {ts:List Tm} {g0 cap0:Nat} (h:Hid (Sz B w t T S C)) (hB:B.length<=480) (hr:ic T l ts) (hne:l≠[]) (hln:l.length<=500000) (nR:∀ t∈ts,(memT true t).length<=200000) (RO:(memT true (aj true ts)).length<=200000) (hlim:T.length+(memT true (aj true ts)).length+2<=gB)
  (hc:∀ j x,(az l)[j]? = some x->w.cell? ⟨g0,j,none⟩=some (.int .i64 x)) (hg0:g0<w.heap.size) :
  Calls Tryz.prog 77 #[.pointer (some ⟨t.tb,0,none⟩),.slice (some ⟨g0,0,none⟩) l.length cap0] w (BO B G V ok ((memT true (aj true ts)).length+1) (aj true ts) w t T S):=
 (VH (hide (aa h).tab) (aa h).ti hB hr hne hln nR RO hlim hc hg0).mono fun _ _ ⟨_,h1,_,h2⟩=>BO.of h h1 h2
theorem Pe {ok:Nat->Prop} {i j:Nat} {x y:Tm} {g0:Nat} (h:Hid (Sz B w t T S C)) (hB:B.length<=480) (hi:Rp T i x) (hj:Rp T j y) (hx:(memT false x).length<=200000) (hy:(memT false y).length<=200000) (RO:(memT false (aj false [x,y])).length<=200000) (hlim:T.length+(memT false (aj false [x,y])).length+2<=gB) (hg:w.heap.size=g0) :
  Calls Tryz.prog 79 #[.pointer (some ⟨t.tb,0,none⟩),.slice (some ⟨g0,0,none⟩) 2 2] (w.alloc (.cells #[.int .i64 (i:Int),.int .i64 (j:Int)] 3)) (BO B G V ok ((memT false (aj false [x,y])).length+1) (aj false [x,y]) (w.alloc (.cells #[.int .i64 (i:Int),.int .i64 (j:Int)] 3)) t T S):=by
 have hb:=heap_alloc_new w (.cells #[.int .i64 (i:Int),.int .i64 (j:Int)] 3)
 rw [hg] at hb
 refine VI (l:=[i,j]) (Sz.alloc h _) hB (.cons hi (.cons hj .nil)) (by simp) (by simp) (fun t ht=>?_) RO hlim (fun k n hk=>?_) (by rw [World.size_alloc,hg];exact Nat.lt_succ_self _)
 ·rcases List.mem_cons.1 ht with e | e
  ·rw [e];exact hx
  ·rw [List.mem_singleton] at e;rw [e];exact hy
 ·rw [cell_of_row _ _ k _ _ _ hb]
  match k,hk with
  | 0,hk=>cases hk;rfl
  | 1,hk=>cases hk;rfl
set_option maxRecDepth 100000 in
set_option maxHeartbeats 4000000 in
theorem RX {n i j:Nat} {c:Int} {a u:Tm} {g:Nat} (hin:i<n) (hsc:aG c=true) (ha:Kq B G i a c) (h0:cB a=false) (hg:dQ (aL c a)<=g):GZ B G n (.chain a u) c (bL i j) 172 g:=by
 intro w t T S C V d b hr hx hsd hseg hV dK hlim
 obtain ⟨a',u',e,hi,hj⟩:=Fe hr hx
 cases e
 have hok:jX (.chain a u):=((aa dK).ti.cn hr).ok
 have hsa:Seg a c d:=fun b hb=>hseg b (.inl hb)
 rw [fQ,h0,if_neg (by simp)]
 rw [show aL c a=aL d a from ou hsc hsd _ (Nat.le_refl _) hok.1 hsa] at hg
 obtain ⟨⟨ki,bi⟩,hxi⟩:=(aa dK).ti.at hi
 have hbi:bi=false:=((aa dK).ti.null hi hxi).trans h0
 subst hbi
 have tK:Hid (bg t t w (w.alloc (.cells #[.int .i64 2,.string ⟨#[]⟩,.int .i64 (i:Int),.int .i64 (j:Int)] 135))):=bg.below ((Below.refl _ _).alloc (Nat.le_refl _) _)
 have Np:=hide (fun q=>ha ((w.alloc (.cells #[.int .i64 2,.string ⟨#[]⟩,.int .i64 (i:Int),.int .i64 (j:Int)] 135)).drewN q) t T S C V d hi hsd hsa (fun v hv=>by obtain ⟨m,d',q1,q2⟩:=hV v hv;exact ⟨m,d',by omega,q2⟩) (Sz.drewN (Sz.alloc dK _) q) (by omega))
 have M3:=hide (fun (w1:World) (t1:TB) (T1:List Te) (S1 C1:List (Value×Value)) (r:Nat) (h1:Hid (Sz B w1 t1 T1 S1 C1)) (hr1:Rp T1 r (aL d a)) (hs1:Rp T1 j u) (hp:T1.length+mQ G T1 (S1.map (·.1)++V)<=T.length+mQ G T (S.map (·.1)++V))=>CG (G:=G) (V:=V) (ok:=fun j=>j<n) h1 hr1 hs1 (by omega))
 have Du:=hide (heap_alloc_new w (.cells #[.int .i64 2,.string ⟨#[]⟩,.int .i64 (i:Int),.int .i64 (j:Int)] 135))
 have hnot:¬ TF t w.heap.size:=aZ.dX (hide (aa dK).tab) (Nat.le_refl _)
 have qK:w.heap.size<(w.alloc (.cells #[.int .i64 2,.string ⟨#[]⟩,.int .i64 (i:Int),.int .i64 (j:Int)] 135)).heap.size:=by simp
 have hI0:(0:Int)<=(i:Int):=by omega
 have HRJ:=hide hj
 have HXI:=hide hxi
 unfold iD bL
 dsimp only
 clear dK hx hr hseg hsa hsd hV hlim hi hj hxi ha hok
 go_enter Tryz.func172,Tryz.ntmps172
 go_wp2_with fail
 generalize w.alloc (.cells #[.int .i64 2,.string ⟨#[]⟩,.int .i64 (i:Int),.int .i64 (j:Int)] 135)=Wk at *
 obtain ⟨k0,k1,k2,k3⟩:=bJ (aa Du)
 generalize hkb:w.heap.size=kb at *
 go_region_held3 (fun w'=>w'.cell? ⟨kb,2,none⟩=some (.int .i64 i)/\w'.cell? ⟨kb,3,none⟩=some (.int .i64 j)) (go_keep)
  (first
   | (go_at_call 101;refine (aa Np 1).mono ?_;clear Np;rintro x w1 ⟨r1,t1,T1,S1,C1,rfl,hr1,xB,nW⟩;have qV:Hid (bg t t1 (Wk.drewN 1) w1):=(aa nW).fr;have DU:=hide (bg.own qV qK hnot (aa Du));obtain ⟨r0,r1',r2,r3⟩:=bJ (aa DU);have MG:=hide (aa M3 w1 t1 T1 S1 C1 r1 xB hr1 ((aa nW).rp (aa HRJ)) (by have h1:=(aa nW).pay;omega));rw [(aa qV).tb] at MG;have Ff:¬ TF t1 kb:=(fun hf=>((aa qV).foot hf).elim hnot (fun hle=>absurd qK (by have:Wk.heap.size<=kb:=hle;omega)));have hlt1:kb<w1.heap.size:=Nat.lt_of_lt_of_le qK (aa qV).size)
   | (go_at_call 116;refine (aa MG).mono ?_;clear MG;rintro x w2 ⟨c2,t2,T2,S2,C2,rfl,hc2,xC,iy⟩;have uA:Hid (bg t1 t2 w1 w2):=(aa iy).fr;have Kw:=hide (bg.own uA hlt1 Ff (aa DU));obtain ⟨s0,s1,s2,s3⟩:=bJ (aa Kw)))
 have VJ:t2.tb=t.tb:=(aa uA).tb.trans (aa qV).tb
 have hx2:=(aa iy).get ((aa nW).get (aa HXI))
 obtain ⟨gt,q2,-,-,-,-,a4⟩:=(aa xC).tab.at hx2
 rw [VJ] at q2
 dsimp only at a4
 have hI:(i:Int)<(T2.length:Int):=by have:=(List.getElem?_eq_some_iff.1 hx2).1;omega
 have HRX:=hide hc2
 have Lt:=hide (((Nx.world (bg.drewN (aa tK) 1)).trans ((aa nW).ok fun j (hj:j<=i)=>(show j<n by omega))).trans (aa iy))
 clear hx2 Du DU Kw k0 k1 k2 k3 r0 r1' r2 r3 qV uA nW iy xB hr1 hc2 tK M3 HXI
 go_wp2_with fail
 go_quiet (fail)
 go_wp2_with fail
 go_ret
 have h1:BO B G V (fun j=>j<n) _ (ay (aL d a) u) w t T S (.returned (.int .i64 (c2:Int))) (w2.drewN nq):=⟨c2,t2,T2,S2,C2,rfl,aa HRX,Sz.drewN xC nq,(aa Lt).trans (Nx.world (bg.drewN (bg.refl _ _) nq))⟩
 exact h1.less (by omega)
set_option maxRecDepth 100000 in
set_option maxHeartbeats 4000000 in
theorem RY {n i j:Nat} {c:Int} {a u:Tm} {g:Nat} (hin:i<n) (hjn:j<n) (hB:B.length<=480) (hsc:aG c=true) (ha:Kq B G i a c) (hu:Kq B G j u c) (h0:cB a=true) (hfx:(memT false (ay (aL c a) u)).length<=200000) (hfy:(memT false (aL c u)).length<=200000) (hfz:(memT false (aL c (.chain a u))).length<=200000) (hg:dQ (aL c a)+(memT false (aL c (.chain a u))).length+2<=g):GZ B G n (.chain a u) c (bL i j) 172 g:=by
 intro w t T S C V d b hr hx hsd hseg hV dK hlim
 obtain ⟨a',u',e,hi,hj⟩:=Fe hr hx
 cases e
 have hok:jX (.chain a u):=((aa dK).ti.cn hr).ok
 have hsa:Seg a c d:=fun b hb=>hseg b (.inl hb)
 have hsu:Seg u c d:=fun b hb=>hseg b (.inr ⟨h0,hb⟩)
 rw [show aL c (.chain a u)=aj false [ay (aL c a) u,aL c u] from by rw [fQ,h0,if_pos rfl]] at hfz hg
 rw [show aL d (.chain a u)=aj false [ay (aL d a) u,aL d u] from by rw [fQ,h0,if_pos rfl]]
 rw [show aL c a=aL d a from ou hsc hsd _ (Nat.le_refl _) hok.1 hsa] at hg hfx hfz
 rw [show aL c u=aL d u from ou hsc hsd _ (Nat.le_refl _) hok.2 hsu] at hg hfy hfz
 obtain ⟨⟨ki,bi⟩,hxi⟩:=(aa dK).ti.at hi
 have hbi:bi=true:=((aa dK).ti.null hi hxi).trans h0
 subst hbi
 have tK:Hid (bg t t w (w.alloc (.cells #[.int .i64 2,.string ⟨#[]⟩,.int .i64 (i:Int),.int .i64 (j:Int)] 135))):=bg.below ((Below.refl _ _).alloc (Nat.le_refl _) _)
 have Np:=hide (fun q=>ha ((w.alloc (.cells #[.int .i64 2,.string ⟨#[]⟩,.int .i64 (i:Int),.int .i64 (j:Int)] 135)).drewN q) t T S C V d hi hsd hsa (fun v hv=>by obtain ⟨m,d',q1,q2⟩:=hV v hv;exact ⟨m,d',by omega,q2⟩) (Sz.drewN (Sz.alloc dK _) q) (by omega))
 have HBU:=hide (fun (w2:World) (t2:TB) (T2:List Te) (S2 C2:List (Value×Value)) (h2:Hid (Sz B w2 t2 T2 S2 C2)) (hs2:Rp T2 j u) (hp:T2.length+mQ G T2 (S2.map (·.1)++V)<=T.length+mQ G T (S.map (·.1)++V)+dQ (aL d a))=>hu w2 t2 T2 S2 C2 V d hs2 hsd hsu (fun v hv=>by obtain ⟨m,d',q1,q2⟩:=hV v hv;exact ⟨m,d',by omega,q2⟩) h2 (by omega))
 have M3:=hide (fun (w1:World) (t1:TB) (T1:List Te) (S1 C1:List (Value×Value)) (r:Nat) (h1:Hid (Sz B w1 t1 T1 S1 C1)) (hr1:Rp T1 r (aL d a)) (hs1:Rp T1 j u) (hp:T1.length+mQ G T1 (S1.map (·.1)++V)<=T.length+mQ G T (S.map (·.1)++V))=>CG (G:=G) (V:=V) (ok:=fun j=>j<n) h1 hr1 hs1 (by omega))
 have HAN:=hide (fun (w3:World) (t3:TB) (T3:List Te) (S3 C3:List (Value×Value)) (c2 r3:Nat) (h3:Hid (Sz B w3 t3 T3 S3 C3)) (hc2:Rp T3 c2 (ay (aL d a) u)) (hr3:Rp T3 r3 (aL d u)) (hp:T3.length+mQ G T3 (S3.map (·.1)++V)<=T.length+mQ G T (S.map (·.1)++V)+dQ (aL d a))=>Pe (G:=G) (V:=V) (ok:=fun j=>j<n) (g0:=w3.heap.size) h3 hB hc2 hr3 hfx hfy hfz (by omega) rfl)
 have Du:=hide (heap_alloc_new w (.cells #[.int .i64 2,.string ⟨#[]⟩,.int .i64 (i:Int),.int .i64 (j:Int)] 135))
 have hnot:¬ TF t w.heap.size:=aZ.dX (hide (aa dK).tab) (Nat.le_refl _)
 have qK:w.heap.size<(w.alloc (.cells #[.int .i64 2,.string ⟨#[]⟩,.int .i64 (i:Int),.int .i64 (j:Int)] 135)).heap.size:=by simp
 have hI0:(0:Int)<=(i:Int):=by omega
 have HRJ:=hide hj
 have HXI:=hide hxi
 have HGG:=hide hg
 unfold iD bL
 dsimp only
 clear dK hx hr hseg hsa hsu hsd hV hlim hi hj hxi ha hu hok hfx hfy hfz hg
 go_enter Tryz.func172,Tryz.ntmps172
 go_wp2_with fail
 generalize w.alloc (.cells #[.int .i64 2,.string ⟨#[]⟩,.int .i64 (i:Int),.int .i64 (j:Int)] 135)=Wk at *
 obtain ⟨k0,k1,k2,k3⟩:=bJ (aa Du)
 generalize hkb:w.heap.size=kb at *
 go_region_held3 (fun w'=>w'.cell? ⟨kb,2,none⟩=some (.int .i64 i)/\w'.cell? ⟨kb,3,none⟩=some (.int .i64 j)) (go_keep)
  (first
   | (go_at_call 101;refine (aa Np 1).mono ?_;clear Np;rintro x w1 ⟨r1,t1,T1,S1,C1,rfl,hr1,xB,nW⟩;have qV:Hid (bg t t1 (Wk.drewN 1) w1):=(aa nW).fr;have DU:=hide (bg.own qV qK hnot (aa Du));obtain ⟨r0,r1',r2,r3⟩:=bJ (aa DU);have MG:=hide (aa M3 w1 t1 T1 S1 C1 r1 xB hr1 ((aa nW).rp (aa HRJ)) (by have h1:=(aa nW).pay;omega));rw [(aa qV).tb] at MG;have Ff:¬ TF t1 kb:=(fun hf=>((aa qV).foot hf).elim hnot (fun hle=>absurd qK (by have:Wk.heap.size<=kb:=hle;omega)));have hlt1:kb<w1.heap.size:=Nat.lt_of_lt_of_le qK (aa qV).size)
   | (go_at_call 116;refine (aa MG).mono ?_;clear MG;rintro x w2 ⟨c2,t2,T2,S2,C2,rfl,hc2,xC,iy⟩;have uA:Hid (bg t1 t2 w1 w2):=(aa iy).fr;have Kw:=hide (bg.own uA hlt1 Ff (aa DU));obtain ⟨s0,s1,s2,s3⟩:=bJ (aa Kw)))
 have VJ:t2.tb=t.tb:=(aa uA).tb.trans (aa qV).tb
 have hx2:=(aa iy).get ((aa nW).get (aa HXI))
 obtain ⟨gt,q2,-,-,-,-,a4⟩:=(aa xC).tab.at hx2
 rw [VJ] at q2
 dsimp only at a4
 have hI:(i:Int)<(T2.length:Int):=by have:=(List.getElem?_eq_some_iff.1 hx2).1;omega
 have HRX:=hide hc2
 have adG:=hide ((aa iy).rp ((aa nW).rp (aa HRJ)))
 have Lt:=hide (((Nx.world (bg.drewN (aa tK) 1)).trans ((aa nW).ok fun j (hj:j<=i)=>(show j<n by omega))).trans (aa iy))
 have abA:=hide (fun q=>aa HBU (w2.drewN q) t2 T2 S2 C2 (Sz.drewN xC q) (aa adG) (by have:=(aa Lt).pay;omega))
 rw [VJ] at abA
 clear hx2 Du DU Kw k0 k1 k2 k3 r0 r1' r2 r3 qV uA nW iy xB hr1 hc2 tK M3 HXI HBU s0 s1
 go_wp2_with fail
 go_quiet (fail)
 go_wp2_with (first
  | (go_at_call 101;refine (aa abA _).mono ?_;clear abA;rintro x w3 ⟨r3,t3,T3,S3,C3,rfl,hr3,yo,lI⟩;have VK:=hide ((aa Lt).trans ((Nx.world (bg.drewN (bg.refl _ _) nq)).trans ((aa lI).ok fun i (hj:i<=j)=>(show i<n by omega))));have HA4:=hide (aa HAN w3 t3 T3 S3 C3 c2 r3 yo ((aa lI).rp (aa HRX)) hr3 (by have:=(aa VK).pay;omega));rw [(aa lI).fr.tb,VJ] at HA4;clear HAN)
  | (go_at_call 79;refine (aa HA4).mono ?_;clear HA4;rintro x w5 HH;have CJ:=hide HH;obtain ⟨r5,t5,T5,S5,C5,rfl,-⟩:=HH))
 go_ret
 have h1:=BO.then ((aa VK).trans (Nx.world (bg.below ((Below.refl _ _).alloc (Nat.le_refl _) _)))) (aa CJ)
 exact h1.less (by have:=aa HGG;omega)
end
end Go.Proofs.YtfolanohokflkaaGreatDoor
namespace Go.Proofs.YtfolanohokflkaaGreatDoor
open Go.RowKit
open Tm (eps)
section
variable {w W:World} {t:TB} {T:List Te} {N S C:List (Value×Value)} {k:Ky} {B:List Int} {G:List Gx} {V:List Value} {P:Tm->Prop}
theorem Nq {w w4 w5:World} {t t4:TB} (h:Sz B w4 t4 T S C) (hf:bg t t4 w w4) (hlt:∀ k,TF t k->k<w.heap.size) (hb:Below w.heap.size w4 w5) (hk:∀ B' e' s' u m ys,e'≠3->w4.ownsRow B' e' s' u m ys->w5.ownsRow B' e' s' u m ys):Sz B w5 t4 T S C:=by
 refine ⟨GQ h.tab hf hlt hb hk,h.ti,⟨h.cv.1,fun p hp=>?_⟩,h.sv⟩
 obtain ⟨n,g,cap,l,y,e,h1,h2,h2',h3⟩:=h.cv.2 p hp
 exact ⟨n,g,cap,l,y,e,h1,h2,h2',hk _ _ _ _ _ _ (by decide) h3.own,h3.apart⟩
theorem z_ {w w':World} {t t':TB} {base n:Nat} {v:Value} {xs:List Value} (ht:aZ w t T N S C) (h:w.ownsRow base 3 1 v n xs) (hf:bg t t' w w'):w'.ownsRow base 3 1 v n xs:=by
 refine GN h hf fun k hk=>?_
 obtain ⟨ao,cap,rfl,-⟩:=aQ h
 have h':=h
 obtain ⟨_,⟨hv,_⟩ | ⟨g,cap',cur,hv,_⟩⟩:=h
 ·rw [hv] at hk;cases hk
 ·rw [hv] at h' hk
  injection hv with e1 e2 e3
  have:g=k:=by simpa [Value.ownBlock] using hk
  subst this
  exact wQ ht h'
theorem ic.get {l:List Nat} {ts:List Tm} (h:ic T l ts):∀ {k n:Nat},l[k]? = some n->∃ y,ts[k]? = some y/\Rp T n y:=by
 induction h with
 | nil=>intro k n e;simp at e
 | @cons m y l ts h1 _ ih=>intro k n e;cases k with
  | zero=>simp at e;subst e;exact ⟨y,rfl,h1⟩
  | succ k=>simp at e;obtain ⟨z,h2,h3⟩:=ih e;exact ⟨z,by simpa using h2,h3⟩
set_option maxRecDepth 100000 in
set_option maxHeartbeats 4000000 in
theorem DV {n:Nat} {c d:Int} {ns:List Nat} {ys:List Tm} {g0 cap0:Nat} (h:Hid (Sz B w t T S C)) (hsd:aG d=true) (hr:ic T ns ys) (hl:ns.length<=1000000) (ha:∀ m∈ns,m<n/\∀ y,Rp T m y->Seg y c d/\Kq B G m y c) (hV:∀ v∈V,∃ (m:Nat) (d':Int),n<=m/\v=j4 m d') (hlim:T.length+mQ G T (S.map (·.1)++V)<=gB)
  (hcl:∀ j m,ns[j]? = some m->w.cell? ⟨g0,j,none⟩=some (.int .i64 ((m:Nat):Int))) (hg0:g0<w.heap.size) (hg0':¬ TF t g0) :
  Calls Tryz.prog 180 #[.pointer (some ⟨t.tb,0,none⟩),.slice (some ⟨g0,0,none⟩) ns.length cap0,.int .i32 d] w fun e w'=>∃ (ao:Option Addr) (cap:Nat) (rs:List Nat) (t':TB) (T':List Te) (S' C':List (Value×Value)),e=.returned (.slice ao ns.length cap)/\ic T' rs (ys.map (aL d))/\rs.length=ns.length/\Hid (w'.ownsRow w.heap.size 3 1 (.slice ao ns.length cap) ns.length (ints (az rs)))/\Hid (Sz B w' t' T' S' C')/\Hid (Nx G V (fun i=>i<n) 0 w t T S w' t' T' S'):=by
 have zu:=hide hcl
 have HRL:=hide hr
 have HA:=hide ha
 have HV:=hide hV
 have Tj:Hid (∀ k,TF t k->k<w.heap.size):=fun k hk=>(aa h).tab.foot hk
 clear hcl hr ha hV
 go_enter Tryz.func180,Tryz.ntmps180
 go_wp2_with fail
 go_loopw [7,12] (fun v i wr=>∃ (k':Nat) (ao:Option Addr) (cap:Nat) (rs:List Nat) (t1:TB) (T1:List Te) (S1 C1:List (Value×Value)),k'<=ns.length/\i=.int .i64 (k':Int)/\v=.slice ao k' cap/\Hid (rs.length=k')/\Hid (wr.ownsRow w.heap.size 3 1 (.slice ao k' cap) k' (ints (az rs)))/\Hid (ic T1 rs ((ys.take k').map (aL d)))/\Hid (Sz B wr t1 T1 S1 C1)/\Hid (Nx G V (fun i=>i<n) 0 w t T S wr t1 T1 S1)) (fun _ i _=>ns.length - (intOf i).toNat)
 case atStart=>exact ⟨0,none,0,[],t,T,S,C,Nat.zero_le _,rfl,rfl,rfl,World.ownsRow_nil _ _ _ _,.nil,h,Nx.world (bg.refl _ _)⟩
 case round=>
  obtain ⟨k',ao,cap,rs,t1,T1,S1,C1,hk',rfl,rfl,HM,HO,HRS,HY,HN⟩:=hrel
  by_cases hlt:k'<ns.length
  ·have cx:wr.cell? ⟨g0,k',none⟩=some (.int .i64 ((ns[k']:Nat):Int)):=by
    rw [World.cell?_of_block (a:=⟨g0,k',none⟩) ((aa HN).fr.block g0 hg0 hg0')]
    exact aa zu k' _ (by simp [hlt])
   obtain ⟨y,hy1,hy2⟩:=(aa HRL).get (List.getElem?_eq_getElem hlt)
   obtain ⟨hmn,hm2⟩:=aa HA ns[k'] (List.getElem_mem _)
   obtain ⟨hsg,acQ⟩:=hm2 y hy2
   have Np:=hide (acQ wr t1 T1 S1 C1 V d ((aa HN).rp hy2) hsd hsg (fun v hv=>by obtain ⟨m,d',q1,q2⟩:=aa HV v hv;exact ⟨m,d',by omega,q2⟩) HY (by have:=(aa HN).pay;omega))
   rw [(aa HN).fr.tb] at Np
   have xB:=hide hy1
   have SL:(k':Int)<(ns.length:Int):=by omega
   have hws:w.heap.size<=wr.heap.size:=(aa HN).fr.size
   clear hy1 hy2 hm2 hsg acQ
   generalize ns[k']=m at *
   go_wp2_with (first
    | (go_at_call 101;refine (aa Np).mono ?_;clear Np;rintro e w2 ⟨r2,t2,T2,S2,C2,rfl,hr2,xC,iy⟩;have jl:=hide (z_ (aa HY).tab (aa HO) (aa iy).fr);have lI:=hide ((aa HN).trans ((aa iy).ok fun i (hj:i<=m)=>(show i<n by omega)));have hw2:w.heap.size<=w2.heap.size:=(aa lI).fr.size;have VL:Hid (Below w.heap.size w2 w2):=Below.refl _ _;have HR2:=hide hr2;clear hr2)
    | (at_builtin;refine jK Tryz.underlying31 gU rfl (by decide) (by decide) w.heap.size w2 w2 _ _ [.int .i64 (r2:Int)] _ (.tmp 16) (.tmp 21) rfl rfl rfl w2.heap.size rfl rfl jl VL hw2 (by omega) rfl (by intro u hu;simp at hu;rw [hu];rfl) ?_;intro g5 cap5 w5 iC kV FO;have HY5:Hid (Sz B w5 t2 T2 S2 C2):=Nq (aa xC) (aa lI).fr (aa Tj) (aa kV) (aa FO)))
   go_roundw
   case rel=>
    refine ⟨k'+1,some ⟨g5,0,none⟩,cap5,rs++[r2],t2,T2,S2,C2,by omega,by go_num,rfl,by show _=_;rw [List.length_append,aa HM];rfl,?_,?_,HY5,?_⟩
    ·show World.ownsRow _ _ _ _ _ _ _
     rw [ig,show ints (az rs++az [r2])=ints (az rs)++[.int .i64 (r2:Int)] from by simp [ints,az]]
     exact iC
    ·have e1:ys.take (k'+1)=ys.take k'++[y]:=by
      have hy:=aa xB
      obtain ⟨hk1,hk2⟩:=List.getElem?_eq_some_iff.1 hy
      rw [List.take_succ_eq_append_getElem hk1,hk2]
     show ic _ _ _
     rw [e1,List.map_append]
     refine ic.app ?_ (.cons (aa HR2) .nil)
     obtain ⟨X,eX⟩:=(aa iy).sub
     rw [eX]
     exact (aa HRS).mono
    ·have h3:=aa lI
     exact ⟨h3.sub,h3.zz,h3.new,wP h3.fr (aa kV),by have:=h3.pay;omega⟩
   case measure=>simp [intOf];omega
  ·obtain rfl:k'=ns.length:=by omega
   go_wp2_with fail
   go_ret
   refine ⟨ao,cap,rs,t1,T1,S1,C1,rfl,?_,aa HM,HO,HY,HN⟩
   have h1:=aa HRS
   rwa [<-(aa HRL).len,List.take_length] at h1
def kF2 (k:Bool):Nat:=if k=true then 184 else 179
def kG (k:Bool):Nat:=if k=true then 77 else 79
theorem VM (k:Bool) {ok:Nat->Prop} {l:List Nat} {ts:List Tm} {g0 cap0:Nat} (h:Hid (Sz B w t T S C)) (hB:B.length<=480) (hr:ic T l ts) (hne:l≠[]) (hln:l.length<=500000) (nR:∀ t∈ts,(memT k t).length<=200000) (RO:(memT k (aj k ts)).length<=200000) (hlim:T.length+(memT k (aj k ts)).length+2<=gB)
  (hc:∀ j x,(az l)[j]? = some x->w.cell? ⟨g0,j,none⟩=some (.int .i64 x)) (hg0:g0<w.heap.size) :
  Calls Tryz.prog (kG k) #[.pointer (some ⟨t.tb,0,none⟩),.slice (some ⟨g0,0,none⟩) l.length cap0] w (BO B G V ok ((memT k (aj k ts)).length+1) (aj k ts) w t T S):=by
 cases k
 ·exact VI h hB hr hne hln nR RO hlim hc hg0
 ·exact abz h hB hr hne hln nR RO hlim hc hg0
theorem RZ {d:Int} {k:Bool} {n:Nat} {z:Tm} {l:List Nat} {ys:List Tm} (hT:TI B T) (hr:Rp T n z) (sp:ko T k n l) (hl:ic T l ys):aj k (ys.map (aL d))=aL d z:=by
 have hcn:=hT.cn hr
 have hm:∀ x,x∈ys↔x∈memT k z:=fun x=>by rw [hT.mem hr sp x];exact hl.mem
 rw [rM (k:=k) hcn]
 refine fB (fun x hx=>?_) fun x=>?_
 ·obtain ⟨y,hy,rfl⟩:=List.mem_map.1 hx
  exact (fT d (hl.cn hT.toTJ y hy)).1
 ·simp only [List.mem_map,hm]
set_option maxRecDepth 100000 in
set_option maxHeartbeats 4000000 in
theorem abB {k:Bool} {n i j:Nat} {c:Int} {z:Tm} {g:Nat} (hB:B.length<=480) (hsc:aG c=true) (ha:∀ m x,m<n->x∈memT k z->Kq B G m x c) (hf1:(memT k z).length<=200000) (hf2:∀ x∈memT k z,(memT k (aL c x)).length<=200000) (hf3:(memT k (aL c z)).length<=200000) (hg:(memT k (aL c z)).length+2<=g):GZ B G n z c (bZ k i j) (kF2 k) g:=by
 intro w t T S C V d b hr hx hsd hseg hV dK hlim
 have hT:=(aa dK).ti
 obtain ⟨h1,h2⟩:=uV hT.wf hx
 obtain ⟨u,hu,-⟩:=hT.all j (by have:=hr.lt;omega)
 obtain ⟨l,hl⟩:=ko.rp (k:=k) hu
 have sp:ko T k n (i::l):=.more hx hl
 have nR:=zY hT hr sp
 have hlen:(i::l).length=l.length+1:=rfl
 have hmem:=fun x=>hT.mem hr sp x
 have hok:jX z:=(hT.cn hr).ok
 have hlt:∀ m∈i::l,m<n:=fun m hm=>by
  rcases List.mem_cons.1 hm with q | q
  ·omega
  ·have:=hl.le hT.wf m q;omega
 obtain ⟨ys,hys⟩:=ic.of (T:=T) (l:=i::l) fun m hm=>by
  obtain ⟨x,hx1,-⟩:=hT.all m (by have:=hlt m hm;have:=hr.lt;omega)
  exact ⟨x,hx1⟩
 have VN:∀ x∈memT k z,Seg x c d:=fun x hx b hb=>hseg b ((GI (k:=k) z).2 ⟨x,hx,hb⟩)
 have hym:∀ x∈ys,x∈memT k z:=fun x hx=>(hmem x).2 (hys.mem.1 hx)
 have acR:∀ x∈ys,jX x:=fun x hx=>(hys.cn hT.toTJ x hx).ok
 have hdp:=RZ (d:=d) hT hr sp hys
 rw [show aL c z=aL d z from ou hsc hsd _ (Nat.le_refl _) hok hseg] at hf3 hg
 rw [<-hdp] at hf3 hg ⊢
 have HGG:=hide hg
 have hfm:∀ x∈ys.map (aL d),(memT k x).length<=200000:=fun x hx=>by
  obtain ⟨y,hy,rfl⟩:=List.mem_map.1 hx
  rw [<-ou hsc hsd _ (Nat.le_refl _) (acR y hy) (VN y (hym y hy))]
  exact hf2 y (hym y hy)
 have HP:=hide (Fa (i:=i) (aZ.alloc (hide (aa dK).tab) (.cells #[.int .i64 (kk k),.string ⟨#[]⟩,.int .i64 (i:Int),.int .i64 (j:Int)] 135)) hT.wf hl (by omega))
 have tK:Hid (bg t t w (w.alloc (.cells #[.int .i64 (kk k),.string ⟨#[]⟩,.int .i64 (i:Int),.int .i64 (j:Int)] 135))):=bg.below ((Below.refl _ _).alloc (Nat.le_refl _) _)
 have Aa:=Sz.alloc dK (.cells #[.int .i64 (kk k),.string ⟨#[]⟩,.int .i64 (i:Int),.int .i64 (j:Int)] 135)
 have HBA:=hide (fun (w2:World) (g2 cap2:Nat) (hb:Below (w.alloc (.cells #[.int .i64 (kk k),.string ⟨#[]⟩,.int .i64 (i:Int),.int .i64 (j:Int)] 135)).heap.size (w.alloc (.cells #[.int .i64 (kk k),.string ⟨#[]⟩,.int .i64 (i:Int),.int .i64 (j:Int)] 135)) w2) (ho:w2.ownsRow (w.alloc (.cells #[.int .i64 (kk k),.string ⟨#[]⟩,.int .i64 (i:Int),.int .i64 (j:Int)] 135)).heap.size 3 1 (.slice (some ⟨g2,0,none⟩) (l.length+1) cap2) (l.length+1) (ints (az (i::l))))=>
  DV (n:=n) (c:=c) (d:=d) (ns:=i::l) (ys:=ys) (V:=V) (g0:=g2) (cap0:=cap2) (Sz.below Aa hb) hsd hys (by omega) (fun m hm=>⟨hlt m hm,fun y hy=>⟨VN y ((hmem y).2 ⟨m,hm,hy⟩),ha m y (hlt m hm) ((hmem y).2 ⟨m,hm,hy⟩)⟩⟩) hV (by omega) (fun k n hk=>by
   have hkl:k<l.length+1:=(List.getElem?_eq_some_iff.1 hk).1
   rw [ho.cellAt k (by omega)]
   unfold ints az
   rw [List.getElem?_map,List.getElem?_map,hk];rfl) (ho.lt g2 rfl).2 (aZ.dX (hide (aa Aa).tab) (ho.lt g2 rfl).1))
 rw [hlen] at HBA
 have Kz:=hide (fun (w3:World) (t3:TB) (T3:List Te) (S3 C3:List (Value×Value)) (rs:List Nat) (g3 f_:Nat) (h3:Hid (Sz B w3 t3 T3 S3 C3)) (hrs:ic T3 rs (ys.map (aL d))) (hrl:rs.length=l.length+1) (ho:w3.ownsRow (w.alloc (.cells #[.int .i64 (kk k),.string ⟨#[]⟩,.int .i64 (i:Int),.int .i64 (j:Int)] 135)).heap.size 3 1 (.slice (some ⟨g3,0,none⟩) (l.length+1) f_) (l.length+1) (ints (az rs))) (hp:T3.length+mQ G T3 (S3.map (·.1)++V)<=T.length+mQ G T (S.map (·.1)++V)+0)=>VM (G:=G) (V:=V) (ok:=fun j=>j<n) (cap0:=f_) k h3 hB hrs (by intro e;rw [e] at hrl;cases hrl) (by omega) hfm hf3 (by omega) (fun j x hj=>by
   have hjl:j<rs.length:=by
    have:=(List.getElem?_eq_some_iff.1 hj).1
    rwa [aO] at this
   rw [ho.cellAt j (by omega)]
   unfold ints
   rw [List.getElem?_map,hj];rfl) (ho.lt g3 rfl).2)
 unfold iD bZ at HP
 unfold iD bZ kF2
 dsimp only at HP ⊢
 clear dK hT hx hr hseg hsd hV hlim h1 h2 hu hl sp nR hmem hok hlt hys VN hym acR hf3 hf2 hf1 hg hfm Aa ha hdp hB
 cases k with
 | false=>
  rw [if_neg (by simp)]
  rw [show kk false=4 from rfl] at tK HP HBA Kz ⊢
  rw [show kG false=79 from rfl] at Kz
  go_enter Tryz.func179,Tryz.ntmps179
  go_wp2_with (first
   | (go_at_call 181;refine (aa HP).mono ?_;clear HP;rintro x w2 ⟨g2,cap2,rfl,jl,HB2⟩;have Pf:=hide (aa HBA w2 g2 cap2 (aa HB2) (aa jl));clear HBA)
   | (go_at_call 180;refine (aa Pf).mono ?_;clear Pf;rintro x w3 ⟨ao3,f_,rs,t3,T3,S3,C3,rfl,hrs,hrl,p8,yo,lI⟩;obtain ⟨ao',cap',e',hv⟩:=aQ (aa p8);injection e' with e1 e2 e3;subst e1;subst e3;obtain ⟨g3,rfl,-⟩:=hv (by omega);have l9:=hide (aa Kz w3 t3 T3 S3 C3 rs g3 f_ yo hrs hrl (eH (aa p8) (aa HB2).size) (aa lI).pay);rw [(aa lI).fr.tb,hrl] at l9;clear Kz hv)
   | (go_at_call 79;refine (aa l9).mono ?_;clear l9;rintro x w4 HH;have CJ:=hide HH;obtain ⟨r4,t4,T4,S4,C4,rfl,-⟩:=HH))
  go_ret
  have h1:=BO.then ((Nx.world ((aa tK).trans (bg.below (aa HB2)))).trans (aa lI)) (aa CJ)
  exact h1.less (by have:=aa HGG;omega)
 | true=>
  rw [if_pos rfl]
  rw [show kk true=5 from rfl] at tK HP HBA Kz ⊢
  rw [show kG true=77 from rfl] at Kz
  go_enter Tryz.func184,Tryz.ntmps184
  go_wp2_with (first
   | (go_at_call 181;refine (aa HP).mono ?_;clear HP;rintro x w2 ⟨g2,cap2,rfl,jl,HB2⟩;have Pf:=hide (aa HBA w2 g2 cap2 (aa HB2) (aa jl));clear HBA)
   | (go_at_call 180;refine (aa Pf).mono ?_;clear Pf;rintro x w3 ⟨ao3,f_,rs,t3,T3,S3,C3,rfl,hrs,hrl,p8,yo,lI⟩;obtain ⟨ao',cap',e',hv⟩:=aQ (aa p8);injection e' with e1 e2 e3;subst e1;subst e3;obtain ⟨g3,rfl,-⟩:=hv (by omega);have l9:=hide (aa Kz w3 t3 T3 S3 C3 rs g3 f_ yo hrs hrl (eH (aa p8) (aa HB2).size) (aa lI).pay);rw [(aa lI).fr.tb,hrl] at l9;clear Kz hv)
   | (go_at_call 77;refine (aa l9).mono ?_;clear l9;rintro x w4 HH;have CJ:=hide HH;obtain ⟨r4,t4,T4,S4,C4,rfl,-⟩:=HH))
  go_ret
  have h1:=BO.then ((Nx.world ((aa tK).trans (bg.below (aa HB2)))).trans (aa lI)) (aa CJ)
  exact h1.less (by have:=aa HGG;omega)
end
end Go.Proofs.YtfolanohokflkaaGreatDoor
namespace Go.Proofs.YtfolanohokflkaaGreatDoor
open Go.RowKit
open Tm (eps)
section
variable {B:List Int} {G:List Gx} {Vd:Tm->Int->Prop}
theorem R3 (k:Bool) (args:Array Value) (w:World):(callFunc (kF2 k) args).run Tryz.prog w=.ok (.enter (kF2 k) args) w:=by
 cases k
 ·exact aM Tryz.func179 (by kernel_rfl) (by kernel_rfl) args w
 ·exact aM Tryz.func184 (by kernel_rfl) (by kernel_rfl) args w
theorem CK (hB:B.length<=480) (hS:Ni G Vd) {c:Int}:∀ n y,Vd y c->Kq B G n y c:=by
 intro n
 induction n using Nat.strongRecOn with
 | _ n ih=>
  intro y hv w t T S C V d hr hsd hseg hV h hlim
  have hT:=(aa h).ti
  have hsc:=hS.sym hv
  have hP:=hS.fw c
  have KA:=hS.cost hv
  have hr0:=hr
  cases hr with
  | set hx ht=>
   exact jh hB hP hv hr0 hx hsd hseg hV h hlim (gg:=0) (.inl rfl) (m:=0) rfl (by decide) rfl (aM Tryz.func164 (by kernel_rfl) (by kernel_rfl)) (hide (abx hB ht (hT.sin n _ hr0)))
  | eps hx=>
   exact jh hB hP hv hr0 hx hsd hseg hV h hlim (gg:=0) (.inl rfl) (m:=1) rfl (by decide) rfl (aM Tryz.func169 (by kernel_rfl) (by kernel_rfl)) (hide VF)
  | @chain _ i j a u b hx ha hu=>
   obtain ⟨h1,h2⟩:=rT hT.wf hx
   have hc:∃ k,((Tm.chain a u,c),k)∈G/\nN c (.chain a u)<=k:=by
    rcases KA with q | q
    ·cases q
    ·exact q
   have hbf:GZ B G n (.chain a u) c (bL i j) 172 (nN c (.chain a u)):=by
    cases h0:cB a with
    | false=>exact RX h1 hsc (ih i h1 a (hS.head hv)) h0 (by simp only [nN];omega)
    | true=>exact RY h1 h2 hB hsc (ih i h1 a (hS.head hv)) (ih j h2 u (hS.next hv h0)) h0 (hS.acN hv) (hS.few false (hS.next hv h0)).2 (hS.few false hv).2 (Nat.le_refl _)
   exact jh hB hP hv hr0 hx hsd hseg hV h hlim (.inr hc) (m:=2) rfl (by decide) rfl (aM Tryz.func172 (by kernel_rfl) (by kernel_rfl)) (hide hbf)
  | @star _ i a b hx ha=>
   have hc:∃ k,((Tm.star a,c),k)∈G/\nN c (.star a)<=k:=by
    rcases KA with q | q
    ·cases q
    ·exact q
   exact jh hB hP hv hr0 hx hsd hseg hV h hlim (.inr hc) (m:=3) rfl (by decide) rfl (aM Tryz.func176 (by kernel_rfl) (by kernel_rfl)) (hide (Y2 (wM hT.wf hx) hsc (ih i (wM hT.wf hx) a (hS.star hv))))
  | @not _ i a b hx ha=>
   have hc:Kv a=0\/∃ k,((Tm.not a,c),k)∈G/\Kv a<=k:=by
    rcases KA with q | ⟨k,q1,q2⟩
    ·have:a=aH:=by
      unfold b_ at q
      split at q<;>first | rfl | (rename_i e;cases e;rfl) | cases q
      all_goals simp_all
     exact .inl (by unfold Kv;rw [if_pos this])
    ·refine .inr ⟨k,q1,Nat.le_trans ?_ q2⟩
     unfold Kv
     simp only [nN]
     split<;>omega
   exact jh hB hP hv hr0 hx hsd hseg hV h hlim hc (m:=6) rfl (by decide) rfl (aM Tryz.func187 (by kernel_rfl) (by kernel_rfl)) (hide (aby (Ce hT.wf hx) (ih i (Ce hT.wf hx) a (hS.neg hv))))
  | @bf _ i j k s u b hx hs hu=>
   obtain ⟨⟨a,e,eq⟩,-⟩:=(hT.Xk hr0).yes k i j b hx
   rw [eq] at hv hr0 hseg KA ⊢
   have hc:∃ q,((Tm.bf k a e,c),q)∈G/\nN c (.bf k a e)<=q:=by
    rcases KA with q | q
    ·cases q
    ·exact q
   exact jh hB hP hv hr0 hx hsd hseg hV h hlim (.inr hc) (m:=if k=true then 5 else 4) (f:=kF2 k) (by cases k<;>rfl) (by cases k<;>decide) (by cases k<;>rfl) (R3 k) (hide (abB hB hsc (fun m x hm hx=>ih m hm x (hS.mem hv hx)) (hS.few k hv).1 (fun x hx=>(hS.few k (hS.mem hv hx)).2) (hS.few k hv).2 (Nat.le_refl _)))
end
end Go.Proofs.YtfolanohokflkaaGreatDoor
