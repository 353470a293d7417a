import Derived.Test.YtfolanohokflkaaGreatDoorBecA
import Derived.Test.YtfolanohokflkaaGreatDoorBecB
import Derived.WalkKit
import Derived.WalkSpells
import Derived.WalkLawsBesides
import Derived.WalkMore
import Derived.Deep.QuietTactic
import Derived.BigQuiet
import Derived.BigRegion
import Derived.Deep.RegionHeld3
import Derived.Test.YtfolanohokflkaaGreatDoorKlD
namespace Go.Proofs.YtfolanohokflkaaGreatDoor
open Go.RowKit
open Tm (eps)
theorem Seg.uniq {y:Tm} {c d d':Int} (h:Seg y c d) (hd:rG y d) (h':Seg y c d') (hd':rG y d'):d=d':=by
 have h1:=(h d hd).2 (Int.le_refl _)
 have h2:=(h' d' hd').2 (Int.le_refl _)
 have h3:=(h d' hd').1 h2
 have h4:=(h' d hd).1 h1
 omega
def xN (T:List Te) (K:List Value) (y:Tm) (c:Int):Prop:=∃ (n:Nat) (d:Int),Rp T n y/\rG y d/\Seg y c d/\jZ n d∈K
theorem xN.mono {T X:List Te} {K K':List Value} {y:Tm} {c:Int} (h:xN T K y c) (hk:∀ v∈K,v∈K'):xN (T++X) K' y c:=by
 obtain ⟨n,d,h1,h2,h3,h4⟩:=h
 exact ⟨n,d,h1.mono,h2,h3,hk _ h4⟩
open Classical in
noncomputable def nW (G:List Gx) (T:List Te) (K:List Value):Nat:=bB (G.map fun g=>if xN T K g.1.1 g.1.2 then 0 else g.2)
theorem Uu {G:List Gx} {T T':List Te} {K K':List Value} (h:∀ y c,xN T K y c->xN T' K' y c):nW G T' K'<=nW G T K:=by
 unfold nW
 induction G with
 | nil=>simp [bB]
 | cons g G ih=>
  simp only [List.map_cons,bB]
  by_cases h1:xN T K g.1.1 g.1.2
  ·rw [if_pos h1,if_pos (h _ _ h1)];omega
  ·rw [if_neg h1]
   split<;>omega
theorem Jt {G:List Gx} {T X:List Te} {K K':List Value} (hk:∀ v∈K,v∈K'):nW G (T++X) K'<=nW G T K:=Uu fun _ _ h=>h.mono hk
theorem Ju {G:List Gx} {T:List Te} {K K':List Value} (hk:∀ v∈K,v∈K'):nW G T K'<=nW G T K:=by
 have:=Jt (G:=G) (T:=T) (X:=[]) hk
 rwa [List.append_nil] at this
theorem XP {G:List Gx} {T:List Te} {K K':List Value} {y:Tm} {c:Int} {k:Nat} (hm:((y,c),k)∈G) (h1:¬ xN T K y c) (h2:xN T K' y c) (hk:∀ v∈K,v∈K'):nW G T K'+k<=nW G T K:=by
 have hmono:∀ y c,xN T K y c->xN T K' y c:=fun y c h=>by have:=h.mono (X:=[]) hk;rwa [List.append_nil] at this
 induction G with
 | nil=>cases hm
 | cons g G ih=>
  have hrest:=Uu (G:=G) hmono
  unfold nW at ih hrest ⊢
  simp only [List.map_cons,bB]
  rcases List.mem_cons.1 hm with e | e
  ·subst e
   rw [if_neg h1,if_pos h2]
   omega
  ·have:=ih e
   by_cases h3:xN T K g.1.1 g.1.2
   ·rw [if_pos h3,if_pos (hmono _ _ h3)];omega
   ·rw [if_neg h3]
    split<;>omega
theorem Uv {B:List Int} {T:List Te} (hT:TI B T) {K:List Value} {n:Nat} {y:Tm} {c d:Int} (hr:Rp T n y) (hd:rG y d) (hs:Seg y c d) (hm:jZ n d∉K):¬ xN T K y c:=by
 rintro ⟨n',d',h1,h2,h3,h4⟩
 rw [hT.inj n' n y h1 hr,h3.uniq h2 hs hd] at h4
 exact hm h4
def SV2 (T:List Te) (S:List (Value×Value)):Prop:=
 (S.map (·.1)).Nodup/\∀ p∈S,∃ (n:Nat) (d:Int) (r:Nat) (y:Tm),p=(jZ n d,.int .i64 (r:Int))/\n<=gW/\(Lit.int .i32 d).wf=true/\Rp T n y/\Rp T r (aG d y)
theorem SV2.keys {T:List Te} {S:List (Value×Value)} (h:SV2 T S):∀ p∈S,∃ x,keyOf Tryz.prog 227 p.1=some x:=fun p hp=>by
 obtain ⟨n,c,r,y,e,h1,h2,-⟩:=h.2 p hp
 rw [e]
 exact Mj h1 h2
theorem SV2.grow {T X:List Te} {S:List (Value×Value)} (h:SV2 T S):SV2 (T++X) S:=by
 refine ⟨h.1,fun p hp=>?_⟩
 obtain ⟨n,c,r,y,e,h1,h2,h3,h4⟩:=h.2 p hp
 exact ⟨n,c,r,y,e,h1,h2,h3.mono,h4.mono⟩
theorem SV2.add {T:List Te} {S:List (Value×Value)} {n:Nat} {c:Int} {r:Nat} {y:Tm} (h:SV2 T S) (hn:n<=gW) (hc:(Lit.int .i32 c).wf=true) (hy:Rp T n y) (hb:Rp T r (aG c y)) (hm:∀ p∈S,p.1≠jZ n c):SV2 T (S++[(jZ n c,.int .i64 (r:Int))]):=by
 refine ⟨?_,fun p hp=>?_⟩
 ·rw [List.map_append]
  refine List.nodup_append.2 ⟨h.1,by simp,fun a ha d hd e=>?_⟩
  obtain ⟨p,hp,rfl⟩:=List.mem_map.1 ha
  simp at hd
  exact hm p hp (e.trans hd)
 ·rcases List.mem_append.1 hp with hp | hp
  ·exact h.2 p hp
  ·rw [List.mem_singleton] at hp
   exact ⟨n,c,r,y,hp,hn,hc,hy,hb⟩
structure Sz (B:List Int) (w:World) (t:TB) (T:List Te) (S C:List (Value×Value)):Prop where
 tab:aZ w t T (ak T) S C
 ti:TI B T
 cv:iK w t T C
 sv:SV2 T S
structure Nx (G:List Gx) (V:List Value) (ok:Nat->Prop) (g:Nat) (w:World) (t:TB) (T:List Te) (S:List (Value×Value)) (w':World) (t':TB) (T':List Te) (S':List (Value×Value)):Prop where
 sub:∃ X,T'=T++X
 yY:∀ p∈S,p∈S'
 new:∀ p∈S',p∈S\/∃ (i:Nat) (d:Int),ok i/\p.1=jZ i d
 fr:bg t t' w w'
 pay:T'.length+nW G T' (S'.map (·.1)++V)<=T.length+nW G T (S.map (·.1)++V)+g
theorem Nx.trans {G:List Gx} {V:List Value} {ok:Nat->Prop} {g g':Nat} {w w1 w2:World} {t t1 t2:TB} {T T1 T2:List Te} {S S1 S2:List (Value×Value)} (h:Nx G V ok g w t T S w1 t1 T1 S1) (h':Nx G V ok g' w1 t1 T1 S1 w2 t2 T2 S2):Nx G V ok (g+g') w t T S w2 t2 T2 S2 where
 sub:=by
  obtain ⟨X,e⟩:=h.sub
  obtain ⟨Y,e'⟩:=h'.sub
  exact ⟨X++Y,by rw [e',e,List.append_assoc]⟩
 yY:=fun p hp=>h'.yY p (h.yY p hp)
 new:=fun p hp=>by
  rcases h'.new p hp with q | q
  ·exact h.new p q
  ·exact .inr q
 fr:=h.fr.trans h'.fr
 pay:=by have:=h.pay;have:=h'.pay;omega
theorem Nx.rp {G:List Gx} {V:List Value} {ok:Nat->Prop} {g:Nat} {w w1:World} {t t1:TB} {T T1:List Te} {S S1:List (Value×Value)} (h:Nx G V ok g w t T S w1 t1 T1 S1) {n:Nat} {y:Tm} (hr:Rp T n y):Rp T1 n y:=by
 obtain ⟨X,e⟩:=h.sub
 rw [e];exact hr.mono
theorem Nx.get {G:List Gx} {V:List Value} {ok:Nat->Prop} {g:Nat} {w w1:World} {t t1:TB} {T T1:List Te} {S S1:List (Value×Value)} (h:Nx G V ok g w t T S w1 t1 T1 S1) {n:Nat} {x:Te} (hr:T[n]? = some x):T1[n]? = some x:=by
 obtain ⟨X,e⟩:=h.sub
 rw [e,List.getElem?_append_left (List.getElem?_eq_some_iff.1 hr).1];exact hr
theorem Nx.world {G:List Gx} {V:List Value} {ok:Nat->Prop} {w w':World} {t:TB} {T:List Te} {S:List (Value×Value)} (h:bg t t w w'):Nx G V ok 0 w t T S w' t T S:=
 ⟨⟨[],by simp⟩,fun _ h=>h,fun _ h=>.inl h,h,Nat.le_refl _⟩
theorem Nx.op {B:List Int} {G:List Gx} {V:List Value} {ok:Nat->Prop} {w w':World} {t t':TB} {T:List Te} {S:List (Value×Value)} {R:List Te×Nat} {z:Tm} {g:Nat} (h:Op B T R z g) (hf:bg t t' w w'):Nx G V ok g w t T S w' t' R.1 S:=by
 refine ⟨h.sub,fun _ h=>h,fun _ h=>.inl h,hf,?_⟩
 obtain ⟨X,e⟩:=h.sub
 have h1:=h.len
 have h2:nW G R.1 (S.map (·.1)++V)<=nW G T (S.map (·.1)++V):=by rw [e];exact Jt fun _ h=>h
 omega
theorem Sz.op {B:List Int} {w w':World} {t t':TB} {T:List Te} {S C:List (Value×Value)} {R:List Te×Nat} {z:Tm} {g:Nat} (h:Sz B w t T S C) (ho:Op B T R z g) (ht:Hid (aZ w' t' R.1 (ak R.1) S C)) (hf:Hid (bg t t' w w')):Sz B w' t' R.1 S C:=by
 have hc:=iK.fr (hide h.cv) hf
 obtain ⟨X,e⟩:=ho.sub
 refine ⟨aa ht,ho.ti,?_,?_⟩
 ·rw [e];exact (aa hc).grow
 ·rw [e];exact h.sv.grow
theorem Sz.move {B:List Int} {w w':World} {t:TB} {T:List Te} {S C:List (Value×Value)} (h:Sz B w t T S C) (hm:∀ k,k<w.heap.size->w'.heap[k]? = w.heap[k]?):Sz B w' t T S C:=
 ⟨h.tab.move fun k _ hk=>hm k hk,h.ti,aa (iK.move (hide h.cv) fun k hk _=>hm k hk),h.sv⟩
def BO (B:List Int) (G:List Gx) (V:List Value) (ok:Nat->Prop) (g:Nat) (z:Tm) (w:World) (t:TB) (T:List Te) (S:List (Value×Value)) (e:Ending) (w':World):Prop:=
 ∃ (r:Nat) (t':TB) (T':List Te) (S' C':List (Value×Value)),e=.returned (.int .i64 (r:Int))/\Rp T' r z/\Hid (Sz B w' t' T' S' C')/\Hid (Nx G V ok g w t T S w' t' T' S')
def Jv (B:List Int) (G:List Gx) (n:Nat) (y:Tm) (c:Int):Prop:=
 ∀ (w:World) (t:TB) (T:List Te) (S C:List (Value×Value)) (V:List Value) (d:Int),Rp T n y->aC d=true->Seg y c d->(∀ v∈V,∃ (m:Nat) (d':Int),n<m/\v=jZ m d')->Hid (Sz B w t T S C)->T.length+nW G T (S.map (·.1)++V)<=gW ->
  Calls Tryz.prog 101 #[.pointer (some ⟨t.tb,0,none⟩),.int .i64 n,.int .i32 d] w (BO B G V (fun i=>i<=n) 0 (aG d y) w t T S)
def FZ (B:List Int) (G:List Gx) (n:Nat) (y:Tm) (c:Int) (k:Ky) (f:Nat) (g:Nat):Prop:=
 ∀ (w:World) (t:TB) (T:List Te) (S C:List (Value×Value)) (V:List Value) (d:Int) (b:Bool),Rp T n y->T[n]? = some (k,b)->aC d=true->Seg y c d->(∀ v∈V,∃ (m:Nat) (d':Int),n<=m/\v=jZ m d')->Hid (Sz B w t T S C)->T.length+nW G T (S.map (·.1)++V)+g<=gW ->
  Calls Tryz.prog f #[.pointer (some ⟨t.tb,0,none⟩),iF k,.int .i32 d] w (BO B G V (fun i=>i<n) g (aG d y) w t T S)
end Go.Proofs.YtfolanohokflkaaGreatDoor
namespace Go.Proofs.YtfolanohokflkaaGreatDoor
open Go.RowKit
open Tm (eps)
section
variable {w:World} {t:TB} {T:List Te} {N S C:List (Value×Value)} {k:Ky} {B:List Int} {G:List Gx} {V:List Value} {P:Tm->Prop}
theorem Uw {d:Int} (h:aC d=true):(Lit.int .i32 d).wf=true:=by
 have:=az.1 h
 have h1:IntKind.i32.min<=d:=Int.le_trans (by decide) (show (0:Int)<=d by omega)
 have h2:d<=IntKind.i32.max:=Int.le_trans (show d<=1114111 by omega) (by decide)
 simp [Lit.wf,h1,h2]
theorem aay {y:Tm} {l:List Int} {c:Int} {i:Nat} (hok:fZ y) (h:xG y l) (hc:aC c=true) (hb:Bs l c i i) (hf:¬ (i<l.length/\l.getD i 0=c)):∃ p,i=p+1/\p<l.length/\l.getD p 0∈l/\Seg y c (l.getD p 0):=by
 have hc0:0<=c:=by have:=az.1 hc;omega
 obtain ⟨j,hj,hz⟩:=List.mem_iff_getElem.1 ((h.mem 0).2 (nN hok))
 have hzj:l.getD j 0=0:=by rw [List.getD_eq_getElem?_getD,List.getElem?_eq_getElem hj];exact hz
 cases i with
 | zero=>
  exfalso
  have h1:=hb.hi j (Nat.zero_le _) hj
  have hpos:0<l.length:=by omega
  have h0:=hb.hi 0 (Nat.le_refl _) hpos
  have hm:l.getD 0 0∈l:=by rw [List.getD_eq_getElem?_getD,List.getElem?_eq_getElem hpos];exact List.getElem_mem _
  have hle:l.getD 0 0<=l.getD j 0:=by
   rcases Nat.eq_zero_or_pos j with e | e
   ·rw [e];exact Int.le_refl _
   ·have:=List.pairwise_iff_getElem.1 h.rise 0 j hpos hj e
    rw [List.getD_eq_getElem?_getD,List.getElem?_eq_getElem hpos,List.getD_eq_getElem?_getD,List.getElem?_eq_getElem hj]
    exact Int.le_of_lt this
  exact hf ⟨hpos,by omega⟩
 | succ p=>
  have hp:p<l.length:=by have:=hb.ln;omega
  have hm:l.getD p 0∈l:=by rw [List.getD_eq_getElem?_getD,List.getElem?_eq_getElem hp];exact List.getElem_mem _
  refine ⟨p,rfl,hp,hm,h.Gj (Int.le_of_lt (hb.lo p (Nat.lt_succ_self p))) fun b hbm hbc=>?_⟩
  obtain ⟨q,hq,rfl⟩:=List.mem_iff_getElem.1 hbm
  have e1:l.getD p 0=l[p]:=by rw [List.getD_eq_getElem?_getD,List.getElem?_eq_getElem hp];rfl
  have e2:l.getD q 0=l[q]:=by rw [List.getD_eq_getElem?_getD,List.getElem?_eq_getElem hq];rfl
  rw [e1]
  rcases Nat.lt_trichotomy q p with h1 | h1 | h1
  ·exact Int.le_of_lt (List.pairwise_iff_getElem.1 h.rise q p hq hp h1)
  ·subst h1;exact Int.le_refl _
  ·have h2:=hb.hi q h1 hq
   rw [e2] at h2
   have he:c=l[q]:=by omega
   have hq2:q=p+1:=by
    rcases Nat.lt_or_ge (p+1) q with h3 | h3
    ·have h4:=List.pairwise_iff_getElem.1 h.rise (p+1) q (by omega) hq h3
     have h5:=hb.hi (p+1) (Nat.le_refl _) (by omega)
     rw [List.getD_eq_getElem?_getD,List.getElem?_eq_getElem (by omega)] at h5
     have h6:c<=l[p+1]:=h5
     omega
    ·omega
   exact absurd ⟨by omega,by rw [<-hq2,e2];exact he.symm⟩ hf
theorem XQ {n m:Nat} {d d':Int} (h:jZ n d=jZ m d'):n=m:=(wB h).1
theorem N9 (hT:TI B T) {n gg:Nat} {y:Tm} {c d:Int} (hr:Rp T n y) (hd:rG y d) (hs:Seg y c d) (hm:∀ p∈S,p.1≠jZ n d) (hv:∀ v∈V,∃ (m:Nat) (d':Int),n<m/\v=jZ m d') (hp:gg=0\/∃ k,((y,c),k)∈G/\gg<=k) :
  nW G T (S.map (·.1)++jZ n d::V)+gg<=nW G T (S.map (·.1)++V):=by
 have hsub:∀ v∈S.map (·.1)++V,v∈S.map (·.1)++jZ n d::V:=fun v hv=>by
  rcases List.mem_append.1 hv with q | q
  ·exact List.mem_append_left _ q
  ·exact List.mem_append_right _ (List.mem_cons_of_mem _ q)
 rcases hp with e | ⟨k,hk,hle⟩
 ·rw [e];exact Ju hsub
 ·have:=XP hk (Uv hT hr hd hs (K:=S.map (·.1)++V) (fun q=>by
   rcases List.mem_append.1 q with q | q
   ·obtain ⟨p,hp,e⟩:=List.mem_map.1 q
    exact hm p hp e
   ·obtain ⟨m,d',h1,h2⟩:=hv _ q
    have:=XQ h2
    omega)) ⟨n,d,hr,hd,hs,List.mem_append_right _ (List.mem_cons_self ..)⟩ hsub
  omega
theorem N_ {w0 w w1 w2:World} {t0 t1:TB} {T1:List Te} {S1:List (Value×Value)} {n gg:Nat} {d:Int} {r:Value} (h:Nx G (jZ n d::V) (fun i=>i<n) gg w t T S w1 t1 T1 S1) (hf:bg t0 t1 w0 w2) (hp:nW G T (S.map (·.1)++jZ n d::V)+gg<=nW G T (S.map (·.1)++V)):Nx G V (fun i=>i<=n) 0 w0 t0 T S w2 t1 T1 (S1++[(jZ n d,r)]) where
 sub:=h.sub
 yY:=fun p hp=>List.mem_append_left _ (h.yY p hp)
 new:=fun p hp=>by
  rcases List.mem_append.1 hp with q | q
  ·rcases h.new p q with q | ⟨i,d',q1,q2⟩
   ·exact .inl q
   ·exact .inr ⟨i,d',Nat.le_of_lt q1,q2⟩
  ·rw [List.mem_singleton] at q
   exact .inr ⟨n,d,Nat.le_refl _,by rw [q]⟩
 fr:=hf
 pay:=by
  have h1:=h.pay
  have h2:nW G T1 ((S1++[(jZ n d,r)]).map (·.1)++V)<=nW G T1 (S1.map (·.1)++jZ n d::V):=Ju fun v hv=>by
   rw [List.map_append]
   rcases List.mem_append.1 hv with q | q
   ·exact List.mem_append_left _ (List.mem_append_left _ q)
   ·rcases List.mem_cons.1 q with q | q
    ·exact List.mem_append_left _ (List.mem_append_right _ (by simp [q]))
    ·exact List.mem_append_right _ q
  omega
set_option maxRecDepth 100000 in
set_option maxHeartbeats 4000000 in
theorem jm {n m f gg:Nat} {b:Bool} {c d0:Int} {y:Tm} (hB:B.length<=480) (hP:Fw P) (hy:P y) (hr:Rp T n y) (hx:T[n]? = some (k,b)) (aaz:aC d0=true) (hsg:Seg y c d0) (hvn:∀ v∈V,∃ (m:Nat) (d':Int),n<m/\v=jZ m d') (h:Hid (Sz B w t T S C)) (hlim:T.length+nW G T (S.map (·.1)++V)<=gW) (hpay:gg=0\/∃ k,((y,c),k)∈G/\gg<=k) (hkd:k.kd=(m:Int)) (ZZ:m<7) (hcell:dN[m*3+1]? = some (fv f))
  (hcf:∀ (args:Array Value) (w:World),(callFunc f args).run Tryz.prog w=.ok (.enter f args) w) (HF:Hid (FZ B G n y c k f gg)) :
  Calls Tryz.prog 101 #[.pointer (some ⟨t.tb,0,none⟩),.int .i64 n,.int .i32 d0] w (BO B G V (fun i=>i<=n) 0 (aG d0 y) w t T S):=by
 have hTI:=(aa h).ti
 have hn:n<=gW:=by have:=hr.lt;omega
 have hcn:=hTI.cn hr
 have HTI:=hide hTI
 have C9:=hide (Js hTI hB (by omega) hP hr hy (hide (aa h).tab) (hide (aa h).cv))
 have HR:=hide hr
 have HV:=hide (aa h).sv
 have HVN:=hide hvn
 have HSG:=hide hsg
 have HOK:=hide hcn.ok
 have ab1:∀ l,xG y l->l.length<=481:=fun l hl=>by have:=hl.len hcn.ok (hTI.sin n y hr);omega
 clear hTI hr hvn hsg hcn h hy hB
 go_enter Tryz.func101,Tryz.ntmps101
 go_wp2_with (go_at_call 125;refine (aa C9).mono ?_;clear C9;rintro x w1 ⟨l,g,cap,C1,rfl,hcl,Jd,HT1,Kq,qI,hk1,ha1⟩;have hlen:=ab1 l hcl;have Ux:=hide hcl;have HBS:=hide (Fy w1 g l.length cap l d0 (by omega) (hide (aa Jd).rn) (hide hcl.rise));clear hcl hk1 ha1)
 refine (aa HBS).mono ?_
 clear HBS
 rintro x w2 ⟨i,rfl,HB2,HBs⟩
 by_cases hfd:i<l.length/\l.getD i 0=d0
 ·rw [decide_eq_true hfd]
  have hiI:(i:Int)<(l.length:Int):=by omega
  have hi0:(0:Int)<=(i:Int):=by omega
  have c1:=((aa (kP.below Jd (aa HB2))).rn.get hfd.1).1
  have Mk:l.getD i 0∈l:=by rw [List.getD_eq_getElem?_getD,List.getElem?_eq_getElem hfd.1];exact List.getElem_mem _
  have BN:Seg y d0 (l.getD i 0):=by rw [hfd.2];exact Seg.refl _ _
  obtain ⟨d,hd⟩:∃ d,l.getD i 0=d:=⟨_,rfl⟩
  rw [hd] at c1 Mk BN
  have HDL:=Mk
  have Ml:=BN
  clear Mk BN hd
  have hsl:aC d=true:=mG (aa HOK) ((aa Ux).mem d |>.1 HDL)
  have Uy:rG y d:=((aa Ux).mem d).1 HDL
  have hwf:(Lit.int .i32 d).wf=true:=Uw hsl
  have Uz:Hid (aG d y=aG d0 y):=ou hsl aaz _ (Nat.le_refl _) (aa HOK) Ml.symm
  have HSC:Hid (Seg y c d):=(aa HSG).trans Ml
  have Y_:=hide Uy
  have XK:=hide hsl
  clear hsl Uy HDL Ml
  have HT2:=aZ.below HT1 (aa HB2)
  have wJ:=iK.move Kq (fun k hk _=>(aa HB2).block k hk)
  have QI:=aZ.alloc HT2 (.cells #[.int .i64 n,.int .i32 d] 227)
  have HCd:=iK.move (w':=w2.alloc (.cells #[.int .i64 n,.int .i32 d] 227)) wJ (fun k hk _=>Below.heap_alloc w2 _ k hk)
  have HFd:Hid (bg t t w (w2.alloc (.cells #[.int .i64 n,.int .i32 d] 227))):=((aa qI).trans (bg.below (aa HB2))).trans (bg.below ((Below.refl _ _).alloc (Nat.le_refl _) _))
  obtain ⟨q1,q2,q3,q4⟩:=(aa QI).cells
  have Kv:=hide (heap_alloc_new w2 (.cells #[.int .i64 n,.int .i32 d] 227))
  have HFT:Hid (∀ k,TF t k->k<w2.heap.size):=fun k hk=>(aa HT2).foot hk
  clear HT1 Kq HT2 wJ qI
  dsimp only
  by_cases hit:∃ p∈S,p.1=jZ n d
  ·obtain ⟨p,hp,hpn⟩:=hit
   obtain ⟨n',d',r,y',e,h1,h2,h3,h4⟩:=(aa HV).2 p hp
   rw [e] at hpn
   obtain ⟨rfl,rfl⟩:=wB hpn
   obtain ⟨j,hj⟩:=List.mem_iff_getElem?.1 hp
   rw [e] at hj
   have hlk:=fun q=>uR sK Tryz.underlying127 ((aa QI).drew q).sb (aa HV).keys (Mj hn hwf) (aa HV).1 hj
   unfold jZ at hlk
   have UA:=hlk 0
   rw [h3.uniq (aa HR),aa Uz] at h4
   have XR:=hide h4
   clear h1 h2 h3 h4 e hp hpn hj q2
   go_wp2_with fail
   go_quiet (fail)
   go_wp2_with fail
   go_ret
   exact ⟨r,t,T,S,C1,rfl,aa XR,⟨(aa QI).drew nq,aa HTI,aa (iK.move HCd (fun _ _ _=>rfl)),aa HV⟩,Nx.world (bg.drewN (aa HFd) nq)⟩
  ·have hmiss:∀ p∈S,p.1≠jZ n d:=fun p hp e=>hit ⟨p,hp,e⟩
   have hlk:=fun q=>rX sK Tryz.underlying127 ((aa QI).drew q).sb (aa HV).keys (Mj hn hwf) hmiss (z:=.int .i64 0) (by simp [go_sem])
   unfold jZ at hlk
   have UA:=hlk 0
   have Jw:=N9 (aa HTI) (aa HR) (aa Y_) (aa HSC) hmiss (aa HVN) hpay
   have aaA:=hide Jw
   have HVV:Hid (∀ v∈jZ n d::V,∃ (m:Nat) (d':Int),n<=m/\v=jZ m d'):=fun v hv=>by
    rcases List.mem_cons.1 hv with q | q
    ·exact ⟨n,d,Nat.le_refl _,q⟩
    ·obtain ⟨m',d',q1,q2⟩:=aa HVN v q
     exact ⟨m',d',by omega,q2⟩
   have Jy:T.length+nW G T (S.map (·.1)++jZ n d::V)+gg<=gW:=by omega
   have UB:=hide Jy
   clear Jy Jw
   obtain ⟨kd,st,fi,se⟩:=k
   dsimp only at hkd
   subst hkd
   have hlt:n<T.length:=(List.getElem?_eq_some_iff.1 hx).1
   have hnI:(n:Int)<(T.length:Int):=by omega
   have hn0:(0:Int)<=(n:Int):=by omega
   have hm0:(0:Int)<=(m:Int):=by omega
   have YI:(m:Int)<7:=by omega
   have UC:¬ TF t w2.heap.size:=fun hf=>absurd (aa HFT _ hf) (Nat.lt_irrefl _)
   clear q2 hit ZZ
   go_wp2_with fail
   go_quiet (fail)
   have Pm:=hide ((aa QI).drew nq)
   have HCq:Hid (iK ((w2.alloc (.cells #[.int .i64 n,.int .i32 d] 227)).drewN nq) t T C1):=iK.move HCd (fun _ _ _=>rfl)
   have HFq:Hid (bg t t w ((w2.alloc (.cells #[.int .i64 n,.int .i32 d] 227)).drewN nq)):=bg.drewN (aa HFd) nq
   have VM:Hid (((w2.alloc (.cells #[.int .i64 n,.int .i32 d] 227)).drewN nq).heap[w2.heap.size]? = some (.cells #[.int .i64 n,.int .i32 d] 227)):=aa Kv
   clear hlk UA q1 q3 q4 QI HCd HFd Kv
   generalize (w2.alloc (.cells #[.int .i64 n,.int .i32 d] 227)).drewN nq=Wq at *
   generalize w2.heap.size=Rq at *
   obtain ⟨gt,q5,a0,a1,a2,a3,-⟩:=(aa Pm).at hx
   dsimp only at a0 a1 a2 a3
   have HTk:=aZ.alloc Pm (.cells #[.int .i64 m,.string st,.int .i64 fi,.int .i64 se] 135)
   have HCk:=iK.move (w':=Wq.alloc (.cells #[.int .i64 m,.string st,.int .i64 fi,.int .i64 se] 135)) HCq (fun k hk _=>Below.heap_alloc Wq _ k hk)
   have HFk:Hid (bg t t w (Wq.alloc (.cells #[.int .i64 m,.string st,.int .i64 fi,.int .i64 se] 135))):=(aa HFq).trans (bg.below ((Below.refl _ _).alloc (Nat.le_refl _) _))
   have hsq:Rq<Wq.heap.size:=(Array.getElem?_eq_some_iff.1 (aa VM)).1
   have XT:Hid ((Wq.alloc (.cells #[.int .i64 m,.string st,.int .i64 fi,.int .i64 se] 135)).heap[Rq]? = some (.cells #[.int .i64 n,.int .i32 d] 227)):=(Below.heap_alloc Wq _ Rq hsq).trans (aa VM)
   have HKk:=hide (heap_alloc_new Wq (.cells #[.int .i64 m,.string st,.int .i64 fi,.int .i64 se] 135))
   have UD:¬ TF t Wq.heap.size:=aZ.dW Pm (Nat.le_refl _)
   have qC:Wq.heap.size<(Wq.alloc (.cells #[.int .i64 m,.string st,.int .i64 fi,.int .i64 se] 135)).heap.size:=by simp
   have NN:=hide (fun q=>aa HF ((Wq.alloc (.cells #[.int .i64 m,.string st,.int .i64 fi,.int .i64 se] 135)).drewN q) t T S C1 (jZ n d::V) d b (aa HR) hx (aa XK) (aa HSC) (aa HVV) (hide ⟨(aa HTk).drew q,aa HTI,aa (iK.move HCk (fun _ _ _=>rfl)),aa HV⟩) (aa UB))
   unfold iF at NN
   dsimp only at NN
   have qk:=(aa HTk).kind hcell
   have Jc:=hide hcell
   go_wp2_with fail
   clear Pm HCq HFq VM q5 a0 a1 a2 a3 hcell
   generalize Wq.alloc (.cells #[.int .i64 m,.string st,.int .i64 fi,.int .i64 se] 135)=Wk at *
   generalize Wq.heap.size=kb at *
   obtain ⟨k0,k1,k2,k3⟩:=bO (aa HKk)
   obtain ⟨s0,s1⟩:=wC (aa XT)
   have aaB:Rq<Wk.heap.size:=(Array.getElem?_eq_some_iff.1 (aa XT)).1
   go_region_held3 (fun w'=>w'.cell? ⟨kb,0,none⟩=some (.int .i64 m)/\w'.cell? ⟨kb,1,none⟩=some (.string st)/\w'.cell? ⟨kb,2,none⟩=some (.int .i64 fi)/\w'.cell? ⟨kb,3,none⟩=some (.int .i64 se)/\w'.cell? ⟨Rq,1,none⟩=some (.int .i32 d)/\w'.cell? ⟨t.tb,m*3+1,none⟩=some (fv f)) (go_keep)
    ((refine Calls.mono (aa NN 1) ?_;clear NN;rintro x w4 ⟨r,t3,T3,S3,C3,rfl,hbr,C_,mJ⟩;have uG:Hid (bg t t3 (Wk.drewN 1) w4):=(aa mJ).fr;have HT3:Hid (aZ w4 t3 T3 (ak T3) S3 C3):=(aa C_).tab;obtain ⟨u0,u1,u2,u3⟩:=bO (bg.own uG qC UD (aa HKk));have UE:=hide (bg.own uG aaB UC (aa XT));obtain ⟨v0,v1⟩:=wC (aa UE);have rk:=(aa HT3).kind (aa Jc);rw [(aa uG).tb] at rk;obtain ⟨p1,p2,p3,p4⟩:=(aa HT3).cells;rw [(aa uG).tb] at p1 p2 p3 p4))
   have uK:∀ p∈S3,p.1≠jZ n d:=fun p hp e=>by
    rcases (aa mJ).new p hp with h1 | ⟨i,d2,hi,h1⟩
    ·exact hmiss p h1 e
    ·have:=(wB (h1.symm.trans e)).1
     omega
   have yx:Hid (aZ w4.drew t3 T3 (ak T3) S3 C3):=(aa HT3).drew 1
   have hup:=uS sK Tryz.underlying127 (aa yx).sb (aa C_).sv.keys (Mj hn hwf) uK (.int .i64 (r:Int))
   have qD:=hide ((aa yx).stepped (S3++[(jZ n d,.int .i64 (r:Int))]))
   have aaC:TF t3 t3.sb:=.inr (.inr (.inl rfl))
   have HC5:Hid (iK (ChangeMaps.setBlock (w4.drew) t3.sb (mkMap (S3++[(jZ n d,.int .i64 (r:Int))]))) t3 T3 C3):=iK.move (hide (aa C_).cv) fun k hk hf=>bQ (w:=w4.drew) (fun e=>hf (by rw [e];exact aaC))
   have HV5:=hide ((aa C_).sv.add hn hwf ((aa mJ).rp (aa HR)) hbr uK)
   have hf3:=aa uG
   have Un:Hid (bg t t3 w w4):=(aa HFk).trans ⟨hf3.os,hf3.tape,hf3.output,hf3.size,hf3.block,hf3.tb,hf3.nb,hf3.sb,hf3.cb,hf3.row⟩
   have yZ:=aa Un
   have KH:Hid (bg t t3 w (ChangeMaps.setBlock (w4.drew) t3.sb (mkMap (S3++[(jZ n d,.int .i64 (r:Int))])))):=⟨yZ.os,yZ.tape,yZ.output,by rw [uW];exact yZ.size,fun k hk hf=>(bQ (w:=w4.drew) (fun e=>hf (by rw [e,yZ.sb];exact .inr (.inr (.inl rfl))))).trans (yZ.block k hk hf),yZ.tb,yZ.nb,yZ.sb,yZ.cb,yZ.row⟩
   have HN5:Hid (Nx G V (fun i=>i<=n) 0 w t T S (ChangeMaps.setBlock (w4.drew) t3.sb (mkMap (S3++[(jZ n d,.int .i64 (r:Int))]))) t3 T3 (S3++[(jZ n d,.int .i64 (r:Int))])):=N_ (aa mJ) (aa KH) (aa aaA)
   rw [aa Uz] at hbr
   have XR:=hide hbr
   have aaD:=hide (aa C_).ti
   generalize hS5:mkMap (S3++[(jZ n d,.int .i64 (r:Int))])=S5 at *
   generalize hSS:S3++[(jZ n d,Value.int .i64 (r:Int))]=SS at *
   unfold jZ at hup
   clear hmiss uK hf3 yZ C_ mJ HT3 yx uG HKk XT UE k0 k1 k2 k3 s0 s1 u0 u1 u2 u3 rk qk hS5 hSS hbr
   go_wp2_with fail
   go_region
   go_wp2_with fail
   go_ret
   exact ⟨r,t3,T3,SS,C3,rfl,aa XR,⟨aa qD,aa aaD,aa HC5,aa HV5⟩,HN5⟩
 ·rw [decide_eq_false hfd]
  obtain ⟨p,rfl,hp,Mk,BN⟩:=aay (aa HOK) (aa Ux) aaz (aa HBs) hfd
  have hiI:(p:Int)<(l.length:Int):=by omega
  have hi0:(0:Int)<=(p:Int):=by omega
  have hwr:IntKind.i64.wrap (((p+1:Nat):Int) - 1)=(p:Int):=by simp [IntKind.wrap,IntKind.bits,IntKind.signed];omega
  have c1:=((aa (kP.below Jd (aa HB2))).rn.get hp).1
  obtain ⟨d,hd⟩:∃ d,l.getD p 0=d:=⟨_,rfl⟩
  rw [hd] at c1 Mk BN
  have HDL:=Mk
  have Ml:=BN
  clear Mk BN hd
  have hsl:aC d=true:=mG (aa HOK) ((aa Ux).mem d |>.1 HDL)
  have Uy:rG y d:=((aa Ux).mem d).1 HDL
  have hwf:(Lit.int .i32 d).wf=true:=Uw hsl
  have Uz:Hid (aG d y=aG d0 y):=ou hsl aaz _ (Nat.le_refl _) (aa HOK) Ml.symm
  have HSC:Hid (Seg y c d):=(aa HSG).trans Ml
  have Y_:=hide Uy
  have XK:=hide hsl
  clear hsl Uy HDL Ml
  have HT2:=aZ.below HT1 (aa HB2)
  have wJ:=iK.move Kq (fun k hk _=>(aa HB2).block k hk)
  have QI:=aZ.alloc HT2 (.cells #[.int .i64 n,.int .i32 d] 227)
  have HCd:=iK.move (w':=w2.alloc (.cells #[.int .i64 n,.int .i32 d] 227)) wJ (fun k hk _=>Below.heap_alloc w2 _ k hk)
  have HFd:Hid (bg t t w (w2.alloc (.cells #[.int .i64 n,.int .i32 d] 227))):=((aa qI).trans (bg.below (aa HB2))).trans (bg.below ((Below.refl _ _).alloc (Nat.le_refl _) _))
  obtain ⟨q1,q2,q3,q4⟩:=(aa QI).cells
  have Kv:=hide (heap_alloc_new w2 (.cells #[.int .i64 n,.int .i32 d] 227))
  have HFT:Hid (∀ k,TF t k->k<w2.heap.size):=fun k hk=>(aa HT2).foot hk
  clear HT1 Kq HT2 wJ qI
  dsimp only
  by_cases hit:∃ p∈S,p.1=jZ n d
  ·obtain ⟨p,hp,hpn⟩:=hit
   obtain ⟨n',d',r,y',e,h1,h2,h3,h4⟩:=(aa HV).2 p hp
   rw [e] at hpn
   obtain ⟨rfl,rfl⟩:=wB hpn
   obtain ⟨j,hj⟩:=List.mem_iff_getElem?.1 hp
   rw [e] at hj
   have hlk:=fun q=>uR sK Tryz.underlying127 ((aa QI).drew q).sb (aa HV).keys (Mj hn hwf) (aa HV).1 hj
   unfold jZ at hlk
   have UA:=hlk 0
   rw [h3.uniq (aa HR),aa Uz] at h4
   have XR:=hide h4
   clear h1 h2 h3 h4 e hp hpn hj q2
   go_wp2_with fail
   go_quiet (fail)
   go_wp2_with fail
   go_ret
   exact ⟨r,t,T,S,C1,rfl,aa XR,⟨(aa QI).drew nq,aa HTI,aa (iK.move HCd (fun _ _ _=>rfl)),aa HV⟩,Nx.world (bg.drewN (aa HFd) nq)⟩
  ·have hmiss:∀ p∈S,p.1≠jZ n d:=fun p hp e=>hit ⟨p,hp,e⟩
   have hlk:=fun q=>rX sK Tryz.underlying127 ((aa QI).drew q).sb (aa HV).keys (Mj hn hwf) hmiss (z:=.int .i64 0) (by simp [go_sem])
   unfold jZ at hlk
   have UA:=hlk 0
   have Jw:=N9 (aa HTI) (aa HR) (aa Y_) (aa HSC) hmiss (aa HVN) hpay
   have aaA:=hide Jw
   have HVV:Hid (∀ v∈jZ n d::V,∃ (m:Nat) (d':Int),n<=m/\v=jZ m d'):=fun v hv=>by
    rcases List.mem_cons.1 hv with q | q
    ·exact ⟨n,d,Nat.le_refl _,q⟩
    ·obtain ⟨m',d',q1,q2⟩:=aa HVN v q
     exact ⟨m',d',by omega,q2⟩
   have Jy:T.length+nW G T (S.map (·.1)++jZ n d::V)+gg<=gW:=by omega
   have UB:=hide Jy
   clear Jy Jw
   obtain ⟨kd,st,fi,se⟩:=k
   dsimp only at hkd
   subst hkd
   have hlt:n<T.length:=(List.getElem?_eq_some_iff.1 hx).1
   have hnI:(n:Int)<(T.length:Int):=by omega
   have hn0:(0:Int)<=(n:Int):=by omega
   have hm0:(0:Int)<=(m:Int):=by omega
   have YI:(m:Int)<7:=by omega
   have UC:¬ TF t w2.heap.size:=fun hf=>absurd (aa HFT _ hf) (Nat.lt_irrefl _)
   clear q2 hit ZZ
   go_wp2_with fail
   go_quiet (fail)
   have Pm:=hide ((aa QI).drew nq)
   have HCq:Hid (iK ((w2.alloc (.cells #[.int .i64 n,.int .i32 d] 227)).drewN nq) t T C1):=iK.move HCd (fun _ _ _=>rfl)
   have HFq:Hid (bg t t w ((w2.alloc (.cells #[.int .i64 n,.int .i32 d] 227)).drewN nq)):=bg.drewN (aa HFd) nq
   have VM:Hid (((w2.alloc (.cells #[.int .i64 n,.int .i32 d] 227)).drewN nq).heap[w2.heap.size]? = some (.cells #[.int .i64 n,.int .i32 d] 227)):=aa Kv
   clear hlk UA q1 q3 q4 QI HCd HFd Kv
   generalize (w2.alloc (.cells #[.int .i64 n,.int .i32 d] 227)).drewN nq=Wq at *
   generalize w2.heap.size=Rq at *
   obtain ⟨gt,q5,a0,a1,a2,a3,-⟩:=(aa Pm).at hx
   dsimp only at a0 a1 a2 a3
   have HTk:=aZ.alloc Pm (.cells #[.int .i64 m,.string st,.int .i64 fi,.int .i64 se] 135)
   have HCk:=iK.move (w':=Wq.alloc (.cells #[.int .i64 m,.string st,.int .i64 fi,.int .i64 se] 135)) HCq (fun k hk _=>Below.heap_alloc Wq _ k hk)
   have HFk:Hid (bg t t w (Wq.alloc (.cells #[.int .i64 m,.string st,.int .i64 fi,.int .i64 se] 135))):=(aa HFq).trans (bg.below ((Below.refl _ _).alloc (Nat.le_refl _) _))
   have hsq:Rq<Wq.heap.size:=(Array.getElem?_eq_some_iff.1 (aa VM)).1
   have XT:Hid ((Wq.alloc (.cells #[.int .i64 m,.string st,.int .i64 fi,.int .i64 se] 135)).heap[Rq]? = some (.cells #[.int .i64 n,.int .i32 d] 227)):=(Below.heap_alloc Wq _ Rq hsq).trans (aa VM)
   have HKk:=hide (heap_alloc_new Wq (.cells #[.int .i64 m,.string st,.int .i64 fi,.int .i64 se] 135))
   have UD:¬ TF t Wq.heap.size:=aZ.dW Pm (Nat.le_refl _)
   have qC:Wq.heap.size<(Wq.alloc (.cells #[.int .i64 m,.string st,.int .i64 fi,.int .i64 se] 135)).heap.size:=by simp
   have NN:=hide (fun q=>aa HF ((Wq.alloc (.cells #[.int .i64 m,.string st,.int .i64 fi,.int .i64 se] 135)).drewN q) t T S C1 (jZ n d::V) d b (aa HR) hx (aa XK) (aa HSC) (aa HVV) (hide ⟨(aa HTk).drew q,aa HTI,aa (iK.move HCk (fun _ _ _=>rfl)),aa HV⟩) (aa UB))
   unfold iF at NN
   dsimp only at NN
   have qk:=(aa HTk).kind hcell
   have Jc:=hide hcell
   go_wp2_with fail
   clear Pm HCq HFq VM q5 a0 a1 a2 a3 hcell
   generalize Wq.alloc (.cells #[.int .i64 m,.string st,.int .i64 fi,.int .i64 se] 135)=Wk at *
   generalize Wq.heap.size=kb at *
   obtain ⟨k0,k1,k2,k3⟩:=bO (aa HKk)
   obtain ⟨s0,s1⟩:=wC (aa XT)
   have aaB:Rq<Wk.heap.size:=(Array.getElem?_eq_some_iff.1 (aa XT)).1
   go_region_held3 (fun w'=>w'.cell? ⟨kb,0,none⟩=some (.int .i64 m)/\w'.cell? ⟨kb,1,none⟩=some (.string st)/\w'.cell? ⟨kb,2,none⟩=some (.int .i64 fi)/\w'.cell? ⟨kb,3,none⟩=some (.int .i64 se)/\w'.cell? ⟨Rq,1,none⟩=some (.int .i32 d)/\w'.cell? ⟨t.tb,m*3+1,none⟩=some (fv f)) (go_keep)
    ((refine Calls.mono (aa NN 1) ?_;clear NN;rintro x w4 ⟨r,t3,T3,S3,C3,rfl,hbr,C_,mJ⟩;have uG:Hid (bg t t3 (Wk.drewN 1) w4):=(aa mJ).fr;have HT3:Hid (aZ w4 t3 T3 (ak T3) S3 C3):=(aa C_).tab;obtain ⟨u0,u1,u2,u3⟩:=bO (bg.own uG qC UD (aa HKk));have UE:=hide (bg.own uG aaB UC (aa XT));obtain ⟨v0,v1⟩:=wC (aa UE);have rk:=(aa HT3).kind (aa Jc);rw [(aa uG).tb] at rk;obtain ⟨p1,p2,p3,p4⟩:=(aa HT3).cells;rw [(aa uG).tb] at p1 p2 p3 p4))
   have uK:∀ p∈S3,p.1≠jZ n d:=fun p hp e=>by
    rcases (aa mJ).new p hp with h1 | ⟨i,d2,hi,h1⟩
    ·exact hmiss p h1 e
    ·have:=(wB (h1.symm.trans e)).1
     omega
   have yx:Hid (aZ w4.drew t3 T3 (ak T3) S3 C3):=(aa HT3).drew 1
   have hup:=uS sK Tryz.underlying127 (aa yx).sb (aa C_).sv.keys (Mj hn hwf) uK (.int .i64 (r:Int))
   have qD:=hide ((aa yx).stepped (S3++[(jZ n d,.int .i64 (r:Int))]))
   have aaC:TF t3 t3.sb:=.inr (.inr (.inl rfl))
   have HC5:Hid (iK (ChangeMaps.setBlock (w4.drew) t3.sb (mkMap (S3++[(jZ n d,.int .i64 (r:Int))]))) t3 T3 C3):=iK.move (hide (aa C_).cv) fun k hk hf=>bQ (w:=w4.drew) (fun e=>hf (by rw [e];exact aaC))
   have HV5:=hide ((aa C_).sv.add hn hwf ((aa mJ).rp (aa HR)) hbr uK)
   have hf3:=aa uG
   have Un:Hid (bg t t3 w w4):=(aa HFk).trans ⟨hf3.os,hf3.tape,hf3.output,hf3.size,hf3.block,hf3.tb,hf3.nb,hf3.sb,hf3.cb,hf3.row⟩
   have yZ:=aa Un
   have KH:Hid (bg t t3 w (ChangeMaps.setBlock (w4.drew) t3.sb (mkMap (S3++[(jZ n d,.int .i64 (r:Int))])))):=⟨yZ.os,yZ.tape,yZ.output,by rw [uW];exact yZ.size,fun k hk hf=>(bQ (w:=w4.drew) (fun e=>hf (by rw [e,yZ.sb];exact .inr (.inr (.inl rfl))))).trans (yZ.block k hk hf),yZ.tb,yZ.nb,yZ.sb,yZ.cb,yZ.row⟩
   have HN5:Hid (Nx G V (fun i=>i<=n) 0 w t T S (ChangeMaps.setBlock (w4.drew) t3.sb (mkMap (S3++[(jZ n d,.int .i64 (r:Int))]))) t3 T3 (S3++[(jZ n d,.int .i64 (r:Int))])):=N_ (aa mJ) (aa KH) (aa aaA)
   rw [aa Uz] at hbr
   have XR:=hide hbr
   have aaD:=hide (aa C_).ti
   generalize hS5:mkMap (S3++[(jZ n d,.int .i64 (r:Int))])=S5 at *
   generalize hSS:S3++[(jZ n d,Value.int .i64 (r:Int))]=SS at *
   unfold jZ at hup
   clear hmiss uK hf3 yZ C_ mJ HT3 yx uG HKk XT UE k0 k1 k2 k3 s0 s1 u0 u1 u2 u3 rk qk hS5 hSS hbr
   go_wp2_with fail
   go_region
   go_wp2_with fail
   go_ret
   exact ⟨r,t3,T3,SS,C3,rfl,aa XR,⟨aa qD,aa aaD,aa HC5,aa HV5⟩,HN5⟩
end
end Go.Proofs.YtfolanohokflkaaGreatDoor
namespace Go.Proofs.YtfolanohokflkaaGreatDoor
open Go.RowKit
open Tm (eps)
section
variable {w W:World} {t:TB} {T:List Te} {N S C:List (Value×Value)} {k:Ky} {B:List Int} {G:List Gx} {V:List Value} {P:Tm->Prop}
theorem BO.lift {ok ok':Nat->Prop} {g:Nat} {z:Tm} {e:Ending} {w':World} (h:BO B G V ok g z W t T S e w') (hf:bg t t w W) (hok:∀ i,ok i->ok' i):BO B G V ok' g z w t T S e w':=by
 obtain ⟨r,t',T',S',C',h1,h2,h3,h4⟩:=h
 refine ⟨r,t',T',S',C',h1,h2,h3,?_⟩
 have h5:=aa h4
 exact ⟨h5.sub,h5.yY,fun p hp=>(h5.new p hp).elim .inl fun ⟨i,d,q1,q2⟩=>.inr ⟨i,d,hok i q1,q2⟩,hf.trans h5.fr,h5.pay⟩
theorem Nx.ok {ok ok':Nat->Prop} {g:Nat} {w':World} {t':TB} {T':List Te} {S':List (Value×Value)} (h5:Nx G V ok g w t T S w' t' T' S') (hok:∀ i,ok i->ok' i):Nx G V ok' g w t T S w' t' T' S':=
 ⟨h5.sub,h5.yY,fun p hp=>(h5.new p hp).elim .inl fun ⟨i,d,q1,q2⟩=>.inr ⟨i,d,hok i q1,q2⟩,h5.fr,h5.pay⟩
theorem BO.then {ok:Nat->Prop} {g g':Nat} {z:Tm} {e:Ending} {w1 w':World} {t1:TB} {T1:List Te} {S1:List (Value×Value)} (h0:Nx G V ok g w t T S w1 t1 T1 S1) (h:BO B G V ok g' z w1 t1 T1 S1 e w'):BO B G V ok (g+g') z w t T S e w':=by
 obtain ⟨r,t',T',S',C',h1,h2,h3,h4⟩:=h
 exact ⟨r,t',T',S',C',h1,h2,h3,h0.trans (aa h4)⟩
theorem BO.less {ok:Nat->Prop} {g g':Nat} {z:Tm} {e:Ending} {w':World} (h:BO B G V ok g z w t T S e w') (hg:g<=g'):BO B G V ok g' z w t T S e w':=by
 obtain ⟨r,t',T',S',C',h1,h2,h3,h4⟩:=h
 have h5:=aa h4
 exact ⟨r,t',T',S',C',h1,h2,h3,⟨h5.sub,h5.yY,h5.new,h5.fr,by have:=h5.pay;omega⟩⟩
theorem BO.of {ok:Nat->Prop} {g:Nat} {z:Tm} {e:Ending} {w':World} {R:List Te×Nat} (h:Hid (Sz B w t T S C)) (ho:Op B T R z g) (ht:EJ R w t S C e w'):BO B G V ok g z w t T S e w':=by
 obtain ⟨rfl,t',h1,h2⟩:=ht
 exact ⟨R.2,t',R.1,S,C,rfl,ho.rp,(aa h).op ho h1 h2,Nx.op ho (aa h2)⟩
theorem Za {n:Nat} {y:Tm} (h:Rp T n y) {x:Te} (hx:T[n]? = some x):0<=x.1.fi:=by
 cases h with
 | set h _=>rw [h] at hx;cases hx;exact Int.le_refl _
 | eps h=>rw [h] at hx;cases hx;exact Int.le_refl _
 | chain h _ _=>rw [h] at hx;cases hx;exact Int.natCast_nonneg _
 | star h _=>rw [h] at hx;cases hx;exact Int.natCast_nonneg _
 | aT h _ _=>rw [h] at hx;cases hx;exact Int.natCast_nonneg _
 | not h _=>rw [h] at hx;cases hx;exact Int.natCast_nonneg _
theorem BP {ok:Nat->Prop} {i j:Nat} {s u:Tm} (h:Hid (Sz B w t T S C)) (hi:Rp T i s) (hj:Rp T j u) (hl:T.length+dP s<=gW) :
  Calls Tryz.prog 116 #[.pointer (some ⟨t.tb,0,none⟩),.int .i64 i,.int .i64 j] w (BO B G V ok (dP s) (au s u) w t T S):=by
 have ho:=Op.chain (i+1) (aa h).ti (Nat.lt_succ_self i) hi hj
 refine (Dl (i+1) w t T i j (Nat.lt_succ_self i) (hide (aa h).tab) (aa h).ti.wf (by have:=hi.lt;omega) hi.lt hj.lt (by have:=ho.len;omega)).mono fun e w' ht=>BO.of h ho ht
theorem UF {ok:Nat->Prop} {i:Nat} {s:Tm} (h:Hid (Sz B w t T S C)) (hi:Rp T i s) (hl:T.length+1<=gW) :
  Calls Tryz.prog 78 #[.pointer (some ⟨t.tb,0,none⟩),.int .i64 i] w (BO B G V ok 1 (jF s) w t T S):=by
 have ho:=Op.not (aa h).ti hi
 exact (MR (hide (aa h).tab) hi.lt (fun x hx=>Za hi hx) (by have:=ho.len;omega)).mono fun e w' ht=>BO.of h ho ht
theorem XU {ok:Nat->Prop} (h:Hid (Sz B w t T S C)) (hl:T.length<=gW) :
  Calls Tryz.prog 78 #[.pointer (some ⟨t.tb,0,none⟩),.int .i64 ((0:Nat):Int)] w (BO B G V ok 0 whole w t T S):=by
 have hT:=(aa h).ti
 have ho:Op B T (uX T 0) whole 0:=by
  have h1:uX T 0=dR T (dU 0):=by unfold uX;rw [hT.t0];rfl
  rw [h1]
  rcases dY T (dU 0) with ⟨i,b,hx,e⟩ | ⟨hno,e⟩
  ·rw [e];exact Op.same hT (.not hx hT.r0)
  ·exact absurd rfl (hno _ (List.mem_iff_getElem?.2 ⟨2,hT.t2⟩))
 exact (MR (hide (aa h).tab) hT.r0.lt (fun x hx=>Za hT.r0 hx) (by have:=ho.len;omega)).mono fun e w' ht=>BO.of h ho ht
theorem UG {ok:Nat->Prop} {n i:Nat} {a:Tm} {b:Bool} (h:Hid (Sz B w t T S C)) (hl:T.length<=gW) (hx:T[n]? = some (dS i,b)) (hr:Rp T n (.star a)) (hi:Rp T i a) :
  Calls Tryz.prog 117 #[.pointer (some ⟨t.tb,0,none⟩),.int .i64 i] w (BO B G V ok 0 (.star a) w t T S):=by
 have hT:=(aa h).ti
 have hcn:uu .none (.star a):=hT.cn hr
 have ho:Op B T (sZ T i) (.star a) 0:=by
  have h0:¬ (i=0\/i=1):=by
   rintro (e | e)
   ·exact hcn.2.1 ((hT.zero hi).1 e)
   ·exact hcn.2.2.1 ((hT.one hi).1 e)
  obtain ⟨x,hxi⟩:=hT.at hi
  have h3:x.1.kd≠3:=fun e3=>by
   have:=hcn.2.2.2
   cases hi with
   | set h _=>rw [h] at hxi;cases hxi;cases e3
   | eps h=>rw [h] at hxi;cases hxi;cases e3
   | chain h _ _=>rw [h] at hxi;cases hxi;cases e3
   | star h _=>cases this
   | @aT _ _ _ k _ _ _ h _ _=>rw [h] at hxi;cases hxi;cases k<;>cases e3
   | not h _=>rw [h] at hxi;cases hxi;cases e3
  have h1:sZ T i=dR T (dS i):=by unfold sZ;rw [if_neg h0,hxi];simp [h3]
  rw [h1]
  rcases dY T (dS i) with ⟨m,b,hx,e⟩ | ⟨hno,e⟩
  ·rw [e];exact Op.same hT (.star hx hi)
  ·exact absurd rfl (hno _ (List.mem_iff_getElem?.2 ⟨n,hx⟩))
 exact (Gy (hide (aa h).tab) hi.lt (by have:=ho.len;omega)).mono fun e w' ht=>BO.of h ho ht
theorem Sz.alloc (h:Hid (Sz B w t T S C)) (o:Obj):Hid (Sz B (w.alloc o) t T S C):=(aa h).move fun k hk=>Below.heap_alloc w o k hk
theorem Sz.drewN (h:Hid (Sz B w t T S C)) (q:Nat):Hid (Sz B (w.drewN q) t T S C):=(aa h).move fun _ _=>rfl
theorem Sz.below {w':World} (h:Hid (Sz B w t T S C)) (hb:Below w.heap.size w w'):Hid (Sz B w' t T S C):=(aa h).move fun k hk=>hb.block k hk
set_option maxRecDepth 100000 in
set_option maxHeartbeats 4000000 in
theorem aaE {n:Nat} {c:Int} {l:ah} (hB:B.length<=480) (ht:Tidy l) (hb:bY B l):FZ B G n (.set l) c (j4 (encS l)) 164 0:=by
 intro w t T S C V d b hr hx hsd hseg hV dO hlim
 have hlen:=(fT ht hb).1
 have HH:=hide (WZ (w.alloc (.cells #[.int .i64 0,.string (encS l),.int .i64 0,.int .i64 0] 135)) l d (by omega) ht)
 have Lp:=hide (aa dO).ti.r0
 have HR1:=hide (aa dO).ti.r1
 rw [g_]
 unfold iF j4
 dsimp only
 have HA:Hid (Below w.heap.size w (w.alloc (.cells #[.int .i64 0,.string (encS l),.int .i64 0,.int .i64 0] 135))):=(Below.refl _ _).alloc (Nat.le_refl _) _
 have hsz:w.heap.size<(w.alloc (.cells #[.int .i64 0,.string (encS l),.int .i64 0,.int .i64 0] 135)).heap.size:=by simp
 clear hx hr hseg hsd hV hlim ht hb hlen
 generalize dn l d=q at *
 generalize encS l=es at *
 cases q
 ·go_enter Tryz.func164,Tryz.ntmps164
  go_wp2_with (go_at_call 165;refine (aa HH).mono ?_;clear HH;rintro e w2 ⟨rfl,HB⟩)
  go_ret
  have hb2:Below w.heap.size w w2:=(aa HA).trans (HB.mono (by omega))
  exact ⟨0,t,T,S,C,rfl,aa Lp,Sz.below dO hb2,Nx.world (bg.below hb2)⟩
 ·go_enter Tryz.func164,Tryz.ntmps164
  go_wp2_with (go_at_call 165;refine (aa HH).mono ?_;clear HH;rintro e w2 ⟨rfl,HB⟩)
  go_ret
  have hb2:Below w.heap.size w w2:=(aa HA).trans (HB.mono (by omega))
  exact ⟨1,t,T,S,C,rfl,aa HR1,Sz.below dO hb2,Nx.world (bg.below hb2)⟩
set_option maxRecDepth 100000 in
theorem UH {n:Nat} {c:Int}:FZ B G n eps c uP 169 0:=by
 intro w t T S C V d b hr hx hsd hseg hV dO hlim
 have Lp:=hide (aa dO).ti.r0
 rw [Sd]
 unfold iF
 clear hx hr hseg hsd hV hlim
 go_enter Tryz.func169,Tryz.ntmps169
 go_wp2_with fail
 go_ret
 have hb2:Below w.heap.size w (w.alloc (.cells #[.int .i64 uP.kd,.string uP.st,.int .i64 uP.fi,.int .i64 uP.se] 135)):=(Below.refl _ _).alloc (Nat.le_refl _) _
 exact ⟨0,t,T,S,C,rfl,aa Lp,Sz.below dO hb2,Nx.world (bg.below hb2)⟩
theorem XV {n i:Nat} {y:Tm} {b:Bool} (h:Rp T n y) (hx:T[n]? = some (dU i,b)):∃ a,y=.not a/\Rp T i a:=by
 cases h with
 | set h _=>have e:=ay hx h;cases e
 | eps h=>have e:=ay hx h;cases e
 | chain h _ _=>have e:=ay hx h;cases e
 | star h _=>have e:=ay hx h;cases e
 | @aT _ _ _ k _ _ _ h _ _=>have e:=ay hx h;cases k<;>cases e
 | @not _ i' s _ h hs=>
  have e:=ay hx h
  simp only [dU,Ky.mk.injEq] at e
  have:i=i':=by omega
  subst this
  exact ⟨s,rfl,hs⟩
theorem UI {n i:Nat} {y:Tm} {b:Bool} (h:Rp T n y) (hx:T[n]? = some (dS i,b)):∃ a,y=.star a/\Rp T i a:=by
 cases h with
 | set h _=>have e:=ay hx h;cases e
 | eps h=>have e:=ay hx h;cases e
 | chain h _ _=>have e:=ay hx h;cases e
 | @star _ i' s _ h hs=>
  have e:=ay hx h
  simp only [dS,Ky.mk.injEq] at e
  have:i=i':=by omega
  subst this
  exact ⟨s,rfl,hs⟩
 | @aT _ _ _ k _ _ _ h _ _=>have e:=ay hx h;cases k<;>cases e
 | not h _=>have e:=ay hx h;cases e
theorem El {n i j:Nat} {y:Tm} {b:Bool} (h:Rp T n y) (hx:T[n]? = some (bP i j,b)):∃ a u,y=.chain a u/\Rp T i a/\Rp T j u:=by
 cases h with
 | set h _=>have e:=ay hx h;cases e
 | eps h=>have e:=ay hx h;cases e
 | @chain _ i' j' s u _ h hs hu=>
  have e:=ay hx h
  simp only [bP,Ky.mk.injEq] at e
  have e1:i=i':=by omega
  have e2:j=j':=by omega
  subst e1
  subst e2
  exact ⟨s,u,rfl,hs,hu⟩
 | star h _=>have e:=ay hx h;cases e
 | @aT _ _ _ k _ _ _ h _ _=>have e:=ay hx h;cases k<;>cases e
 | not h _=>have e:=ay hx h;cases e
def Jz (a:Tm):Nat:=if a=aH then 0 else 1
theorem XW {ok:Nat->Prop} {i:Nat} {a:Tm} {d:Int} (h:Hid (Sz B w t T S C)) (hi:Rp T i (aG d a)) (hl:T.length+Jz a<=gW) :
  Calls Tryz.prog 78 #[.pointer (some ⟨t.tb,0,none⟩),.int .i64 i] w (BO B G V ok (Jz a) (jF (aG d a)) w t T S):=by
 unfold Jz at *
 by_cases e:a=aH
 ·rw [if_pos e] at hl ⊢
  rw [e,show aG d aH=aH from rfl] at hi ⊢
  rw [((aa h).ti.zero hi).2 rfl]
  exact XU h (by omega)
 ·rw [if_neg e] at hl ⊢
  exact UF h hi hl
set_option maxRecDepth 100000 in
set_option maxHeartbeats 4000000 in
theorem aaF {n i:Nat} {c:Int} {a:Tm} (hin:i<n) (ha:Jv B G i a c):FZ B G n (.not a) c (dU i) 187 (Jz a):=by
 intro w t T S C V d b hr hx hsd hseg hV h hlim
 obtain ⟨a',e,hi⟩:=XV hr hx
 cases e
 rw [qO]
 have Mm:=hide (ha (w.alloc (.cells #[.int .i64 6,.string ⟨#[]⟩,.int .i64 (i:Int),.int .i64 0] 135)) t T S C V d hi hsd (fun b hb=>hseg b hb) (fun v hv=>by obtain ⟨m,d',q1,q2⟩:=hV v hv;exact ⟨m,d',by omega,q2⟩) (Sz.alloc h _) (by omega))
 have sQ:Hid (bg t t w (w.alloc (.cells #[.int .i64 6,.string ⟨#[]⟩,.int .i64 (i:Int),.int .i64 0] 135))):=bg.below ((Below.refl _ _).alloc (Nat.le_refl _) _)
 have HNO:=hide (fun (w1:World) (t1:TB) (T1:List Te) (S1 C1:List (Value×Value)) (r:Nat) (h1:Hid (Sz B w1 t1 T1 S1 C1)) (hr1:Rp T1 r (aG d a)) (hp:T1.length+nW G T1 (S1.map (·.1)++V)<=T.length+nW G T (S.map (·.1)++V)+0)=>XW (G:=G) (V:=V) (ok:=fun j=>j<n) h1 hr1 (by omega))
 unfold iF dU
 dsimp only
 clear h hx hr hseg hsd hV hlim hi ha
 go_enter Tryz.func187,Tryz.ntmps187
 go_wp2_with (first
  | (go_at_call 101;refine (aa Mm).mono ?_;clear Mm;rintro e w1 ⟨r1,t1,T1,S1,C1,rfl,hr1,wP,nV⟩;have lW:=hide (aa HNO w1 t1 T1 S1 C1 r1 wP hr1 (aa nV).pay);rw [(aa nV).fr.tb] at lW;clear HNO)
  | (go_at_call 78;refine (aa lW).mono ?_;clear lW;rintro e w2 HH;have BQ:=hide HH;obtain ⟨r2,t2,T2,S2,C2,rfl,-⟩:=HH))
 go_ret
 have h1:=BO.then ((Nx.world (aa sQ)).trans ((aa nV).ok fun j (hj:j<=i)=>(show j<n by omega))) (aa BQ)
 exact h1.less (by omega)
set_option maxRecDepth 100000 in
set_option maxHeartbeats 4000000 in
theorem XX {n i:Nat} {c:Int} {a:Tm} (hin:i<n) (hsc:aC c=true) (ha:Jv B G i a c):FZ B G n (.star a) c (dS i) 176 (dP (aG c a)):=by
 intro w t T S C V d b hr hx hsd hseg hV dO hlim
 obtain ⟨a',e,hi⟩:=UI hr hx
 cases e
 have hok:fZ (.star a):=((aa dO).ti.cn hr).ok
 rw [o6,show aG c a=aG d a from ou hsc hsd _ (Nat.le_refl _) (show fZ a from hok) (fun b hb=>hseg b hb)] at *
 have sQ:Hid (bg t t w (w.alloc (.cells #[.int .i64 3,.string ⟨#[]⟩,.int .i64 (i:Int),.int .i64 0] 135))):=bg.below ((Below.refl _ _).alloc (Nat.le_refl _) _)
 have Mm:=hide (fun q=>ha ((w.alloc (.cells #[.int .i64 3,.string ⟨#[]⟩,.int .i64 (i:Int),.int .i64 0] 135)).drewN q) t T S C V d hi hsd (fun b hb=>hseg b hb) (fun v hv=>by obtain ⟨m,d',q1,q2⟩:=hV v hv;exact ⟨m,d',by omega,q2⟩) (Sz.drewN (Sz.alloc dO _) q) (by omega))
 have HST:=hide (fun (w1:World) (t1:TB) (T1:List Te) (S1 C1:List (Value×Value)) (h1:Hid (Sz B w1 t1 T1 S1 C1)) (hn:Nx G V (fun j=>j<=i) 0 ((w.alloc (.cells #[.int .i64 3,.string ⟨#[]⟩,.int .i64 (i:Int),.int .i64 0] 135)).drewN 1) t T S w1 t1 T1 S1)=>UG (G:=G) (V:=V) (ok:=fun j=>j<n) h1 (by have:=hn.pay;omega) (hn.get hx) (hn.rp hr) (hn.rp hi))
 have LY:=hide (fun (w1:World) (t1:TB) (T1:List Te) (S1 C1:List (Value×Value)) (r s:Nat) (h1:Hid (Sz B w1 t1 T1 S1 C1)) (hr1:Rp T1 r (aG d a)) (hs1:Rp T1 s (.star a)) (hp:T1.length+nW G T1 (S1.map (·.1)++V)<=T.length+nW G T (S.map (·.1)++V))=>BP (G:=G) (V:=V) (ok:=fun j=>j<n) h1 hr1 hs1 (by omega))
 have CJ:=hide (heap_alloc_new w (.cells #[.int .i64 3,.string ⟨#[]⟩,.int .i64 (i:Int),.int .i64 0] 135))
 have hnot:¬ TF t w.heap.size:=aZ.dW (hide (aa dO).tab) (Nat.le_refl _)
 have qC:w.heap.size<(w.alloc (.cells #[.int .i64 3,.string ⟨#[]⟩,.int .i64 (i:Int),.int .i64 0] 135)).heap.size:=by simp
 unfold iF dS
 dsimp only
 clear dO hx hr hseg hsd hV hlim hi ha hok
 go_enter Tryz.func176,Tryz.ntmps176
 go_wp2_with fail
 generalize w.alloc (.cells #[.int .i64 3,.string ⟨#[]⟩,.int .i64 (i:Int),.int .i64 0] 135)=Wk at *
 obtain ⟨k0,k1,k2,k3⟩:=bO (aa CJ)
 generalize hkb:w.heap.size=kb at *
 go_region_held3 (fun w'=>w'.cell? ⟨kb,2,none⟩=some (.int .i64 i)) (go_keep)
  (first
   | (go_at_call 101;refine (aa Mm 1).mono ?_;clear Mm;rintro x w1 ⟨r1,t1,T1,S1,C1,rfl,hr1,wP,nV⟩;have qI:Hid (bg t t1 (Wk.drewN 1) w1):=(aa nV).fr;have Da:=hide (bg.own qI qC hnot (aa CJ));obtain ⟨r0,r1',r2,r3⟩:=bO (aa Da);have HS2:=hide (aa HST w1 t1 T1 S1 C1 wP (aa nV));rw [(aa qI).tb] at HS2;have Em:¬ TF t1 kb:=(fun hf=>((aa qI).foot hf).elim hnot (fun hle=>absurd qC (by have:Wk.heap.size<=kb:=hle;omega)));have hlt1:kb<w1.heap.size:=Nat.lt_of_lt_of_le qC (aa qI).size)
   | (go_at_call 117;refine (aa HS2).mono ?_;clear HS2;rintro x w2 ⟨s2,t2,T2,S2,C2,rfl,hs2,wQ,jc⟩;have tY:Hid (bg t1 t2 w1 w2):=(aa jc).fr;have JA:=hide (bg.own tY hlt1 Em (aa Da));obtain ⟨s0,s1',s2',s3⟩:=bO (aa JA);have Ls:=hide (aa LY w2 t2 T2 S2 C2 r1 s2 wQ ((aa jc).rp hr1) hs2 (by have h1:=(aa nV).pay;have h2:=(aa jc).pay;omega));rw [(aa tY).tb,(aa qI).tb] at Ls;have ab2:¬ TF t2 kb:=(fun hf=>((aa tY).foot hf).elim Em (fun hle=>absurd hlt1 (by have:w1.heap.size<=kb:=hle;omega)));have hlt2:kb<w2.heap.size:=Nat.lt_of_lt_of_le hlt1 (aa tY).size)
   | (go_at_call 116;refine (aa Ls).mono ?_;clear Ls;rintro x w3 HH;have BQ:=hide HH;obtain ⟨c3,t3,T3,S3,C3,rfl,-,-,mJ⟩:=HH;have uG:Hid (bg t2 t3 w2 w3):=(aa mJ).fr;have acO:=hide (bg.own uG hlt2 ab2 (aa JA));obtain ⟨z0,z1,z2,z3⟩:=bO (aa acO)))
 go_wp2_with fail
 go_ret
 have h1:=BO.then (((Nx.world (bg.drewN (aa sQ) 1)).trans ((aa nV).ok fun j (hj:j<=i)=>(show j<n by omega))).trans (aa jc)) (aa BQ)
 exact h1.less (by omega)
end
end Go.Proofs.YtfolanohokflkaaGreatDoor
namespace Go.Proofs.YtfolanohokflkaaGreatDoor
open Go.RowKit
section
variable {B:List Int} {w:World} {t:TB} {T:List Te} {S C:List (Value×Value)}
set_option maxRecDepth 100000 in
set_option maxHeartbeats 8000000 in
theorem UJ {l:List Nat} {ts:List Tm} {g0 cap0:Nat} (h:Hid (aZ w t T (ak T) S C)) (hT:TI B T) (hB:B.length<=480) (hr:ik T l ts) (hne:l≠[]) (hln:l.length<=500000) (qc:∀ t∈ts,(memT true t).length<=200000) (QF:(memT true (aj true ts)).length<=200000) (hlim:T.length+(memT true (aj true ts)).length+2<=gW)
  (hc:∀ j x,(aA l)[j]? = some x->w.cell? ⟨g0,j,none⟩=some (.int .i64 x)) (hg0:g0<w.heap.size) :
  Calls Tryz.prog 77 #[.pointer (some ⟨t.tb,0,none⟩),.slice (some ⟨g0,0,none⟩) l.length cap0] w fun e w'=>∃ R,Op B T R (aj true ts) ((memT true (aj true ts)).length+1)/\(∀ r,l=[r]->R=(T,r))/\EJ R w t S C e w':=by
 have hJ:=hT.toTJ
 have qw:∀ n∈l,∃ t,Rp T n t/\t∈ts:=fun n hn=>by
  obtain ⟨t,ht,_⟩:=hT.all n (hr.lt n hn)
  exact ⟨t,ht,hr.mem.2 ⟨n,hn,ht⟩⟩
 have hsp:∀ n∈l,j6 T true n (gH T true n)/\(gH T true n).length<=200000:=fun n hn=>by
  obtain ⟨t,ht,htm⟩:=qw n hn
  have h1:=zA (k:=true) ht
  exact ⟨h1,Nat.le_trans (zB hT ht h1) (qc t htm)⟩
 have qp:(l.flatMap (gH T true)).length<=100000000000:=by
  have h1:=BB (b:=200000) fun n hn=>(hsp n hn).2
  have h2:l.length*200000<=500000*200000:=Nat.mul_le_mul_right _ hln
  omega
 have hSL:=xK (k:=true) (T:=T) (l:=l) fun n hn=>(hsp n hn).1
 have Mc:=hSL.kinds hJ
 obtain ⟨L,LQ,XJ,NP⟩:=Eh (l.flatMap (gH T true))
 have HM:=hide (yu (cap0:=cap0) h hT.wf (fun n hn=>⟨(hsp n hn).1,by have:=(hsp n hn).2;omega⟩) hne (by omega) hc hg0 qp (fun m hm=>by
  obtain ⟨x,hx,_⟩:=Mc m hm
  exact (List.getElem?_eq_some_iff.1 hx).1) LQ)
 have VZ:=hide qp
 have aap:Hid (∃ m,m∈l.flatMap (gH T true)):=by
  obtain ⟨a,r,rfl⟩:∃ a r,l=a::r:=by cases l with
   | nil=>exact absurd rfl hne
   | cons a r=>exact ⟨a,r,rfl⟩
  have:=(hsp a (List.mem_cons_self ..)).1.ne
  obtain ⟨x,y,e⟩:∃ x y,gH T true a=x::y:=by
   cases hq:gH T true a with
   | nil=>exact absurd hq this
   | cons x y=>exact ⟨x,y,rfl⟩
  exact ⟨x,by rw [List.flatMap_cons,e];simp⟩
 have XK:=hide hSL
 have HKN:=hide Mc
 have HR:=hide hr
 have abY:1<=(memT true (aj true ts)).length:=by
  cases hq:memT true (aj true ts) with
  | nil=>exact absurd hq (vw _ _)
  | cons _ _=>simp
 clear hc hg0 hne hln qc qw hsp qp hSL Mc hr
 have Y6:L.length<=(l.flatMap (gH T true)).length:=jk (XJ.imp fun q e=>by omega) fun m hm=>(NP m).1 hm
 obtain ⟨ss,hs1,hs2,hs3⟩:=FQ hT (L:=L.filter fun m=>aX T m) fun m hm=>(List.mem_filter.1 hm).2
 have lW:=hide (TU hT (aa HR) (aa XK) XJ NP hs1 fun s hs=>(hs3 s hs).1)
 have XL:Hid (∀ r,l=[r]->Xq T true L (fK true ss)=(T,r)):=fun r e=>by
  subst e
  cases aa HR with
  | cons h1 _=>exact Ji hT (zA (k:=true) h1) XJ (fun m=>by rw [NP m];simp) hs1
 have hsl:(L.filter fun m=>aX T m).length=ss.length:=by
  have:=congrArg List.length hs2
  simpa using this
 rw [hs2,hsl] at HM
 have hkind:∀ m∈L,∃ x,T[m]? = some x/\x.1.kd≠kk true:=fun m hm=>aa HKN m ((NP m).1 hm)
 have hns:∀ m∈L.filter (fun m=>!aX T m),¬ LG T m:=fun m hm q=>by
  have:=(List.mem_filter.1 hm).2
  rw [lU.2 q] at this;cases this
 have hbf:(L.filter fun m=>!aX T m).Pairwise (Bf T):=(XJ.filter _).imp_of_mem fun {a b} ha hb q=>⟨hns a ha,.inr q⟩
 have hM:Y4 T true (L.filter fun m=>!aX T m):=⟨fun m hm=>hkind m (List.mem_filter.1 hm).1,hbf⟩
 have hfl:=aa VZ
 have hex:∀ m∈L,∃ t,Rp T m t:=fun m hm=>by
  obtain ⟨x,hx,_⟩:=hkind m hm
  obtain ⟨y,hy,_⟩:=hJ.all m (List.getElem?_eq_some_iff.1 hx).1
  exact ⟨y,hy⟩
 obtain ⟨zs,hzs⟩:=ik.of (T:=T) (l:=L.filter fun m=>!aX T m) fun m hm=>hex m (List.mem_filter.1 hm).1
 have RF:=hide (fun i (hi:TF t i)=>(aa h).foot hi)
 have hin:∀ m∈L.filter (fun m=>!aX T m),m<T.length:=hzs.lt
 have hNl:(L.filter fun m=>!aX T m).length<=100000000000:=Nat.le_trans (List.length_filter_le _ _) (by omega)
 have NZ:=hide hM
 have HNS:=hide hns
 have HZS:=hide hzs
 have XF:=hide hin
 have hGm:=hlim
 obtain ⟨m0,hm0⟩:=aa aap
 have Uk:=(NP m0).2 hm0
 clear hM hns hzs hbf hkind hex hs1 hs2 HKN VZ XK
 cases ss with
 | nil=>
  have Ul:0<(L.filter fun m=>!aX T m).length:=by
   have:m0∈L.filter fun m=>!aX T m:=List.mem_filter.2 ⟨Uk,by
    cases hb:aX T m0 with
    | false=>rfl
    | true=>
     have hq:m0∈L.filter fun m=>aX T m:=List.mem_filter.2 ⟨Uk,hb⟩
     rw [List.eq_nil_of_length_eq_zero hsl] at hq
     cases hq⟩
   exact List.length_pos_of_mem this
  have hop:=aa lW
  have hj0:=sJ hT (aa NZ) (aa HZS)
  have e1:aj true ts=aj true zs:=hop.rp.uniq hj0.rp
  have Md:=hide (fun (w2:World) (g1 o5:Nat) (hb2:Below w.heap.size w w2) (ho1:w2.ownsRow w.heap.size 3 1 (.slice (some ⟨g1,0,none⟩) (L.filter fun m=>!aX T m).length o5) (L.filter fun m=>!aX T m).length (ints (aA (L.filter fun m=>!aX T m)))) (FU:w.heap.size<=g1)=>wo (k:=true) (cap:=o5) (aZ.below h hb2) hT.wf (aa XF) (by omega) (fun hz=>by
   have:=wh hT (aa NZ) (aa HZS) hz
   rw [<-e1] at this
   omega) (eO ho1 (Nat.zero_le _)) (aZ.dW h FU))
  clear hj0 e1 hop
  rw [show ((a_ true:Nat):Int)=2 from rfl,show ((dG true:Nat):Int)=0 from rfl,show kk true=5 from rfl] at Md
  simp only [List.length_nil] at HM
  have Me:Hid (Op B T (iI T true (L.filter fun m=>!aX T m)) (aj true ts) ((memT true (aj true ts)).length+1)):=lW
  have Mf:Hid (∀ r0,l=[r0]->(iI T true (L.filter fun m=>!aX T m))=(T,r0)):=XL
  clear XL
  clear lW
  generalize iI T true (L.filter fun m=>!aX T m)=R at *
  generalize L.filter (fun m=>!aX T m)=NS at *
  go_enter Tryz.func77,Tryz.ntmps77
  go_wp2_with (first
   | (go_at_call 110;refine (aa HM).mono ?_;clear HM;rintro e w2 ⟨Rk,ao2,o5,cap2,rfl,yR,lD,HB2⟩;obtain ⟨ao1',cap1',e1,hv1⟩:=aN (aa yR);injection e1 with e2 e3 e4;subst e2;subst e4;obtain ⟨g1,rfl,FU,-⟩:=hv1 Ul;have HJ:=hide (aa Md w2 g1 o5 (aa HB2) (aa yR) FU);clear Md)
   | (go_at_call 113;refine (aa HJ).mono ?_;clear HJ;rintro e w3 ⟨rfl,t3,HT3,HX3⟩))
  go_ret
  exact ⟨R,aa Me,aa Mf,rfl,t3,HT3,(bg.below (aa HB2)).past (aa HX3) FU⟩
 | cons s r=>
  have hrl:r.length+1<=100000000000:=by
   have h1:(s::r).length=r.length+1:=rfl
   have h2:(L.filter fun m=>aX T m).length<=L.length:=List.length_filter_le _ _
   omega
  have hs0:=hs3 s (List.mem_cons_self ..)
  have hf2:=jP (B:=B) (k:=true) (l:=r) (s:=s) (fun x hx=>hs3 x (List.mem_cons_of_mem _ hx)) hs0.1 hs0.2
  have Mg:=hide (fun (w2:World) (g2 cap2:Nat) (ho2:w2.ownsRow w.heap.size 61 1 (.slice (some ⟨g2,0,none⟩) (s::r).length cap2) (s::r).length (strs ((s::r).map encS)))=>QE B hB w2 g2 cap2 s r (fun j x hj=>by
   have hjl:j<r.length+1:=(List.getElem?_eq_some_iff.1 hj).1
   rw [ho2.cellAt j (by simp;omega)]
   unfold strs
   rw [List.getElem?_map,List.getElem?_map,hj];rfl) (zC ho2) (ho2.lt g2 rfl).2 (by omega) hs3)
  have hfs:(r.foldl (gK true) s).length<=481:=by have:=(fT hf2.1 hf2.2).1;omega
  have hsz:(encS (r.foldl (gK true) s)).size<=maxLen:=by
   have:=xM (r.foldl (gK true) s)
   unfold maxLen
   omega
  have hop:=aa lW
  have oQ:=Op.set hT hf2.1 hf2.2
  have hmk:=NR hT (aa NZ) (aa HNS) hf2.1 hf2.2
  have hup:ik (fE T (encS (r.foldl (gK true) s))).1 ((L.filter fun m=>!aX T m)++[(fE T (encS (r.foldl (gK true) s))).2]) (zs++[.set (r.foldl (gK true) s)]):=by
   obtain ⟨X,eX⟩:=oQ.sub
   refine ik.app ?_ (.cons oQ.rp .nil)
   rw [eX];exact (aa HZS).mono
  have hj0:=sJ oQ.ti hmk hup
  have e1:aj true ts=aj true (zs++[.set (r.foldl (gK true) s)]):=hop.rp.uniq hj0.rp
  have hjf:=fun hz=>wh oQ.ti hmk hup hz
  rw [<-e1] at hjf
  have Um:=hide (fun w2 w3 (hb2:Below w.heap.size w w2) (hb:Below w2.heap.size w2 w3)=>EK (S:=S) (C:=C) (s:=encS (r.foldl (gK true) s)) (aZ.below (aZ.below h hb2) hb) hsz (by have:=oQ.len;omega))
  have hql:=oQ.len
  have Md:=hide (fun (w5:World) (t4:TB) (g5 cap5:Nat) (hT5:Hid (aZ w5 t4 (fE T (encS (r.foldl (gK true) s))).1 (ak (fE T (encS (r.foldl (gK true) s))).1) S C)) (hO5:w5.ownsRow w.heap.size 3 1 (.slice (some ⟨g5,0,none⟩) ((L.filter fun m=>!aX T m)++[(fE T (encS (r.foldl (gK true) s))).2]).length cap5) ((L.filter fun m=>!aX T m)++[(fE T (encS (r.foldl (gK true) s))).2]).length (ints (aA ((L.filter fun m=>!aX T m)++[(fE T (encS (r.foldl (gK true) s))).2]))))=>
   wo (k:=true) (cap:=cap5) hT5 oQ.ti.wf hup.lt (by rw [List.length_append];simp;omega) (fun hz=>by have:=hjf hz;omega) (eO hO5 (Nat.zero_le _)) (wy (aa hT5) hO5))
  clear hj0 e1 hop oQ hmk hup hjf hql hf2 hs3 hs0 hfs hsz
  rw [show ((a_ true:Nat):Int)=2 from rfl,show ((dG true:Nat):Int)=0 from rfl,show kk true=5 from rfl] at Md
  have Me:Hid (Op B T (iI (fE T (encS (r.foldl (gK true) s))).1 true ((L.filter fun m=>!aX T m)++[(fE T (encS (r.foldl (gK true) s))).2])) (aj true ts) ((memT true (aj true ts)).length+1)):=lW
  have Mf:Hid (∀ r0,l=[r0]->(iI (fE T (encS (r.foldl (gK true) s))).1 true ((L.filter fun m=>!aX T m)++[(fE T (encS (r.foldl (gK true) s))).2]))=(T,r0)):=XL
  clear XL
  clear lW
  generalize encS (r.foldl (gK true) s)=es at *
  generalize fE T es=Q at *
  generalize iI Q.1 true ((L.filter fun m=>!aX T m)++[Q.2])=R at *
  generalize hNS:L.filter (fun m=>!aX T m)=NS at *
  have hlen1:(NS++[Q.2]).length=NS.length+1:=by simp
  rw [hlen1] at Md
  rw [show (s::r).length=r.length+1 from rfl] at HM Mg
  go_enter Tryz.func77,Tryz.ntmps77
  go_wp2_with (first
   | (go_at_call 110;refine (aa HM).mono ?_;clear HM;rintro e w2 ⟨Rk,ao2,o5,cap2,rfl,yR,lD,HB2⟩;have hws:w.heap.size<=w2.heap.size:=(aa HB2).size;have HV1:Hid (∀ k,(Value.slice Rk NS.length o5).ownBlock=some k->¬ TF t k):=(fun k hk=>aZ.dW h ((aa yR).lt k hk).1);obtain ⟨ao2',cap2',e1,hv2⟩:=aN (aa lD);injection e1 with e2 e3 e4;subst e2;subst e4;obtain ⟨g2,rfl,-⟩:=hv2 (by omega);have HFO:=hide (aa Mg w2 g2 cap2 (aa lD));clear Mg hv2)
   | (go_at_call 111;refine (aa HFO).mono ?_;clear HFO;rintro e w3 ⟨rfl,HB3⟩;have HST:=hide (aa Um w2 _ (aa HB2) (aa HB3));clear Um)
   | (go_at_call 82;refine (aa HST).mono ?_;clear HST;rintro e w4 ⟨rfl,t4,yx,Un⟩;have FV:Hid (bg t t4 w w4):=((bg.below (aa HB2)).trans (bg.below (aa HB3))).trans (aa Un);have Fx:=hide (FR (own_below (aa yR) (aa HB3) (Nat.le_refl _)) (aa Un) (aa HV1));have hw4:w.heap.size<=w4.heap.size:=(aa FV).size;have aaq:Hid (Below w.heap.size w4 w4):=Below.refl _ _;have HO4':Hid (w4.ownsRow w.heap.size 3 1 (.slice Rk NS.length o5) NS.length (ints (aA NS))):=Fx)
   | (at_builtin;refine mH Tryz.underlying31 jK rfl (by decide) (by decide) w.heap.size w4 w4 _ _ [.int .i64 (Q.2:Int)] _ (.tmp 16) (.tmp 21) rfl rfl rfl w4.heap.size rfl rfl HO4' aaq hw4 hNl rfl (by intro u hu;simp at hu;rw [hu];rfl) ?_;intro g5 cap5 w5 v_ qx Ko;have qD:Hid (aZ w5 t4 Q.1 (ak Q.1) S C):=FT (aa yx) (aa FV) (aa RF) (aa qx) (aa Ko);have HO5':Hid (w5.ownsRow w.heap.size 3 1 (.slice (some ⟨g5,0,none⟩) (NS.length+1) cap5) (NS.length+1) (ints (aA (NS++[Q.2])))):=(by show World.ownsRow _ _ _ _ _ _ _;rw [il,show ints (aA NS++aA [Q.2])=ints (aA NS)++[.int .i64 (Q.2:Int)] from by simp [ints,aA]];exact v_);have HJ:=hide (aa Md w5 t4 g5 cap5 qD (aa HO5'));rw [(aa FV).tb] at HJ;have KH:=hide (wu (aa FV) (aa qx));have aar:=((aa v_).lt g5 rfl).1)
   | (go_at_call 113;refine (aa HJ).mono ?_;clear HJ;rintro e w6 ⟨rfl,t6,VO,HX6⟩))
  go_ret
  exact ⟨R,aa Me,aa Mf,rfl,t6,VO,(aa KH).past (aa HX6) aar⟩
end
end Go.Proofs.YtfolanohokflkaaGreatDoor
namespace Go.Proofs.YtfolanohokflkaaGreatDoor
open Go.RowKit
open Tm (eps)
section
variable {w W:World} {t:TB} {T:List Te} {N S C:List (Value×Value)} {k:Ky} {B:List Int} {G:List Gx} {V:List Value} {P:Tm->Prop}
theorem UK {ok:Nat->Prop} {l:List Nat} {ts:List Tm} {g0 cap0:Nat} (h:Hid (Sz B w t T S C)) (hB:B.length<=480) (hr:ik T l ts) (hne:l≠[]) (hln:l.length<=500000) (qc:∀ t∈ts,(memT false t).length<=200000) (QF:(memT false (aj false ts)).length<=200000) (hlim:T.length+(memT false (aj false ts)).length+2<=gW)
  (hc:∀ j x,(aA l)[j]? = some x->w.cell? ⟨g0,j,none⟩=some (.int .i64 x)) (hg0:g0<w.heap.size) :
  Calls Tryz.prog 79 #[.pointer (some ⟨t.tb,0,none⟩),.slice (some ⟨g0,0,none⟩) l.length cap0] w (BO B G V ok ((memT false (aj false ts)).length+1) (aj false ts) w t T S):=
 (Uj (hide (aa h).tab) (aa h).ti hB hr hne hln qc QF hlim hc hg0).mono fun _ _ ⟨_,h1,_,h2⟩=>BO.of h h1 h2
theorem aaG {ok:Nat->Prop} {l:List Nat} {ts:List Tm} {g0 cap0:Nat} (h:Hid (Sz B w t T S C)) (hB:B.length<=480) (hr:ik T l ts) (hne:l≠[]) (hln:l.length<=500000) (qc:∀ t∈ts,(memT true t).length<=200000) (QF:(memT true (aj true ts)).length<=200000) (hlim:T.length+(memT true (aj true ts)).length+2<=gW)
  (hc:∀ j x,(aA l)[j]? = some x->w.cell? ⟨g0,j,none⟩=some (.int .i64 x)) (hg0:g0<w.heap.size) :
  Calls Tryz.prog 77 #[.pointer (some ⟨t.tb,0,none⟩),.slice (some ⟨g0,0,none⟩) l.length cap0] w (BO B G V ok ((memT true (aj true ts)).length+1) (aj true ts) w t T S):=
 (UJ (hide (aa h).tab) (aa h).ti hB hr hne hln qc QF hlim hc hg0).mono fun _ _ ⟨_,h1,_,h2⟩=>BO.of h h1 h2
theorem Oa {ok:Nat->Prop} {i j:Nat} {x y:Tm} {g0:Nat} (h:Hid (Sz B w t T S C)) (hB:B.length<=480) (hi:Rp T i x) (hj:Rp T j y) (hx:(memT false x).length<=200000) (hy:(memT false y).length<=200000) (QF:(memT false (aj false [x,y])).length<=200000) (hlim:T.length+(memT false (aj false [x,y])).length+2<=gW) (hg:w.heap.size=g0) :
  Calls Tryz.prog 79 #[.pointer (some ⟨t.tb,0,none⟩),.slice (some ⟨g0,0,none⟩) 2 2] (w.alloc (.cells #[.int .i64 (i:Int),.int .i64 (j:Int)] 3)) (BO B G V ok ((memT false (aj false [x,y])).length+1) (aj false [x,y]) (w.alloc (.cells #[.int .i64 (i:Int),.int .i64 (j:Int)] 3)) t T S):=by
 have hb:=heap_alloc_new w (.cells #[.int .i64 (i:Int),.int .i64 (j:Int)] 3)
 rw [hg] at hb
 refine UK (l:=[i,j]) (Sz.alloc h _) hB (.cons hi (.cons hj .nil)) (by simp) (by simp) (fun t ht=>?_) QF hlim (fun k n hk=>?_) (by rw [World.size_alloc,hg];exact Nat.lt_succ_self _)
 ·rcases List.mem_cons.1 ht with e | e
  ·rw [e];exact hx
  ·rw [List.mem_singleton] at e;rw [e];exact hy
 ·rw [cell_of_row _ _ k _ _ _ hb]
  match k,hk with
  | 0,hk=>cases hk;rfl
  | 1,hk=>cases hk;rfl
set_option maxRecDepth 100000 in
set_option maxHeartbeats 4000000 in
theorem QJ {n i j:Nat} {c:Int} {a u:Tm} {g:Nat} (hin:i<n) (hsc:aC c=true) (ha:Jv B G i a c) (h0:cO a=false) (hg:dP (aG c a)<=g):FZ B G n (.chain a u) c (bP i j) 172 g:=by
 intro w t T S C V d b hr hx hsd hseg hV dO hlim
 obtain ⟨a',u',e,hi,hj⟩:=El hr hx
 cases e
 have hok:fZ (.chain a u):=((aa dO).ti.cn hr).ok
 have hsa:Seg a c d:=fun b hb=>hseg b (.inl hb)
 rw [eF,h0,if_neg (by simp)]
 rw [show aG c a=aG d a from ou hsc hsd _ (Nat.le_refl _) hok.1 hsa] at hg
 obtain ⟨⟨ki,bi⟩,hxi⟩:=(aa dO).ti.at hi
 have hbi:bi=false:=((aa dO).ti.null hi hxi).trans h0
 subst hbi
 have sQ:Hid (bg t t w (w.alloc (.cells #[.int .i64 2,.string ⟨#[]⟩,.int .i64 (i:Int),.int .i64 (j:Int)] 135))):=bg.below ((Below.refl _ _).alloc (Nat.le_refl _) _)
 have Mm:=hide (fun q=>ha ((w.alloc (.cells #[.int .i64 2,.string ⟨#[]⟩,.int .i64 (i:Int),.int .i64 (j:Int)] 135)).drewN q) t T S C V d hi hsd hsa (fun v hv=>by obtain ⟨m,d',q1,q2⟩:=hV v hv;exact ⟨m,d',by omega,q2⟩) (Sz.drewN (Sz.alloc dO _) q) (by omega))
 have LY:=hide (fun (w1:World) (t1:TB) (T1:List Te) (S1 C1:List (Value×Value)) (r:Nat) (h1:Hid (Sz B w1 t1 T1 S1 C1)) (hr1:Rp T1 r (aG d a)) (hs1:Rp T1 j u) (hp:T1.length+nW G T1 (S1.map (·.1)++V)<=T.length+nW G T (S.map (·.1)++V))=>BP (G:=G) (V:=V) (ok:=fun j=>j<n) h1 hr1 hs1 (by omega))
 have CJ:=hide (heap_alloc_new w (.cells #[.int .i64 2,.string ⟨#[]⟩,.int .i64 (i:Int),.int .i64 (j:Int)] 135))
 have hnot:¬ TF t w.heap.size:=aZ.dW (hide (aa dO).tab) (Nat.le_refl _)
 have qC:w.heap.size<(w.alloc (.cells #[.int .i64 2,.string ⟨#[]⟩,.int .i64 (i:Int),.int .i64 (j:Int)] 135)).heap.size:=by simp
 have hI0:(0:Int)<=(i:Int):=by omega
 have HRJ:=hide hj
 have HXI:=hide hxi
 unfold iF bP
 dsimp only
 clear dO hx hr hseg hsa hsd hV hlim hi hj hxi ha hok
 go_enter Tryz.func172,Tryz.ntmps172
 go_wp2_with fail
 generalize w.alloc (.cells #[.int .i64 2,.string ⟨#[]⟩,.int .i64 (i:Int),.int .i64 (j:Int)] 135)=Wk at *
 obtain ⟨k0,k1,k2,k3⟩:=bO (aa CJ)
 generalize hkb:w.heap.size=kb at *
 go_region_held3 (fun w'=>w'.cell? ⟨kb,2,none⟩=some (.int .i64 i)/\w'.cell? ⟨kb,3,none⟩=some (.int .i64 j)) (go_keep)
  (first
   | (go_at_call 101;refine (aa Mm 1).mono ?_;clear Mm;rintro x w1 ⟨r1,t1,T1,S1,C1,rfl,hr1,wP,nV⟩;have qI:Hid (bg t t1 (Wk.drewN 1) w1):=(aa nV).fr;have Da:=hide (bg.own qI qC hnot (aa CJ));obtain ⟨r0,r1',r2,r3⟩:=bO (aa Da);have Ls:=hide (aa LY w1 t1 T1 S1 C1 r1 wP hr1 ((aa nV).rp (aa HRJ)) (by have h1:=(aa nV).pay;omega));rw [(aa qI).tb] at Ls;have Em:¬ TF t1 kb:=(fun hf=>((aa qI).foot hf).elim hnot (fun hle=>absurd qC (by have:Wk.heap.size<=kb:=hle;omega)));have hlt1:kb<w1.heap.size:=Nat.lt_of_lt_of_le qC (aa qI).size)
   | (go_at_call 116;refine (aa Ls).mono ?_;clear Ls;rintro x w2 ⟨c2,t2,T2,S2,C2,rfl,hc2,wQ,jc⟩;have tY:Hid (bg t1 t2 w1 w2):=(aa jc).fr;have JA:=hide (bg.own tY hlt1 Em (aa Da));obtain ⟨s0,s1,s2,s3⟩:=bO (aa JA)))
 have UL:t2.tb=t.tb:=(aa tY).tb.trans (aa qI).tb
 have hx2:=(aa jc).get ((aa nV).get (aa HXI))
 obtain ⟨gt,q2,-,-,-,-,a4⟩:=(aa wQ).tab.at hx2
 rw [UL] at q2
 dsimp only at a4
 have hI:(i:Int)<(T2.length:Int):=by have:=(List.getElem?_eq_some_iff.1 hx2).1;omega
 have HRX:=hide hc2
 have Kr:=hide (((Nx.world (bg.drewN (aa sQ) 1)).trans ((aa nV).ok fun j (hj:j<=i)=>(show j<n by omega))).trans (aa jc))
 clear hx2 CJ Da JA k0 k1 k2 k3 r0 r1' r2 r3 qI tY nV jc wP hr1 hc2 sQ LY HXI
 go_wp2_with fail
 go_quiet (fail)
 go_wp2_with fail
 go_ret
 have h1:BO B G V (fun j=>j<n) _ (au (aG d a) u) w t T S (.returned (.int .i64 (c2:Int))) (w2.drewN nq):=⟨c2,t2,T2,S2,C2,rfl,aa HRX,Sz.drewN wQ nq,(aa Kr).trans (Nx.world (bg.drewN (bg.refl _ _) nq))⟩
 exact h1.less (by omega)
set_option maxRecDepth 100000 in
set_option maxHeartbeats 4000000 in
theorem QK {n i j:Nat} {c:Int} {a u:Tm} {g:Nat} (hin:i<n) (hjn:j<n) (hB:B.length<=480) (hsc:aC c=true) (ha:Jv B G i a c) (hu:Jv B G j u c) (h0:cO a=true) (hfx:(memT false (au (aG c a) u)).length<=200000) (hfy:(memT false (aG c u)).length<=200000) (hfz:(memT false (aG c (.chain a u))).length<=200000) (hg:dP (aG c a)+(memT false (aG c (.chain a u))).length+2<=g):FZ B G n (.chain a u) c (bP i j) 172 g:=by
 intro w t T S C V d b hr hx hsd hseg hV dO hlim
 obtain ⟨a',u',e,hi,hj⟩:=El hr hx
 cases e
 have hok:fZ (.chain a u):=((aa dO).ti.cn hr).ok
 have hsa:Seg a c d:=fun b hb=>hseg b (.inl hb)
 have hsu:Seg u c d:=fun b hb=>hseg b (.inr ⟨h0,hb⟩)
 rw [show aG c (.chain a u)=aj false [au (aG c a) u,aG c u] from by rw [eF,h0,if_pos rfl]] at hfz hg
 rw [show aG d (.chain a u)=aj false [au (aG d a) u,aG d u] from by rw [eF,h0,if_pos rfl]]
 rw [show aG c a=aG d a from ou hsc hsd _ (Nat.le_refl _) hok.1 hsa] at hg hfx hfz
 rw [show aG c u=aG d u from ou hsc hsd _ (Nat.le_refl _) hok.2 hsu] at hg hfy hfz
 obtain ⟨⟨ki,bi⟩,hxi⟩:=(aa dO).ti.at hi
 have hbi:bi=true:=((aa dO).ti.null hi hxi).trans h0
 subst hbi
 have sQ:Hid (bg t t w (w.alloc (.cells #[.int .i64 2,.string ⟨#[]⟩,.int .i64 (i:Int),.int .i64 (j:Int)] 135))):=bg.below ((Below.refl _ _).alloc (Nat.le_refl _) _)
 have Mm:=hide (fun q=>ha ((w.alloc (.cells #[.int .i64 2,.string ⟨#[]⟩,.int .i64 (i:Int),.int .i64 (j:Int)] 135)).drewN q) t T S C V d hi hsd hsa (fun v hv=>by obtain ⟨m,d',q1,q2⟩:=hV v hv;exact ⟨m,d',by omega,q2⟩) (Sz.drewN (Sz.alloc dO _) q) (by omega))
 have HBU:=hide (fun (w2:World) (t2:TB) (T2:List Te) (S2 C2:List (Value×Value)) (h2:Hid (Sz B w2 t2 T2 S2 C2)) (hs2:Rp T2 j u) (hp:T2.length+nW G T2 (S2.map (·.1)++V)<=T.length+nW G T (S.map (·.1)++V)+dP (aG d a))=>hu w2 t2 T2 S2 C2 V d hs2 hsd hsu (fun v hv=>by obtain ⟨m,d',q1,q2⟩:=hV v hv;exact ⟨m,d',by omega,q2⟩) h2 (by omega))
 have LY:=hide (fun (w1:World) (t1:TB) (T1:List Te) (S1 C1:List (Value×Value)) (r:Nat) (h1:Hid (Sz B w1 t1 T1 S1 C1)) (hr1:Rp T1 r (aG d a)) (hs1:Rp T1 j u) (hp:T1.length+nW G T1 (S1.map (·.1)++V)<=T.length+nW G T (S.map (·.1)++V))=>BP (G:=G) (V:=V) (ok:=fun j=>j<n) h1 hr1 hs1 (by omega))
 have HAN:=hide (fun (w3:World) (t3:TB) (T3:List Te) (S3 C3:List (Value×Value)) (c2 r3:Nat) (h3:Hid (Sz B w3 t3 T3 S3 C3)) (hc2:Rp T3 c2 (au (aG d a) u)) (hr3:Rp T3 r3 (aG d u)) (hp:T3.length+nW G T3 (S3.map (·.1)++V)<=T.length+nW G T (S.map (·.1)++V)+dP (aG d a))=>Oa (G:=G) (V:=V) (ok:=fun j=>j<n) (g0:=w3.heap.size) h3 hB hc2 hr3 hfx hfy hfz (by omega) rfl)
 have CJ:=hide (heap_alloc_new w (.cells #[.int .i64 2,.string ⟨#[]⟩,.int .i64 (i:Int),.int .i64 (j:Int)] 135))
 have hnot:¬ TF t w.heap.size:=aZ.dW (hide (aa dO).tab) (Nat.le_refl _)
 have qC:w.heap.size<(w.alloc (.cells #[.int .i64 2,.string ⟨#[]⟩,.int .i64 (i:Int),.int .i64 (j:Int)] 135)).heap.size:=by simp
 have hI0:(0:Int)<=(i:Int):=by omega
 have HRJ:=hide hj
 have HXI:=hide hxi
 have HGG:=hide hg
 unfold iF bP
 dsimp only
 clear dO hx hr hseg hsa hsu hsd hV hlim hi hj hxi ha hu hok hfx hfy hfz hg
 go_enter Tryz.func172,Tryz.ntmps172
 go_wp2_with fail
 generalize w.alloc (.cells #[.int .i64 2,.string ⟨#[]⟩,.int .i64 (i:Int),.int .i64 (j:Int)] 135)=Wk at *
 obtain ⟨k0,k1,k2,k3⟩:=bO (aa CJ)
 generalize hkb:w.heap.size=kb at *
 go_region_held3 (fun w'=>w'.cell? ⟨kb,2,none⟩=some (.int .i64 i)/\w'.cell? ⟨kb,3,none⟩=some (.int .i64 j)) (go_keep)
  (first
   | (go_at_call 101;refine (aa Mm 1).mono ?_;clear Mm;rintro x w1 ⟨r1,t1,T1,S1,C1,rfl,hr1,wP,nV⟩;have qI:Hid (bg t t1 (Wk.drewN 1) w1):=(aa nV).fr;have Da:=hide (bg.own qI qC hnot (aa CJ));obtain ⟨r0,r1',r2,r3⟩:=bO (aa Da);have Ls:=hide (aa LY w1 t1 T1 S1 C1 r1 wP hr1 ((aa nV).rp (aa HRJ)) (by have h1:=(aa nV).pay;omega));rw [(aa qI).tb] at Ls;have Em:¬ TF t1 kb:=(fun hf=>((aa qI).foot hf).elim hnot (fun hle=>absurd qC (by have:Wk.heap.size<=kb:=hle;omega)));have hlt1:kb<w1.heap.size:=Nat.lt_of_lt_of_le qC (aa qI).size)
   | (go_at_call 116;refine (aa Ls).mono ?_;clear Ls;rintro x w2 ⟨c2,t2,T2,S2,C2,rfl,hc2,wQ,jc⟩;have tY:Hid (bg t1 t2 w1 w2):=(aa jc).fr;have JA:=hide (bg.own tY hlt1 Em (aa Da));obtain ⟨s0,s1,s2,s3⟩:=bO (aa JA)))
 have UL:t2.tb=t.tb:=(aa tY).tb.trans (aa qI).tb
 have hx2:=(aa jc).get ((aa nV).get (aa HXI))
 obtain ⟨gt,q2,-,-,-,-,a4⟩:=(aa wQ).tab.at hx2
 rw [UL] at q2
 dsimp only at a4
 have hI:(i:Int)<(T2.length:Int):=by have:=(List.getElem?_eq_some_iff.1 hx2).1;omega
 have HRX:=hide hc2
 have acP:=hide ((aa jc).rp ((aa nV).rp (aa HRJ)))
 have Kr:=hide (((Nx.world (bg.drewN (aa sQ) 1)).trans ((aa nV).ok fun j (hj:j<=i)=>(show j<n by omega))).trans (aa jc))
 have aaH:=hide (fun q=>aa HBU (w2.drewN q) t2 T2 S2 C2 (Sz.drewN wQ q) (aa acP) (by have:=(aa Kr).pay;omega))
 rw [UL] at aaH
 clear hx2 CJ Da JA k0 k1 k2 k3 r0 r1' r2 r3 qI tY nV jc wP hr1 hc2 sQ LY HXI HBU s0 s1
 go_wp2_with fail
 go_quiet (fail)
 go_wp2_with (first
  | (go_at_call 101;refine (aa aaH _).mono ?_;clear aaH;rintro x w3 ⟨r3,t3,T3,S3,C3,rfl,hr3,C_,mJ⟩;have UM:=hide ((aa Kr).trans ((Nx.world (bg.drewN (bg.refl _ _) nq)).trans ((aa mJ).ok fun i (hj:i<=j)=>(show i<n by omega))));have HA4:=hide (aa HAN w3 t3 T3 S3 C3 c2 r3 C_ ((aa mJ).rp (aa HRX)) hr3 (by have:=(aa UM).pay;omega));rw [(aa mJ).fr.tb,UL] at HA4;clear HAN)
  | (go_at_call 79;refine (aa HA4).mono ?_;clear HA4;rintro x w5 HH;have BQ:=hide HH;obtain ⟨r5,t5,T5,S5,C5,rfl,-⟩:=HH))
 go_ret
 have h1:=BO.then ((aa UM).trans (Nx.world (bg.below ((Below.refl _ _).alloc (Nat.le_refl _) _)))) (aa BQ)
 exact h1.less (by have:=aa HGG;omega)
end
end Go.Proofs.YtfolanohokflkaaGreatDoor
namespace Go.Proofs.YtfolanohokflkaaGreatDoor
open Go.RowKit
open Tm (eps)
section
variable {w W:World} {t:TB} {T:List Te} {N S C:List (Value×Value)} {k:Ky} {B:List Int} {G:List Gx} {V:List Value} {P:Tm->Prop}
theorem Mo {w w4 w5:World} {t t4:TB} (h:Sz B w4 t4 T S C) (hf:bg t t4 w w4) (hlt:∀ k,TF t k->k<w.heap.size) (hb:Below w.heap.size w4 w5) (hk:∀ B' e' s' u m ys,e'≠3->w4.ownsRow B' e' s' u m ys->w5.ownsRow B' e' s' u m ys):Sz B w5 t4 T S C:=by
 refine ⟨FT h.tab hf hlt hb hk,h.ti,⟨h.cv.1,fun p hp=>?_⟩,h.sv⟩
 obtain ⟨n,g,cap,l,y,e,h1,h2,h2',h3⟩:=h.cv.2 p hp
 exact ⟨n,g,cap,l,y,e,h1,h2,h2',hk _ _ _ _ _ _ (by decide) h3.own,h3.apart⟩
theorem zF {w w':World} {t t':TB} {base n:Nat} {v:Value} {xs:List Value} (ht:aZ w t T N S C) (h:w.ownsRow base 3 1 v n xs) (hf:bg t t' w w'):w'.ownsRow base 3 1 v n xs:=by
 refine FR h hf fun k hk=>?_
 obtain ⟨ao,cap,rfl,-⟩:=aN h
 have h':=h
 obtain ⟨_,⟨hv,_⟩ | ⟨g,cap',cur,hv,_⟩⟩:=h
 ·rw [hv] at hk;cases hk
 ·rw [hv] at h' hk
  injection hv with e1 e2 e3
  have:g=k:=by simpa [Value.ownBlock] using hk
  subst this
  exact wy ht h'
theorem ik.get {l:List Nat} {ts:List Tm} (h:ik T l ts):∀ {k n:Nat},l[k]? = some n->∃ y,ts[k]? = some y/\Rp T n y:=by
 induction h with
 | nil=>intro k n e;simp at e
 | @cons m y l ts h1 _ ih=>intro k n e;cases k with
  | zero=>simp at e;subst e;exact ⟨y,rfl,h1⟩
  | succ k=>simp at e;obtain ⟨z,h2,h3⟩:=ih e;exact ⟨z,by simpa using h2,h3⟩
set_option maxRecDepth 100000 in
set_option maxHeartbeats 4000000 in
theorem Db {n:Nat} {c d:Int} {ns:List Nat} {ys:List Tm} {g0 cap0:Nat} (h:Hid (Sz B w t T S C)) (hsd:aC d=true) (hr:ik T ns ys) (hl:ns.length<=1000000) (ha:∀ m∈ns,m<n/\∀ y,Rp T m y->Seg y c d/\Jv B G m y c) (hV:∀ v∈V,∃ (m:Nat) (d':Int),n<=m/\v=jZ m d') (hlim:T.length+nW G T (S.map (·.1)++V)<=gW)
  (hcl:∀ j m,ns[j]? = some m->w.cell? ⟨g0,j,none⟩=some (.int .i64 ((m:Nat):Int))) (hg0:g0<w.heap.size) (hg0':¬ TF t g0) :
  Calls Tryz.prog 180 #[.pointer (some ⟨t.tb,0,none⟩),.slice (some ⟨g0,0,none⟩) ns.length cap0,.int .i32 d] w fun e w'=>∃ (ao:Option Addr) (cap:Nat) (rs:List Nat) (t':TB) (T':List Te) (S' C':List (Value×Value)),e=.returned (.slice ao ns.length cap)/\ik T' rs (ys.map (aG d))/\rs.length=ns.length/\Hid (w'.ownsRow w.heap.size 3 1 (.slice ao ns.length cap) ns.length (ints (aA rs)))/\Hid (Sz B w' t' T' S' C')/\Hid (Nx G V (fun i=>i<n) 0 w t T S w' t' T' S'):=by
 have yT:=hide hcl
 have HRL:=hide hr
 have HA:=hide ha
 have HV:=hide hV
 have RF:Hid (∀ k,TF t k->k<w.heap.size):=fun k hk=>(aa h).tab.foot hk
 clear hcl hr ha hV
 go_enter Tryz.func180,Tryz.ntmps180
 go_wp2_with fail
 go_loopw [7,12] (fun v i wr=>∃ (k':Nat) (ao:Option Addr) (cap:Nat) (rs:List Nat) (t1:TB) (T1:List Te) (S1 C1:List (Value×Value)),k'<=ns.length/\i=.int .i64 (k':Int)/\v=.slice ao k' cap/\Hid (rs.length=k')/\Hid (wr.ownsRow w.heap.size 3 1 (.slice ao k' cap) k' (ints (aA rs)))/\Hid (ik T1 rs ((ys.take k').map (aG d)))/\Hid (Sz B wr t1 T1 S1 C1)/\Hid (Nx G V (fun i=>i<n) 0 w t T S wr t1 T1 S1)) (fun _ i _=>ns.length - (intOf i).toNat)
 case atStart=>exact ⟨0,none,0,[],t,T,S,C,Nat.zero_le _,rfl,rfl,rfl,World.ownsRow_nil _ _ _ _,.nil,h,Nx.world (bg.refl _ _)⟩
 case round=>
  obtain ⟨k',ao,cap,rs,t1,T1,S1,C1,hk',rfl,rfl,HM,HO,HRS,HY,HN⟩:=hrel
  by_cases hlt:k'<ns.length
  ·have cx:wr.cell? ⟨g0,k',none⟩=some (.int .i64 ((ns[k']:Nat):Int)):=by
    rw [World.cell?_of_block (a:=⟨g0,k',none⟩) ((aa HN).fr.block g0 hg0 hg0')]
    exact aa yT k' _ (by simp [hlt])
   obtain ⟨y,hy1,hy2⟩:=(aa HRL).get (List.getElem?_eq_getElem hlt)
   obtain ⟨hmn,hm2⟩:=aa HA ns[k'] (List.getElem_mem _)
   obtain ⟨hsg,ab3⟩:=hm2 y hy2
   have Mm:=hide (ab3 wr t1 T1 S1 C1 V d ((aa HN).rp hy2) hsd hsg (fun v hv=>by obtain ⟨m,d',q1,q2⟩:=aa HV v hv;exact ⟨m,d',by omega,q2⟩) HY (by have:=(aa HN).pay;omega))
   rw [(aa HN).fr.tb] at Mm
   have wP:=hide hy1
   have Y5:(k':Int)<(ns.length:Int):=by omega
   have hws:w.heap.size<=wr.heap.size:=(aa HN).fr.size
   clear hy1 hy2 hm2 hsg ab3
   generalize ns[k']=m at *
   go_wp2_with (first
    | (go_at_call 101;refine (aa Mm).mono ?_;clear Mm;rintro e w2 ⟨r2,t2,T2,S2,C2,rfl,hr2,wQ,jc⟩;have lD:=hide (zF (aa HY).tab (aa HO) (aa jc).fr);have mJ:=hide ((aa HN).trans ((aa jc).ok fun i (hj:i<=m)=>(show i<n by omega)));have hw2:w.heap.size<=w2.heap.size:=(aa mJ).fr.size;have UN:Hid (Below w.heap.size w2 w2):=Below.refl _ _;have HR2:=hide hr2;clear hr2)
    | (at_builtin;refine mH Tryz.underlying31 jK rfl (by decide) (by decide) w.heap.size w2 w2 _ _ [.int .i64 (r2:Int)] _ (.tmp 16) (.tmp 21) rfl rfl rfl w2.heap.size rfl rfl lD UN hw2 (by omega) rfl (by intro u hu;simp at hu;rw [hu];rfl) ?_;intro g5 cap5 w5 v_ qx Ko;have HY5:Hid (Sz B w5 t2 T2 S2 C2):=Mo (aa wQ) (aa mJ).fr (aa RF) (aa qx) (aa Ko)))
   go_roundw
   case rel=>
    refine ⟨k'+1,some ⟨g5,0,none⟩,cap5,rs++[r2],t2,T2,S2,C2,by omega,by go_num,rfl,by show _=_;rw [List.length_append,aa HM];rfl,?_,?_,HY5,?_⟩
    ·show World.ownsRow _ _ _ _ _ _ _
     rw [il,show ints (aA rs++aA [r2])=ints (aA rs)++[.int .i64 (r2:Int)] from by simp [ints,aA]]
     exact v_
    ·have e1:ys.take (k'+1)=ys.take k'++[y]:=by
      have hy:=aa wP
      obtain ⟨hk1,hk2⟩:=List.getElem?_eq_some_iff.1 hy
      rw [List.take_succ_eq_append_getElem hk1,hk2]
     show ik _ _ _
     rw [e1,List.map_append]
     refine ik.app ?_ (.cons (aa HR2) .nil)
     obtain ⟨X,eX⟩:=(aa jc).sub
     rw [eX]
     exact (aa HRS).mono
    ·have h3:=aa mJ
     exact ⟨h3.sub,h3.yY,h3.new,wu h3.fr (aa qx),by have:=h3.pay;omega⟩
   case measure=>simp [intOf];omega
  ·obtain rfl:k'=ns.length:=by omega
   go_wp2_with fail
   go_ret
   refine ⟨ao,cap,rs,t1,T1,S1,C1,rfl,?_,aa HM,HO,HY,HN⟩
   have h1:=aa HRS
   rwa [<-(aa HRL).len,List.take_length] at h1
def kF2 (k:Bool):Nat:=if k=true then 184 else 179
def kG (k:Bool):Nat:=if k=true then 77 else 79
theorem UO (k:Bool) {ok:Nat->Prop} {l:List Nat} {ts:List Tm} {g0 cap0:Nat} (h:Hid (Sz B w t T S C)) (hB:B.length<=480) (hr:ik T l ts) (hne:l≠[]) (hln:l.length<=500000) (qc:∀ t∈ts,(memT k t).length<=200000) (QF:(memT k (aj k ts)).length<=200000) (hlim:T.length+(memT k (aj k ts)).length+2<=gW)
  (hc:∀ j x,(aA l)[j]? = some x->w.cell? ⟨g0,j,none⟩=some (.int .i64 x)) (hg0:g0<w.heap.size) :
  Calls Tryz.prog (kG k) #[.pointer (some ⟨t.tb,0,none⟩),.slice (some ⟨g0,0,none⟩) l.length cap0] w (BO B G V ok ((memT k (aj k ts)).length+1) (aj k ts) w t T S):=by
 cases k
 ·exact UK h hB hr hne hln qc QF hlim hc hg0
 ·exact aaG h hB hr hne hln qc QF hlim hc hg0
theorem QM {d:Int} {k:Bool} {n:Nat} {z:Tm} {l:List Nat} {ys:List Tm} (hT:TI B T) (hr:Rp T n z) (sp:j6 T k n l) (hl:ik T l ys):aj k (ys.map (aG d))=aG d z:=by
 have hcn:=hT.cn hr
 have hm:∀ x,x∈ys↔x∈memT k z:=fun x=>by rw [hT.mem hr sp x];exact hl.mem
 rw [rA (k:=k) hcn]
 refine fD (fun x hx=>?_) fun x=>?_
 ·obtain ⟨y,hy,rfl⟩:=List.mem_map.1 hx
  exact (fP d (hl.cn hT.toTJ y hy)).1
 ·simp only [List.mem_map,hm]
set_option maxRecDepth 100000 in
set_option maxHeartbeats 4000000 in
theorem aaI {k:Bool} {n i j:Nat} {c:Int} {z:Tm} {g:Nat} (hB:B.length<=480) (hsc:aC c=true) (ha:∀ m x,m<n->x∈memT k z->Jv B G m x c) (hf1:(memT k z).length<=200000) (hf2:∀ x∈memT k z,(memT k (aG c x)).length<=200000) (hf3:(memT k (aG c z)).length<=200000) (hg:(memT k (aG c z)).length+2<=g):FZ B G n z c (bZ k i j) (kF2 k) g:=by
 intro w t T S C V d b hr hx hsd hseg hV dO hlim
 have hT:=(aa dO).ti
 obtain ⟨h1,h2⟩:=uH hT.wf hx
 obtain ⟨u,hu,-⟩:=hT.all j (by have:=hr.lt;omega)
 obtain ⟨l,hl⟩:=j6.rp (k:=k) hu
 have sp:j6 T k n (i::l):=.more hx hl
 have qc:=zB hT hr sp
 have hlen:(i::l).length=l.length+1:=rfl
 have hmem:=fun x=>hT.mem hr sp x
 have hok:fZ z:=(hT.cn hr).ok
 have hlt:∀ m∈i::l,m<n:=fun m hm=>by
  rcases List.mem_cons.1 hm with q | q
  ·omega
  ·have:=hl.le hT.wf m q;omega
 obtain ⟨ys,hys⟩:=ik.of (T:=T) (l:=i::l) fun m hm=>by
  obtain ⟨x,hx1,-⟩:=hT.all m (by have:=hlt m hm;have:=hr.lt;omega)
  exact ⟨x,hx1⟩
 have UQ:∀ x∈memT k z,Seg x c d:=fun x hx b hb=>hseg b ((FM (k:=k) z).2 ⟨x,hx,hb⟩)
 have hym:∀ x∈ys,x∈memT k z:=fun x hx=>(hmem x).2 (hys.mem.1 hx)
 have ab4:∀ x∈ys,fZ x:=fun x hx=>(hys.cn hT.toTJ x hx).ok
 have hdp:=QM (d:=d) hT hr sp hys
 rw [show aG c z=aG d z from ou hsc hsd _ (Nat.le_refl _) hok hseg] at hf3 hg
 rw [<-hdp] at hf3 hg ⊢
 have HGG:=hide hg
 have hfm:∀ x∈ys.map (aG d),(memT k x).length<=200000:=fun x hx=>by
  obtain ⟨y,hy,rfl⟩:=List.mem_map.1 hx
  rw [<-ou hsc hsd _ (Nat.le_refl _) (ab4 y hy) (UQ y (hym y hy))]
  exact hf2 y (hym y hy)
 have HP:=hide (Ei (i:=i) (aZ.alloc (hide (aa dO).tab) (.cells #[.int .i64 (kk k),.string ⟨#[]⟩,.int .i64 (i:Int),.int .i64 (j:Int)] 135)) hT.wf hl (by omega))
 have sQ:Hid (bg t t w (w.alloc (.cells #[.int .i64 (kk k),.string ⟨#[]⟩,.int .i64 (i:Int),.int .i64 (j:Int)] 135))):=bg.below ((Below.refl _ _).alloc (Nat.le_refl _) _)
 have HSA:=Sz.alloc dO (.cells #[.int .i64 (kk k),.string ⟨#[]⟩,.int .i64 (i:Int),.int .i64 (j:Int)] 135)
 have HBA:=hide (fun (w2:World) (g2 cap2:Nat) (hb:Below (w.alloc (.cells #[.int .i64 (kk k),.string ⟨#[]⟩,.int .i64 (i:Int),.int .i64 (j:Int)] 135)).heap.size (w.alloc (.cells #[.int .i64 (kk k),.string ⟨#[]⟩,.int .i64 (i:Int),.int .i64 (j:Int)] 135)) w2) (ho:w2.ownsRow (w.alloc (.cells #[.int .i64 (kk k),.string ⟨#[]⟩,.int .i64 (i:Int),.int .i64 (j:Int)] 135)).heap.size 3 1 (.slice (some ⟨g2,0,none⟩) (l.length+1) cap2) (l.length+1) (ints (aA (i::l))))=>
  Db (n:=n) (c:=c) (d:=d) (ns:=i::l) (ys:=ys) (V:=V) (g0:=g2) (cap0:=cap2) (Sz.below HSA hb) hsd hys (by omega) (fun m hm=>⟨hlt m hm,fun y hy=>⟨UQ y ((hmem y).2 ⟨m,hm,hy⟩),ha m y (hlt m hm) ((hmem y).2 ⟨m,hm,hy⟩)⟩⟩) hV (by omega) (fun k n hk=>by
   have hkl:k<l.length+1:=(List.getElem?_eq_some_iff.1 hk).1
   rw [ho.cellAt k (by omega)]
   unfold ints aA
   rw [List.getElem?_map,List.getElem?_map,hk];rfl) (ho.lt g2 rfl).2 (aZ.dW (hide (aa HSA).tab) (ho.lt g2 rfl).1))
 rw [hlen] at HBA
 have JB:=hide (fun (w3:World) (t3:TB) (T3:List Te) (S3 C3:List (Value×Value)) (rs:List Nat) (g3 gm:Nat) (h3:Hid (Sz B w3 t3 T3 S3 C3)) (hrs:ik T3 rs (ys.map (aG d))) (hrl:rs.length=l.length+1) (ho:w3.ownsRow (w.alloc (.cells #[.int .i64 (kk k),.string ⟨#[]⟩,.int .i64 (i:Int),.int .i64 (j:Int)] 135)).heap.size 3 1 (.slice (some ⟨g3,0,none⟩) (l.length+1) gm) (l.length+1) (ints (aA rs))) (hp:T3.length+nW G T3 (S3.map (·.1)++V)<=T.length+nW G T (S.map (·.1)++V)+0)=>UO (G:=G) (V:=V) (ok:=fun j=>j<n) (cap0:=gm) k h3 hB hrs (by intro e;rw [e] at hrl;cases hrl) (by omega) hfm hf3 (by omega) (fun j x hj=>by
   have hjl:j<rs.length:=by
    have:=(List.getElem?_eq_some_iff.1 hj).1
    rwa [aL] at this
   rw [ho.cellAt j (by omega)]
   unfold ints
   rw [List.getElem?_map,hj];rfl) (ho.lt g3 rfl).2)
 unfold iF bZ at HP
 unfold iF bZ kF2
 dsimp only at HP ⊢
 clear dO hT hx hr hseg hsd hV hlim h1 h2 hu hl sp qc hmem hok hlt hys UQ hym ab4 hf3 hf2 hf1 hg hfm HSA ha hdp hB
 cases k with
 | false=>
  rw [if_neg (by simp)]
  rw [show kk false=4 from rfl] at sQ HP HBA JB ⊢
  rw [show kG false=79 from rfl] at JB
  go_enter Tryz.func179,Tryz.ntmps179
  go_wp2_with (first
   | (go_at_call 181;refine (aa HP).mono ?_;clear HP;rintro x w2 ⟨g2,cap2,rfl,lD,HB2⟩;have XY:=hide (aa HBA w2 g2 cap2 (aa HB2) (aa lD));clear HBA)
   | (go_at_call 180;refine (aa XY).mono ?_;clear XY;rintro x w3 ⟨ao3,gm,rs,t3,T3,S3,C3,rfl,hrs,hrl,pQ,C_,mJ⟩;obtain ⟨ao',cap',e',hv⟩:=aN (aa pQ);injection e' with e1 e2 e3;subst e1;subst e3;obtain ⟨g3,rfl,-⟩:=hv (by omega);have lW:=hide (aa JB w3 t3 T3 S3 C3 rs g3 gm C_ hrs hrl (eO (aa pQ) (aa HB2).size) (aa mJ).pay);rw [(aa mJ).fr.tb,hrl] at lW;clear JB hv)
   | (go_at_call 79;refine (aa lW).mono ?_;clear lW;rintro x w4 HH;have BQ:=hide HH;obtain ⟨r4,t4,T4,S4,C4,rfl,-⟩:=HH))
  go_ret
  have h1:=BO.then ((Nx.world ((aa sQ).trans (bg.below (aa HB2)))).trans (aa mJ)) (aa BQ)
  exact h1.less (by have:=aa HGG;omega)
 | true=>
  rw [if_pos rfl]
  rw [show kk true=5 from rfl] at sQ HP HBA JB ⊢
  rw [show kG true=77 from rfl] at JB
  go_enter Tryz.func184,Tryz.ntmps184
  go_wp2_with (first
   | (go_at_call 181;refine (aa HP).mono ?_;clear HP;rintro x w2 ⟨g2,cap2,rfl,lD,HB2⟩;have XY:=hide (aa HBA w2 g2 cap2 (aa HB2) (aa lD));clear HBA)
   | (go_at_call 180;refine (aa XY).mono ?_;clear XY;rintro x w3 ⟨ao3,gm,rs,t3,T3,S3,C3,rfl,hrs,hrl,pQ,C_,mJ⟩;obtain ⟨ao',cap',e',hv⟩:=aN (aa pQ);injection e' with e1 e2 e3;subst e1;subst e3;obtain ⟨g3,rfl,-⟩:=hv (by omega);have lW:=hide (aa JB w3 t3 T3 S3 C3 rs g3 gm C_ hrs hrl (eO (aa pQ) (aa HB2).size) (aa mJ).pay);rw [(aa mJ).fr.tb,hrl] at lW;clear JB hv)
   | (go_at_call 77;refine (aa lW).mono ?_;clear lW;rintro x w4 HH;have BQ:=hide HH;obtain ⟨r4,t4,T4,S4,C4,rfl,-⟩:=HH))
  go_ret
  have h1:=BO.then ((Nx.world ((aa sQ).trans (bg.below (aa HB2)))).trans (aa mJ)) (aa BQ)
  exact h1.less (by have:=aa HGG;omega)
end
end Go.Proofs.YtfolanohokflkaaGreatDoor
namespace Go.Proofs.YtfolanohokflkaaGreatDoor
open Go.RowKit
open Tm (eps)
section
variable {B:List Int} {G:List Gx} {Vd:Tm->Int->Prop}
theorem QO (k:Bool) (args:Array Value) (w:World):(callFunc (kF2 k) args).run Tryz.prog w=.ok (.enter (kF2 k) args) w:=by
 cases k
 ·exact aJ Tryz.func179 (by kernel_rfl) (by kernel_rfl) args w
 ·exact aJ Tryz.func184 (by kernel_rfl) (by kernel_rfl) args w
theorem Mq (hB:B.length<=480) (hS:Us G Vd) {c:Int}:∀ n y,Vd y c->Jv B G n y c:=by
 intro n
 induction n using Nat.strongRecOn with
 | _ n ih=>
  intro y hv w t T S C V d hr hsd hseg hV h hlim
  have hT:=(aa h).ti
  have hsc:=hS.sym hv
  have hP:=hS.fw c
  have JC:=hS.cost hv
  have hr0:=hr
  cases hr with
  | set hx ht=>
   exact jm hB hP hv hr0 hx hsd hseg hV h hlim (gg:=0) (.inl rfl) (m:=0) rfl (by decide) rfl (aJ Tryz.func164 (by kernel_rfl) (by kernel_rfl)) (hide (aaE hB ht (hT.sin n _ hr0)))
  | eps hx=>
   exact jm hB hP hv hr0 hx hsd hseg hV h hlim (gg:=0) (.inl rfl) (m:=1) rfl (by decide) rfl (aJ Tryz.func169 (by kernel_rfl) (by kernel_rfl)) (hide UH)
  | @chain _ i j a u b hx ha hu=>
   obtain ⟨h1,h2⟩:=rF hT.wf hx
   have hc:∃ k,((Tm.chain a u,c),k)∈G/\nK c (.chain a u)<=k:=by
    rcases JC with q | q
    ·cases q
    ·exact q
   have hbf:FZ B G n (.chain a u) c (bP i j) 172 (nK c (.chain a u)):=by
    cases h0:cO a with
    | false=>exact QJ h1 hsc (ih i h1 a (hS.head hv)) h0 (by simp only [nK];omega)
    | true=>exact QK h1 h2 hB hsc (ih i h1 a (hS.head hv)) (ih j h2 u (hS.next hv h0)) h0 (hS.ab0 hv) (hS.few false (hS.next hv h0)).2 (hS.few false hv).2 (Nat.le_refl _)
   exact jm hB hP hv hr0 hx hsd hseg hV h hlim (.inr hc) (m:=2) rfl (by decide) rfl (aJ Tryz.func172 (by kernel_rfl) (by kernel_rfl)) (hide hbf)
  | @star _ i a b hx ha=>
   have hc:∃ k,((Tm.star a,c),k)∈G/\nK c (.star a)<=k:=by
    rcases JC with q | q
    ·cases q
    ·exact q
   exact jm hB hP hv hr0 hx hsd hseg hV h hlim (.inr hc) (m:=3) rfl (by decide) rfl (aJ Tryz.func176 (by kernel_rfl) (by kernel_rfl)) (hide (XX (vZ hT.wf hx) hsc (ih i (vZ hT.wf hx) a (hS.star hv))))
  | @not _ i a b hx ha=>
   have hc:Jz a=0\/∃ k,((Tm.not a,c),k)∈G/\Jz a<=k:=by
    rcases JC with q | ⟨k,q1,q2⟩
    ·have:a=aH:=by
      unfold cu at q
      split at q<;>first | rfl | (rename_i e;cases e;rfl) | cases q
      all_goals simp_all
     exact .inl (by unfold Jz;rw [if_pos this])
    ·refine .inr ⟨k,q1,Nat.le_trans ?_ q2⟩
     unfold Jz
     simp only [nK]
     split<;>omega
   exact jm hB hP hv hr0 hx hsd hseg hV h hlim hc (m:=6) rfl (by decide) rfl (aJ Tryz.func187 (by kernel_rfl) (by kernel_rfl)) (hide (aaF (Bl hT.wf hx) (ih i (Bl hT.wf hx) a (hS.neg hv))))
  | @aT _ i j k s u b hx hs hu=>
   obtain ⟨⟨a,e,eq⟩,-⟩:=(hT.VV hr0).yes k i j b hx
   rw [eq] at hv hr0 hseg JC ⊢
   have hc:∃ q,((Tm.aT k a e,c),q)∈G/\nK c (.aT k a e)<=q:=by
    rcases JC with q | q
    ·cases q
    ·exact q
   exact jm hB hP hv hr0 hx hsd hseg hV h hlim (.inr hc) (m:=if k=true then 5 else 4) (f:=kF2 k) (by cases k<;>rfl) (by cases k<;>decide) (by cases k<;>rfl) (QO k) (hide (aaI hB hsc (fun m x hm hx=>ih m hm x (hS.mem hv hx)) (hS.few k hv).1 (fun x hx=>(hS.few k (hS.mem hv hx)).2) (hS.few k hv).2 (Nat.le_refl _)))
end
end Go.Proofs.YtfolanohokflkaaGreatDoor
