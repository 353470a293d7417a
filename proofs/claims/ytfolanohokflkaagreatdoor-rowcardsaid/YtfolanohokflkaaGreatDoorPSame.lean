import Derived.Test.YtfolanohokflkaaGreatDoorDec
import Derived.Test.YtfolanohokflkaaGreatDoorPSpec
namespace Go.Proofs.YtfolanohokflkaaGreatDoor
theorem mK {l:List Sy} (h:¬ hd l=-1):l.tail.length<l.length:=by
 cases l with
 | nil=>exact absurd rfl h
 | cons x r=>simp
theorem fH (l:List Sy):l.tail.length<=l.length:=by rw [List.length_tail];omega
theorem y7 {n:Nat} {a:Int} {l:List Sy} {y:Int×List Sy} (h:bP n a l=.ok y):y.2.length<=l.length:=by
 have h1:=fH l
 have h2:=fH l.tail
 unfold bP at h
 split at h
 ·split at h
  ·cases h
  ·injection h with h
   subst h
   unfold iR
   split<;>dsimp only<;>omega
 ·cases h
theorem BL {n:Nat} {m:Int} {l:List Sy} {y:Int×List Sy} (h:rE n m l=.ok y):y.2.length<=l.length:=by
 have h1:=fH l
 unfold rE at h
 split at h
 ·injection h with h;subst h;exact h1
 ·cases h
theorem Jq {n:Nat} {l:List Sy} {y:Int×List Sy} (h:tK n l=.ok y):y.2.length<=l.length:=by
 unfold tK at h
 split at h
 ·cases h
 ·rename_i a l1 h1
  have g1:=y7 h1
  have t1:=fH l1
  have t2:=fH l1.tail
  dsimp only at g1
  split at h
  ·split at h
   ·injection h with h;subst h;dsimp only;omega
   ·split at h
    ·cases h
    ·rename_i m l2 h2
     have g2:=y7 h2
     have g3:=BL h
     dsimp only at g2
     omega
  ·have g3:=BL h
   omega
theorem y8 {n:Nat} {l:List Sy} {y:Int×List Sy} (hr:kH (hd l)=true) (h:qp n l=.ok y):y.2.length<l.length:=by
 have hp:=mK (l:=l) (by intro e;rw [e] at hr;exact absurd hr (by decide))
 unfold qp at h
 split at h
 ·have:=Jq h;omega
 ·injection h with h;subst h;exact hp
theorem Jr:∀ (f:Nat) (v:Int) (k:Nat) (l:List Sy),(mQ f v k l).2.2.length<=l.length
 | 0,_,_,_=>Nat.le_refl _
 | f+1,v,k,l=>by
  rw [mQ]
  split
  ·exact Nat.le_trans (Jr f _ _ _) (fH l)
  ·exact Nat.le_refl _
theorem RJ {n:Nat} {l:List Sy} {y:Int×List Sy} (h:mM n l=.ok y):y.2.length<=l.length:=by
 unfold mM at h
 split at h
 ·have g:=Jr 6 0 0 l.tail
  have t:=fH l
  have t2:=fH (mQ 6 0 0 l.tail).2.2
  unfold kI at h
  split at h
  ·cases h
  ·split at h
   ·injection h with h;subst h;dsimp only;omega
   ·cases h
 ·cases h
theorem y9 {n:Nat} {l:List Sy} {y:Int×List Sy} (h:dJ n l=.ok y):y.2.length<=l.length:=by
 have t:=fH l
 unfold dJ at h
 split at h
 ·have:=RJ h;omega
 ·split at h
  ·injection h with h;subst h;exact t
  ·split at h
   ·injection h with h;subst h;exact t
   ·cases h
theorem BM {n:Nat} {l:List Sy} {y:Int×List Sy} (h:fe n l=.ok y):y.2.length<l.length:=by
 unfold fe at h
 split at h
 ·rename_i zK
  have hp:=mK (l:=l) (by omega)
  have:=y9 h;omega
 ·split at h
  ·cases h
  ·injection h with h;subst h;exact mK (by omega)
theorem EL {l:List Sy} (h:isSet l=true):l.tail.tail.length<l.length:=by
 have h':hd l=92/\(hd l.tail=100\/hd l.tail=119):=by simpa [isSet] using h
 have hp:=mK (l:=l) (by omega)
 have:=fH l.tail
 omega
theorem EM {n:Nat} {l:List Sy} {y:Unit×List Sy} (h:IB n l=.ok y):y.2.length<l.length:=by
 unfold IB at h
 split at h
 ·rename_i hs
  injection h with h;subst h;exact EL hs
 ·split at h
  ·cases h
  ·rename_i a l1 h1
   have g1:=BM h1
   have t1:=fH l1
   dsimp only at g1
   split at h
   ·split at h
    ·cases h
    ·rename_i b l2 h2
     have g2:=BM h2
     dsimp only at g2
     split at h
     ·cases h
     ·injection h with h;subst h;dsimp only;omega
   ·injection h with h;subst h;exact g1
theorem nT {n:Nat}:∀ (f:Nat) {l:List Sy} {y:Unit×List Sy},jY n f l=.ok y->y.2.length<=l.length
 | 0,l,y,h=>by cases h
 | f+1,l,y,h=>by
  rw [jY] at h
  split at h
  ·injection h with h;subst h;exact fH l
  ·split at h
   ·cases h
   ·rename_i u l1 h1
    have g1:=EM h1
    have g2:=nT f h
    dsimp only at g1
    omega
theorem MZ {n:Nat} {l:List Sy} {y:Unit×List Sy} (h:AL n l=.ok y):y.2.length<=l.length:=by
 unfold AL at h
 split at h
 ·have:=nT _ h;have:=fH l;omega
 ·exact nT _ h
theorem EN {n:Nat} {l:List Sy} {y:Int×List Sy} (h:AO n l=.ok y):y.2.length<l.length:=by
 unfold AO at h
 split at h
 ·have hp:=mK (l:=l) (by omega)
  split at h
  ·cases h
  ·rename_i u l1 h1
   have:=MZ h1
   injection h with h;subst h;dsimp only at this ⊢;omega
 ·split at h
  ·have hp:=mK (l:=l) (by omega)
   split at h
   ·rename_i hs
    injection h with h;subst h;exact EL hs
   ·split at h
    ·cases h
    ·rename_i u l1 h1
     have:=y9 h1
     injection h with h;subst h;dsimp only at this ⊢;omega
  ·split at h
   ·injection h with h;subst h;exact mK (by omega)
   ·split at h
    ·cases h
    ·injection h with h;subst h;exact mK (by omega)
theorem EO {n:Nat}:∀ (f:Nat) {z:Int} {l:List Sy} {y:Int×List Sy},Eo n f z l=.ok y->y.2.length<=l.length
 | 0,_,l,y,h=>by cases h
 | f+1,z,l,y,h=>by
  rw [Eo] at h
  split at h
  ·rename_i hr
   split at h
   ·cases h
   ·rename_i m l1 h1
    have g1:=y8 hr h1
    have g2:=EO f h
    dsimp only at g1
    omega
  ·injection h with h;subst h;exact Nat.le_refl _
def Shr (at_:List Sy->bn Int):Prop:=∀ l y,at_ l=.ok y->y.2.length<l.length
def M0 (at_:List Sy->bn Int):Prop:=∀ l y,at_ l=.ok y->y.2.length<=l.length
theorem tV {n:Nat} {at_:List Sy->bn Int} (ha:Shr at_):∀ (f:Nat) {l:List Sy} {y:Int×List Sy},AP n at_ f l=.ok y->y.2.length<l.length
 | 0,l,y,h=>by cases h
 | f+1,l,y,h=>by
  rw [AP] at h
  split at h
  ·split at h
   ·cases h
   ·rename_i z l1 h1
    have g1:=tV ha f h1
    have t:=fH l
    injection h with h;subst h;dsimp only at g1 ⊢;omega
  ·split at h
   ·cases h
   ·rename_i z l1 h1
    have g1:=ha _ _ h1
    have g2:=EO _ h
    dsimp only at g1
    omega
theorem wL {n:Nat} {at_:List Sy->bn Int} (ha:Shr at_):∀ (f:Nat) {z:Int} {l:List Sy} {y:Int×List Sy},lY n at_ f z l=.ok y->y.2.length<=l.length
 | 0,_,l,y,h=>by cases h
 | f+1,z,l,y,h=>by
  rw [lY] at h
  split at h
  ·injection h with h;subst h;exact Nat.le_refl _
  ·split at h
   ·cases h
   ·rename_i x l1 h1
    have g1:=tV ha _ h1
    have g2:=wL ha f h
    dsimp only at g1
    omega
theorem Js {n:Nat} {at_:List Sy->bn Int} (ha:Shr at_):M0 (Us n at_):=by
 intro l y h
 unfold Us at h
 split at h
 ·injection h with h;subst h;exact Nat.le_refl _
 ·split at h
  ·cases h
  ·rename_i x l1 h1
   have g1:=tV ha _ h1
   have g2:=wL ha _ h
   dsimp only at g1
   omega
theorem wM {n:Nat} {sub:List Sy->bn Int} {sg:Int} (hs:M0 sub):∀ (f:Nat) {z:Int} {l:List Sy} {y:Int×List Sy},lZ n sub sg f z l=.ok y->y.2.length<=l.length
 | 0,_,l,y,h=>by cases h
 | f+1,z,l,y,h=>by
  rw [lZ] at h
  split at h
  ·split at h
   ·cases h
   ·rename_i x l1 h1
    have g1:=hs _ _ h1
    have t:=fH l
    have g2:=wM hs f h
    dsimp only at g1
    omega
  ·injection h with h;subst h;exact Nat.le_refl _
theorem Jt {n:Nat} {sub:List Sy->bn Int} {sg:Int} (hs:M0 sub):M0 (Rj n sub sg):=by
 intro l y h
 unfold Rj at h
 split at h
 ·cases h
 ·rename_i x l1 h1
  have g1:=hs _ _ h1
  have g2:=wM hs _ h
  dsimp only at g1
  omega
theorem EP {n:Nat} {at_:List Sy->bn Int} (ha:Shr at_):M0 (aaY n at_):=Jt (Js ha)
theorem Ju {n:Nat} {at_:List Sy->bn Int} (ha:Shr at_):M0 (zQ n at_):=Jt (EP ha)
theorem ER (n:Nat):∀ k,Shr (yS n k)
 | 0=>by
  intro l y h
  rw [yS] at h
  split at h
  ·cases h
  ·exact EN h
 | k+1=>by
  intro l y h
  rw [yS] at h
  split at h
  ·have hp:=mK (l:=l) (by omega)
   split at h
   ·cases h
   ·rename_i z l1 h1
    have g1:=Ju (ER n k) _ _ h1
    have t:=fH l1
    split at h
    ·injection h with h;subst h;dsimp only at g1 ⊢;omega
    ·cases h
  ·exact EN h
end Go.Proofs.YtfolanohokflkaaGreatDoor
namespace Go.Proofs.YtfolanohokflkaaGreatDoor
def dV (r:bn Int) (q:bn Pn):Prop:=r=o5 Prod.snd q/\∀ v l,q=.ok (v,l)->0<=v.2/\v.2<=61
def oI (a:List Sy->bn Int) (b:List Sy->bn Pn):Prop:=∀ l,dV (a l) (b l)
theorem dV.bad {e:Int} {n:Nat} {l:List Sy}:dV (bad e n l) (bad e n l):=⟨rfl,fun _ _ h=>by simp [Go.Proofs.YtfolanohokflkaaGreatDoor.bad] at h⟩
theorem dV.err {x:Int×Int}:dV (.error x) (.error x):=⟨rfl,fun _ _ h=>by cases h⟩
theorem dV.ok {v:Pn} {l:List Sy} (h0:0<=v.2) (h1:v.2<=61):dV (.ok (v.2,l)) (.ok (v,l)):=⟨rfl,fun _ _ h=>by cases h;exact ⟨h0,h1⟩⟩
theorem BN (n:Nat) (m:jc) (l:List Sy):rE n m.2.2 l=o5 (fun o=>o.2.2) (fK n m l):=by
 unfold rE fK
 split<;>rfl
theorem Jv (n:Nat) (l:List Sy):tK n l=o5 (fun o=>o.2.2) (gI n l):=by
 unfold tK gI
 cases h:bP n 0 l with
 | error x=>rfl
 | ok y=>
  obtain ⟨a,l1⟩:=y
  simp only []
  by_cases h1:hd l1=44
  ·rw [if_pos h1,if_pos h1]
   by_cases h2:hd l1.tail=125
   ·rw [if_pos h2,if_pos h2];rfl
   ·rw [if_neg h2,if_neg h2]
    cases h3:bP n a l1.tail with
    | error x=>rfl
    | ok z=>exact BN n (a.toNat,some z.1.toNat,kE z.1) z.2
  ·rw [if_neg h1,if_neg h1];exact BN n (a.toNat,some a.toNat,kE a) l1
theorem r_ (n:Nat) (l:List Sy):qp n l=o5 (fun o=>o.2.2) (dM n l):=by
 unfold qp dM
 by_cases h:hd l=123
 ·rw [if_pos h,if_pos h];exact Jv n l.tail
 ·rw [if_neg h,if_neg h]
  split
  ·rfl
  ·split<;>rfl
def ES:bn ah->bn Unit:=o5 fun _=>()
theorem ET (n:Nat) (l:List Sy):IB n l=ES (jA n l):=by
 unfold IB jA ES
 by_cases h:isSet l=true
 ·rw [if_pos h,if_pos h];rfl
 ·rw [if_neg h,if_neg h]
  cases h1:fe n l with
  | error x=>rfl
  | ok y=>
   obtain ⟨a,l1⟩:=y
   simp only []
   by_cases h2:hd l1=45
   ·rw [if_pos h2,if_pos h2]
    cases h3:fe n l1.tail with
    | error x=>rfl
    | ok z=>
     simp only []
     split<;>rfl
   ·rw [if_neg h2,if_neg h2];rfl
theorem nU (n:Nat):∀ (f:Nat) (s:ah) (l:List Sy),jY n f l=ES (bB n f s l)
 | 0,_,_=>rfl
 | f+1,s,l=>by
  rw [jY,bB,ET]
  by_cases h:hd l=93
  ·rw [if_pos h,if_pos h];rfl
  ·rw [if_neg h,if_neg h]
   cases h1:jA n l with
   | error x=>rfl
   | ok y=>exact nU n f (q9 s y.1) y.2
theorem RL (r:bn ah):ES (Bv r)=ES r:=by cases r<;>rfl
theorem M3 (n:Nat) (l:List Sy):AL n l=ES (iG n l):=by
 unfold AL iG
 by_cases h:hd l=94
 ·rw [if_pos h,if_pos h,RL];exact nU n _ [] _
 ·rw [if_neg h,if_neg h];exact nU n _ [] _
theorem EU (n:Nat) (l:List Sy):dV (AO n l) (kY (eB n l)):=by
 have key:AO n l=o5 (fun _=>(1:Int)) (eB n l):=by
  unfold AO eB
  by_cases h1:hd l=91
  ·rw [if_pos h1,if_pos h1,M3]
   cases iG n l.tail<;>rfl
  ·rw [if_neg h1,if_neg h1]
   by_cases h2:hd l=92
   ·rw [if_pos h2,if_pos h2]
    split
    ·rfl
    ·cases dJ n l.tail<;>rfl
   ·rw [if_neg h2,if_neg h2]
    split
    ·rfl
    ·split<;>rfl
 rw [key]
 cases h:eB n l with
 | error x=>exact dV.err
 | ok y=>exact dV.ok (v:=(.set y.1,1)) (show (0:Int)<=1 by decide) (show (1:Int)<=61 by decide)
theorem Pf {n:Int} (h:0<=n):0<=dG n/\dG n<=61:=by unfold dG;split<;>omega
theorem U9 {n:Nat} {l l1:List Sy} {o:jc} (h:dM n l=.ok (o,l1)):0<=o.2.2:=by
 have ado:∀ (least:Int) (l l1:List Sy) (a:Int),bP n least l=.ok (a,l1)->0<=a:=by
  intro least l l1 a h
  unfold bP at h
  split at h
  ·rename_i hd1
   split at h
   ·simp [bad] at h
   ·simp only [Except.ok.injEq] at h
    have e:a=(iR l).1:=by rw [h]
    rw [e]
    unfold fP at hd1
    simp at hd1
    unfold iR
    split
    ·rename_i h2
     have h3:=h2.2
     unfold fP at h3
     simp at h3
     simp only [];omega
    ·simp only [];omega
  ·simp [bad] at h
 have hp1:∀ m:Int,0<=m->0<=kE m:=by intro m hm;unfold kE;split<;>omega
 have hclose:∀ (m o:jc) (l l1:List Sy),0<=m.2.2->fK n m l=.ok (o,l1)->0<=o.2.2:=by
  intro m o l l1 hm h
  unfold fK at h
  split at h
  ·cases h;exact hm
  ·simp [bad] at h
 unfold dM at h
 split at h
 ·unfold gI at h
  split at h
  ·cases h
  ·rename_i a l2 ha
   have ha0:=ado _ _ _ _ ha
   split at h
   ·split at h
    ·cases h;simp only [];omega
    ·split at h
     ·cases h
     ·rename_i m l3 hm
      exact hclose (a.toNat,some m.toNat,kE m) o l3 l1 (hp1 m (ado _ _ _ _ hm)) h
   ·exact hclose (a.toNat,some a.toNat,kE a) o l2 l1 (hp1 a ha0) h
 ·split at h
  ·cases h;decide
  ·split at h
   ·cases h;decide
   ·cases h;decide
theorem EW (n:Nat):∀ (f:Nat) (z:Pn) (l:List Sy),0<=z.2->z.2<=61->dV (Eo n f z.2 l) (gY n f z l)
 | 0,_,_,_,_=>dV.bad
 | f+1,z,l,h0,h1=>by
  rw [Eo,gY,r_]
  by_cases h:kH (hd l)=true
  ·rw [if_pos h,if_pos h]
   cases hr:dM n l with
   | error x=>exact dV.err
   | ok y=>
    obtain ⟨o,l1⟩:=y
    have hb:=Pf (Int.mul_nonneg h0 (U9 hr))
    exact EW n f (x9 z o) l1 hb.1 hb.2
  ·rw [if_neg h,if_neg h];exact dV.ok h0 h1
theorem tX {n:Nat} {a:List Sy->bn Int} {b:List Sy->bn Pn} (hab:oI a b):∀ (f:Nat) (l:List Sy),dV (AP n a f l) (cO n b f l)
 | 0,_=>dV.bad
 | f+1,l=>by
  rw [AP,cO]
  by_cases h:hd l=126
  ·rw [if_pos h,if_pos h]
   have ih:=tX (n:=n) hab f l.tail
   rw [ih.1]
   cases hq:cO n b f l.tail with
   | error x=>exact dV.err
   | ok y=>
    obtain ⟨z,l1⟩:=y
    have hz:=ih.2 z l1 hq
    have hb:=Pf (n:=z.2+1) (by omega)
    exact dV.ok (v:=Jh z) hb.1 hb.2
  ·rw [if_neg h,if_neg h]
   have ih:=hab l
   rw [ih.1]
   cases hq:b l with
   | error x=>exact dV.err
   | ok y=>
    obtain ⟨z,l1⟩:=y
    have hz:=ih.2 z l1 hq
    exact EW n _ z l1 hz.1 hz.2
def pX (l:List Pn):Prop:=∀ p∈l,0<=p.2/\p.2<=61
theorem pX.snoc {l:List Pn} {p:Pn} (h:pX l) (h0:0<=p.2) (h1:p.2<=61):pX (l++[p]):=by
 intro q hq
 rcases List.mem_append.1 hq with hq | hq
 ·exact h q hq
 ·simp at hq;subst hq;exact ⟨h0,h1⟩
theorem yf:∀ (l:List Pn) (p:Pn),dR (l++[p])=dR l+p.2
 | [],p=>by simp [dR]
 | x::l,p=>by rw [List.cons_append,dR,dR,yf l p];omega
theorem wN:∀ {l:List Pn},pX l->0<=dR l
 | [],_=>by simp [dR]
 | x::l,h=>by
  have:=h x (List.mem_cons_self ..)
  have:=wN (l:=l) fun p hp=>h p (List.mem_cons_of_mem _ hp)
  rw [dR];omega
def vJ (l:List Pn):Int:=min (((l.length:Int) - 1)+dR l) 61
theorem Pg (x:Int):dG x=min x 61:=by unfold dG;split<;>omega
theorem z_ {p:Pn} (h:p.2<=61):vJ [p]=p.2:=by simp [vJ,dR];omega
theorem Jw {l:List Pn} {p:Pn} (h:pX l) (hne:l≠[]) (h0:0<=p.2):vJ (l++[p])=dG (vJ l+1+p.2):=by
 have hs:=wN h
 have hl:1<=l.length:=by
  cases l with
  | nil=>exact absurd rfl hne
  | cons x l=>simp
 rw [Pg,vJ,vJ,yf,List.length_append]
 simp only [List.length_cons,List.length_nil]
 omega
theorem aa5 {l:List Pn} (h:pX l) (hne:l≠[]):0<=vJ l/\vJ l<=61:=by
 have hs:=wN h
 have hl:1<=l.length:=by
  cases l with
  | nil=>exact absurd rfl hne
  | cons x l=>simp
 unfold vJ;omega
theorem u_ {l:List Pn} (h:pX l) (hne:l≠[]):(eU l).2=vJ l:=by
 unfold eU
 split
 ·rename_i p
  rw [z_ (h p (List.mem_cons_self ..)).2]
 ·simp only []
  rw [if_neg (by simpa using hne)];rfl
theorem ve {k:Bool} {l:List Pn} (h:pX l):(jB k l).2=vJ l:=by
 unfold jB
 split
 ·rename_i p
  rw [z_ (h p (List.mem_cons_self ..)).2]
 ·rfl
def mg (r:bn Int) (q:bn (List Pn)):Prop:=r=o5 vJ q/\∀ v l,q=.ok (v,l)->pX v/\v≠[]
theorem wO {n:Nat} {a:List Sy->bn Int} {b:List Sy->bn Pn} (hab:oI a b):∀ (f:Nat) (z:List Pn) (l:List Sy),pX z->z≠[]->mg (lY n a f (vJ z) l) (aR n b f z l)
 | 0,_,_,_,_=>⟨rfl,fun _ _ h=>by simp [aR,bad] at h⟩
 | f+1,z,l,hz,hne=>by
  rw [lY,aR]
  by_cases h:iE (hd l)=true
  ·rw [if_pos h,if_pos h]
   exact ⟨rfl,fun v l' e=>by cases e;exact ⟨hz,hne⟩⟩
  ·rw [if_neg h,if_neg h]
   have ih:=tX (n:=n) hab (l.length+1) l
   rw [ih.1]
   cases hq:cO n b (l.length+1) l with
   | error x=>exact ⟨rfl,fun v l' e=>by cases e⟩
   | ok y=>
    obtain ⟨p,l1⟩:=y
    have hp:=ih.2 p l1 hq
    show mg (lY n a f (dG (vJ z+1+p.2)) l1) _
    rw [<-Jw hz hne hp.1]
    exact wO hab f (z++[p]) l1 (hz.snoc hp.1 hp.2) (by simp)
theorem mg.row {r:bn Int} {q:bn (List Pn)} (h:mg r q):dV r (o5 eU q):=by
 rw [h.1]
 cases hq:q with
 | error x=>exact dV.err
 | ok y=>
  obtain ⟨v,l⟩:=y
  obtain ⟨hv,hne⟩:=h.2 v l hq
  have hb:=aa5 hv hne
  rw [<-u_ hv hne] at hb
  show dV (.ok (vJ v,l)) (.ok (eU v,l))
  rw [<-u_ hv hne]
  exact dV.ok hb.1 hb.2
theorem mg.aW {r:bn Int} {q:bn (List Pn)} (k:Bool) (h:mg r q):dV r (o5 (jB k) q):=by
 rw [h.1]
 cases hq:q with
 | error x=>exact dV.err
 | ok y=>
  obtain ⟨v,l⟩:=y
  obtain ⟨hv,hne⟩:=h.2 v l hq
  have hb:=aa5 hv hne
  rw [<-ve (k:=k) hv] at hb
  show dV (.ok (vJ v,l)) (.ok (jB k v,l))
  rw [<-ve (k:=k) hv]
  exact dV.ok hb.1 hb.2
theorem BP {n:Nat} {a:List Sy->bn Int} {b:List Sy->bn Pn} (hab:oI a b):oI (Us n a) (rowP n b):=by
 intro l
 unfold Us rowP
 by_cases h:iE (hd l)=true
 ·rw [if_pos h,if_pos h]
  exact dV.ok (v:=eU []) (by decide) (by decide)
 ·rw [if_neg h,if_neg h]
  have ih:=tX (n:=n) hab (l.length+1) l
  rw [ih.1]
  cases hq:cO n b (l.length+1) l with
  | error x=>exact dV.err
  | ok y=>
   obtain ⟨p,l1⟩:=y
   have hp:=ih.2 p l1 hq
   have hone:pX [p]:=fun q hq=>by simp at hq;subst hq;exact hp
   show dV (lY n a (l1.length+1) p.2 l1) _
   rw [<-z_ hp.2]
   exact (wO hab (l1.length+1) [p] l1 hone (by simp)).row
theorem wP {n:Nat} {a:List Sy->bn Int} {b:List Sy->bn Pn} (hab:oI a b) (sg:Int):∀ (f:Nat) (z:List Pn) (l:List Sy),pX z->z≠[]->mg (lZ n a sg f (vJ z) l) (aX n b sg f z l)
 | 0,_,_,_,_=>⟨rfl,fun _ _ h=>by simp [aX,bad] at h⟩
 | f+1,z,l,hz,hne=>by
  rw [lZ,aX]
  by_cases h:hd l=sg
  ·rw [if_pos h,if_pos h]
   have ih:=hab l.tail
   rw [ih.1]
   cases hq:b l.tail with
   | error x=>exact ⟨rfl,fun v l' e=>by cases e⟩
   | ok y=>
    obtain ⟨p,l1⟩:=y
    have hp:=ih.2 p l1 hq
    show mg (lZ n a sg f (dG (vJ z+1+p.2)) l1) _
    rw [<-Jw hz hne hp.1]
    exact wP hab sg f (z++[p]) l1 (hz.snoc hp.1 hp.2) (by simp)
  ·rw [if_neg h,if_neg h]
   exact ⟨rfl,fun v l' e=>by cases e;exact ⟨hz,hne⟩⟩
theorem BQ {n:Nat} {a:List Sy->bn Int} {b:List Sy->bn Pn} (hab:oI a b) (sg:Int) (k:Bool):oI (Rj n a sg) (ma n b sg (jB k)):=by
 intro l
 unfold Rj ma
 have ih:=hab l
 rw [ih.1]
 cases hq:b l with
 | error x=>exact dV.err
 | ok y=>
  obtain ⟨p,l1⟩:=y
  have hp:=ih.2 p l1 hq
  have hone:pX [p]:=fun q hq=>by simp at hq;subst hq;exact hp
  show dV (lZ n a sg (l1.length+1) p.2 l1) _
  rw [<-z_ hp.2]
  exact (wP hab sg (l1.length+1) [p] l1 hone (by simp)).aW k
theorem y_ {n:Nat} {a:List Sy->bn Int} {b:List Sy->bn Pn} (hab:oI a b):oI (zQ n a) (bU n b):=BQ (BQ (BP hab) 38 true) 124 false
theorem yg {n:Nat}:∀ k:Nat,oI (yS n k) (bH n k)
 | 0=>by
  intro l
  rw [yS,bH]
  by_cases h:hd l=40
  ·rw [if_pos h,if_pos h];exact dV.bad
  ·rw [if_neg h,if_neg h];exact EU n l
 | k+1=>by
  intro l
  rw [yS,bH]
  by_cases h:hd l=40
  ·rw [if_pos h,if_pos h]
   have ih:=y_ (n:=n) (yg (n:=n) k) l.tail
   rw [ih.1]
   cases hq:bU n (bH n k) l.tail with
   | error x=>exact dV.err
   | ok y=>
    obtain ⟨p,l1⟩:=y
    have hp:=ih.2 p l1 hq
    show dV (if hd l1=41 then .ok (p.2,l1.tail) else bad 2 n l1) (if hd l1=41 then .ok (p,l1.tail) else bad 2 n l1)
    split
    ·exact dV.ok hp.1 hp.2
    ·exact dV.bad
  ·rw [if_neg h,if_neg h];exact EU n l
theorem BR (s:ByteArray):xM s=U2 (aZ s):=by
 unfold xM aZ
 by_cases h:60<s.size
 ·rw [if_pos h,if_pos h];rfl
 ·rw [if_neg h,if_neg h]
  have ih:=y_ (n:=s.size) (yg (n:=s.size) 8) (af s 0)
  rw [ih.1]
  cases hq:bU s.size (bH s.size 8) (af s 0) with
  | error x=>rfl
  | ok y=>
   obtain ⟨p,l1⟩:=y
   show (if hd l1<0 then (if 60<p.2 then ((5,0):Int×Int) else (0,0)) else (2,AJ s.size l1))=U2 (if hd l1<0 then (if 60<p.2 then .error (5,0) else .ok p.1) else .error (2,AJ s.size l1))
   split
   ·split<;>rfl
   ·rfl
end Go.Proofs.YtfolanohokflkaaGreatDoor
