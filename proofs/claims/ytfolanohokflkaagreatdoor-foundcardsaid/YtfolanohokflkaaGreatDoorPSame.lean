import Derived.Test.YtfolanohokflkaaGreatDoorDec
import Derived.Test.YtfolanohokflkaaGreatDoorPSpec
namespace Go.Proofs.YtfolanohokflkaaGreatDoor
theorem mq {l:List Sy} (h:¬ hd l=-1):l.tail.length<l.length:=by
 cases l with
 | nil=>exact absurd rfl h
 | cons x r=>simp
theorem eZ (l:List Sy):l.tail.length<=l.length:=by rw [List.length_tail];omega
theorem yL {n:Nat} {a:Int} {l:List Sy} {y:Int×List Sy} (h:bU n a l=.ok y):y.2.length<=l.length:=by
 have h1:=eZ l
 have h2:=eZ l.tail
 unfold bU at h
 split at h
 ·split at h
  ·cases h
  ·injection h with h
   subst h
   unfold kT
   split<;>dsimp only<;>omega
 ·cases h
theorem BA {n:Nat} {m:Int} {l:List Sy} {y:Int×List Sy} (h:qQ n m l=.ok y):y.2.length<=l.length:=by
 have h1:=eZ l
 unfold qQ at h
 split at h
 ·injection h with h;subst h;exact h1
 ·cases h
theorem Je {n:Nat} {l:List Sy} {y:Int×List Sy} (h:sI n l=.ok y):y.2.length<=l.length:=by
 unfold sI at h
 split at h
 ·cases h
 ·rename_i a l1 h1
  have g1:=yL h1
  have t1:=eZ l1
  have t2:=eZ l1.tail
  dsimp only at g1
  split at h
  ·split at h
   ·injection h with h;subst h;dsimp only;omega
   ·split at h
    ·cases h
    ·rename_i m l2 h2
     have g2:=yL h2
     have g3:=BA h
     dsimp only at g2
     omega
  ·have g3:=BA h
   omega
theorem yM {n:Nat} {l:List Sy} {y:Int×List Sy} (hr:mr (hd l)=true) (h:pY n l=.ok y):y.2.length<l.length:=by
 have hp:=mq (l:=l) (by intro e;rw [e] at hr;exact absurd hr (by decide))
 unfold pY at h
 split at h
 ·have:=Je h;omega
 ·injection h with h;subst h;exact hp
theorem Jf:∀ (f:Nat) (v:Int) (k:Nat) (l:List Sy),(uw f v k l).2.2.length<=l.length
 | 0,_,_,_=>Nat.le_refl _
 | f+1,v,k,l=>by
  rw [uw]
  split
  ·exact Nat.le_trans (Jf f _ _ _) (eZ l)
  ·exact Nat.le_refl _
theorem QY {n:Nat} {l:List Sy} {y:Int×List Sy} (h:oO n l=.ok y):y.2.length<=l.length:=by
 unfold oO at h
 split at h
 ·have g:=Jf 6 0 0 l.tail
  have t:=eZ l
  have t2:=eZ (uw 6 0 0 l.tail).2.2
  unfold lK at h
  split at h
  ·cases h
  ·split at h
   ·injection h with h;subst h;dsimp only;omega
   ·cases h
 ·cases h
theorem yN {n:Nat} {l:List Sy} {y:Int×List Sy} (h:fE n l=.ok y):y.2.length<=l.length:=by
 have t:=eZ l
 unfold fE at h
 split at h
 ·have:=QY h;omega
 ·split at h
  ·injection h with h;subst h;exact t
  ·split at h
   ·injection h with h;subst h;exact t
   ·cases h
theorem BB {n:Nat} {l:List Sy} {y:Int×List Sy} (h:fu n l=.ok y):y.2.length<l.length:=by
 unfold fu at h
 split at h
 ·rename_i zw
  have hp:=mq (l:=l) (by omega)
  have:=yN h;omega
 ·split at h
  ·cases h
  ·injection h with h;subst h;exact mq (by omega)
theorem EE {l:List Sy} (h:isSet l=true):l.tail.tail.length<l.length:=by
 have h':hd l=92/\(hd l.tail=100\/hd l.tail=119):=by simpa [isSet] using h
 have hp:=mq (l:=l) (by omega)
 have:=eZ l.tail
 omega
theorem EF {n:Nat} {l:List Sy} {y:Unit×List Sy} (h:Il n l=.ok y):y.2.length<l.length:=by
 unfold Il at h
 split at h
 ·rename_i hs
  injection h with h;subst h;exact EE hs
 ·split at h
  ·cases h
  ·rename_i a l1 h1
   have g1:=BB h1
   have t1:=eZ l1
   dsimp only at g1
   split at h
   ·split at h
    ·cases h
    ·rename_i b l2 h2
     have g2:=BB h2
     dsimp only at g2
     split at h
     ·cases h
     ·injection h with h;subst h;dsimp only;omega
   ·injection h with h;subst h;exact g1
theorem nI {n:Nat}:∀ (f:Nat) {l:List Sy} {y:Unit×List Sy},jM n f l=.ok y->y.2.length<=l.length
 | 0,l,y,h=>by cases h
 | f+1,l,y,h=>by
  rw [jM] at h
  split at h
  ·injection h with h;subst h;exact eZ l
  ·split at h
   ·cases h
   ·rename_i u l1 h1
    have g1:=EF h1
    have g2:=nI f h
    dsimp only at g1
    omega
theorem Mo {n:Nat} {l:List Sy} {y:Unit×List Sy} (h:Ap n l=.ok y):y.2.length<=l.length:=by
 unfold Ap at h
 split at h
 ·have:=nI _ h;have:=eZ l;omega
 ·exact nI _ h
theorem EG {n:Nat} {l:List Sy} {y:Int×List Sy} (h:Aq n l=.ok y):y.2.length<l.length:=by
 unfold Aq at h
 split at h
 ·have hp:=mq (l:=l) (by omega)
  split at h
  ·cases h
  ·rename_i u l1 h1
   have:=Mo h1
   injection h with h;subst h;dsimp only at this ⊢;omega
 ·split at h
  ·have hp:=mq (l:=l) (by omega)
   split at h
   ·rename_i hs
    injection h with h;subst h;exact EE hs
   ·split at h
    ·cases h
    ·rename_i u l1 h1
     have:=yN h1
     injection h with h;subst h;dsimp only at this ⊢;omega
  ·split at h
   ·injection h with h;subst h;exact mq (by omega)
   ·split at h
    ·cases h
    ·injection h with h;subst h;exact mq (by omega)
theorem EH {n:Nat}:∀ (f:Nat) {z:Int} {l:List Sy} {y:Int×List Sy},Eh n f z l=.ok y->y.2.length<=l.length
 | 0,_,l,y,h=>by cases h
 | f+1,z,l,y,h=>by
  rw [Eh] at h
  split at h
  ·rename_i hr
   split at h
   ·cases h
   ·rename_i m l1 h1
    have g1:=yM hr h1
    have g2:=EH f h
    dsimp only at g1
    omega
  ·injection h with h;subst h;exact Nat.le_refl _
def Shr (at_:List Sy->bu Int):Prop:=∀ l y,at_ l=.ok y->y.2.length<l.length
def Mq (at_:List Sy->bu Int):Prop:=∀ l y,at_ l=.ok y->y.2.length<=l.length
theorem sQ {n:Nat} {at_:List Sy->bu Int} (ha:Shr at_):∀ (f:Nat) {l:List Sy} {y:Int×List Sy},Ar n at_ f l=.ok y->y.2.length<l.length
 | 0,l,y,h=>by cases h
 | f+1,l,y,h=>by
  rw [Ar] at h
  split at h
  ·split at h
   ·cases h
   ·rename_i z l1 h1
    have g1:=sQ ha f h1
    have t:=eZ l
    injection h with h;subst h;dsimp only at g1 ⊢;omega
  ·split at h
   ·cases h
   ·rename_i z l1 h1
    have g1:=ha _ _ h1
    have g2:=EH _ h
    dsimp only at g1
    omega
theorem wh {n:Nat} {at_:List Sy->bu Int} (ha:Shr at_):∀ (f:Nat) {z:Int} {l:List Sy} {y:Int×List Sy},lT n at_ f z l=.ok y->y.2.length<=l.length
 | 0,_,l,y,h=>by cases h
 | f+1,z,l,y,h=>by
  rw [lT] at h
  split at h
  ·injection h with h;subst h;exact Nat.le_refl _
  ·split at h
   ·cases h
   ·rename_i x l1 h1
    have g1:=sQ ha _ h1
    have g2:=wh ha f h
    dsimp only at g1
    omega
theorem Jg {n:Nat} {at_:List Sy->bu Int} (ha:Shr at_):Mq (Tq n at_):=by
 intro l y h
 unfold Tq at h
 split at h
 ·injection h with h;subst h;exact Nat.le_refl _
 ·split at h
  ·cases h
  ·rename_i x l1 h1
   have g1:=sQ ha _ h1
   have g2:=wh ha _ h
   dsimp only at g1
   omega
theorem wo {n:Nat} {sub:List Sy->bu Int} {sg:Int} (hs:Mq sub):∀ (f:Nat) {z:Int} {l:List Sy} {y:Int×List Sy},lU n sub sg f z l=.ok y->y.2.length<=l.length
 | 0,_,l,y,h=>by cases h
 | f+1,z,l,y,h=>by
  rw [lU] at h
  split at h
  ·split at h
   ·cases h
   ·rename_i x l1 h1
    have g1:=hs _ _ h1
    have t:=eZ l
    have g2:=wo hs f h
    dsimp only at g1
    omega
  ·injection h with h;subst h;exact Nat.le_refl _
theorem Jh {n:Nat} {sub:List Sy->bu Int} {sg:Int} (hs:Mq sub):Mq (Qx n sub sg):=by
 intro l y h
 unfold Qx at h
 split at h
 ·cases h
 ·rename_i x l1 h1
  have g1:=hs _ _ h1
  have g2:=wo hs _ h
  dsimp only at g1
  omega
theorem EI {n:Nat} {at_:List Sy->bu Int} (ha:Shr at_):Mq (ZN n at_):=Jh (Jg ha)
theorem Ji {n:Nat} {at_:List Sy->bu Int} (ha:Shr at_):Mq (zD n at_):=Jh (EI ha)
theorem EJ (n:Nat):∀ k,Shr (yD n k)
 | 0=>by
  intro l y h
  rw [yD] at h
  split at h
  ·cases h
  ·exact EG h
 | k+1=>by
  intro l y h
  rw [yD] at h
  split at h
  ·have hp:=mq (l:=l) (by omega)
   split at h
   ·cases h
   ·rename_i z l1 h1
    have g1:=Ji (EJ n k) _ _ h1
    have t:=eZ l1
    split at h
    ·injection h with h;subst h;dsimp only at g1 ⊢;omega
    ·cases h
  ·exact EG h
end Go.Proofs.YtfolanohokflkaaGreatDoor
namespace Go.Proofs.YtfolanohokflkaaGreatDoor
def dM (r:bu Int) (q:bu Pn):Prop:=r=oI Prod.snd q/\∀ v l,q=.ok (v,l)->0<=v.2/\v.2<=61
def oo (a:List Sy->bu Int) (b:List Sy->bu Pn):Prop:=∀ l,dM (a l) (b l)
theorem dM.bad {e:Int} {n:Nat} {l:List Sy}:dM (bad e n l) (bad e n l):=⟨rfl,fun _ _ h=>by simp [Go.Proofs.YtfolanohokflkaaGreatDoor.bad] at h⟩
theorem dM.err {x:Int×Int}:dM (.error x) (.error x):=⟨rfl,fun _ _ h=>by cases h⟩
theorem dM.ok {v:Pn} {l:List Sy} (h0:0<=v.2) (h1:v.2<=61):dM (.ok (v.2,l)) (.ok (v,l)):=⟨rfl,fun _ _ h=>by cases h;exact ⟨h0,h1⟩⟩
theorem BC (n:Nat) (m:jY) (l:List Sy):qQ n m.2.2 l=oI (fun o=>o.2.2) (gT n m l):=by
 unfold qQ gT
 split<;>rfl
theorem Jj (n:Nat) (l:List Sy):sI n l=oI (fun o=>o.2.2) (jc n l):=by
 unfold sI jc
 cases h:bU n 0 l with
 | error x=>rfl
 | ok y=>
  obtain ⟨a,l1⟩:=y
  simp only []
  by_cases h1:hd l1=44
  ·rw [if_pos h1,if_pos h1]
   by_cases h2:hd l1.tail=125
   ·rw [if_pos h2,if_pos h2];rfl
   ·rw [if_neg h2,if_neg h2]
    cases h3:bU n a l1.tail with
    | error x=>rfl
    | ok z=>exact BC n (a.toNat,some z.1.toNat,j_ z.1) z.2
  ·rw [if_neg h1,if_neg h1];exact BC n (a.toNat,some a.toNat,j_ a) l1
theorem rE (n:Nat) (l:List Sy):pY n l=oI (fun o=>o.2.2) (eU n l):=by
 unfold pY eU
 by_cases h:hd l=123
 ·rw [if_pos h,if_pos h];exact Jj n l.tail
 ·rw [if_neg h,if_neg h]
  split
  ·rfl
  ·split<;>rfl
def EK:bu af->bu Unit:=oI fun _=>()
theorem EL (n:Nat) (l:List Sy):Il n l=EK (kH n l):=by
 unfold Il kH EK
 by_cases h:isSet l=true
 ·rw [if_pos h,if_pos h];rfl
 ·rw [if_neg h,if_neg h]
  cases h1:fu n l with
  | error x=>rfl
  | ok y=>
   obtain ⟨a,l1⟩:=y
   simp only []
   by_cases h2:hd l1=45
   ·rw [if_pos h2,if_pos h2]
    cases h3:fu n l1.tail with
    | error x=>rfl
    | ok z=>
     simp only []
     split<;>rfl
   ·rw [if_neg h2,if_neg h2];rfl
theorem nJ (n:Nat):∀ (f:Nat) (s:af) (l:List Sy),jM n f l=EK (bR n f s l)
 | 0,_,_=>rfl
 | f+1,s,l=>by
  rw [jM,bR,EL]
  by_cases h:hd l=93
  ·rw [if_pos h,if_pos h];rfl
  ·rw [if_neg h,if_neg h]
   cases h1:kH n l with
   | error x=>rfl
   | ok y=>exact nJ n f (qH s y.1) y.2
theorem QZ (r:bu af):EK (Be r)=EK r:=by cases r<;>rfl
theorem Mr (n:Nat) (l:List Sy):Ap n l=EK (jP n l):=by
 unfold Ap jP
 by_cases h:hd l=94
 ·rw [if_pos h,if_pos h,QZ];exact nJ n _ [] _
 ·rw [if_neg h,if_neg h];exact nJ n _ [] _
theorem EM (n:Nat) (l:List Sy):dM (Aq n l) (og (gp n l)):=by
 have key:Aq n l=oI (fun _=>(1:Int)) (gp n l):=by
  unfold Aq gp
  by_cases h1:hd l=91
  ·rw [if_pos h1,if_pos h1,Mr]
   cases jP n l.tail<;>rfl
  ·rw [if_neg h1,if_neg h1]
   by_cases h2:hd l=92
   ·rw [if_pos h2,if_pos h2]
    split
    ·rfl
    ·cases fE n l.tail<;>rfl
   ·rw [if_neg h2,if_neg h2]
    split
    ·rfl
    ·split<;>rfl
 rw [key]
 cases h:gp n l with
 | error x=>exact dM.err
 | ok y=>exact dM.ok (v:=(.set y.1,1)) (show (0:Int)<=1 by decide) (show (1:Int)<=61 by decide)
theorem Ov {n:Int} (h:0<=n):0<=dB n/\dB n<=61:=by unfold dB;split<;>omega
theorem Uj {n:Nat} {l l1:List Sy} {o:jY} (h:eU n l=.ok (o,l1)):0<=o.2.2:=by
 have ab_:∀ (least:Int) (l l1:List Sy) (a:Int),bU n least l=.ok (a,l1)->0<=a:=by
  intro least l l1 a h
  unfold bU at h
  split at h
  ·rename_i hd1
   split at h
   ·simp [bad] at h
   ·simp only [Except.ok.injEq] at h
    have e:a=(kT l).1:=by rw [h]
    rw [e]
    unfold iJ at hd1
    simp at hd1
    unfold kT
    split
    ·rename_i h2
     have h3:=h2.2
     unfold iJ at h3
     simp at h3
     simp only [];omega
    ·simp only [];omega
  ·simp [bad] at h
 have hp1:∀ m:Int,0<=m->0<=j_ m:=by intro m hm;unfold j_;split<;>omega
 have hclose:∀ (m o:jY) (l l1:List Sy),0<=m.2.2->gT n m l=.ok (o,l1)->0<=o.2.2:=by
  intro m o l l1 hm h
  unfold gT at h
  split at h
  ·cases h;exact hm
  ·simp [bad] at h
 unfold eU at h
 split at h
 ·unfold jc at h
  split at h
  ·cases h
  ·rename_i a l2 ha
   have ha0:=ab_ _ _ _ _ ha
   split at h
   ·split at h
    ·cases h;simp only [];omega
    ·split at h
     ·cases h
     ·rename_i m l3 hm
      exact hclose (a.toNat,some m.toNat,j_ m) o l3 l1 (hp1 m (ab_ _ _ _ _ hm)) h
   ·exact hclose (a.toNat,some a.toNat,j_ a) o l2 l1 (hp1 a ha0) h
 ·split at h
  ·cases h;decide
  ·split at h
   ·cases h;decide
   ·cases h;decide
theorem EN (n:Nat):∀ (f:Nat) (z:Pn) (l:List Sy),0<=z.2->z.2<=61->dM (Eh n f z.2 l) (kI n f z l)
 | 0,_,_,_,_=>dM.bad
 | f+1,z,l,h0,h1=>by
  rw [Eh,kI,rE]
  by_cases h:mr (hd l)=true
  ·rw [if_pos h,if_pos h]
   cases hr:eU n l with
   | error x=>exact dM.err
   | ok y=>
    obtain ⟨o,l1⟩:=y
    have hb:=Ov (Int.mul_nonneg h0 (Uj hr))
    exact EN n f (I4 z o) l1 hb.1 hb.2
  ·rw [if_neg h,if_neg h];exact dM.ok h0 h1
theorem sS {n:Nat} {a:List Sy->bu Int} {b:List Sy->bu Pn} (hab:oo a b):∀ (f:Nat) (l:List Sy),dM (Ar n a f l) (dZ n b f l)
 | 0,_=>dM.bad
 | f+1,l=>by
  rw [Ar,dZ]
  by_cases h:hd l=126
  ·rw [if_pos h,if_pos h]
   have ih:=sS (n:=n) hab f l.tail
   rw [ih.1]
   cases hq:dZ n b f l.tail with
   | error x=>exact dM.err
   | ok y=>
    obtain ⟨z,l1⟩:=y
    have hz:=ih.2 z l1 hq
    have hb:=Ov (n:=z.2+1) (by omega)
    exact dM.ok (v:=I5 z) hb.1 hb.2
  ·rw [if_neg h,if_neg h]
   have ih:=hab l
   rw [ih.1]
   cases hq:b l with
   | error x=>exact dM.err
   | ok y=>
    obtain ⟨z,l1⟩:=y
    have hz:=ih.2 z l1 hq
    exact EN n _ z l1 hz.1 hz.2
def pz (l:List Pn):Prop:=∀ p∈l,0<=p.2/\p.2<=61
theorem pz.snoc {l:List Pn} {p:Pn} (h:pz l) (h0:0<=p.2) (h1:p.2<=61):pz (l++[p]):=by
 intro q hq
 rcases List.mem_append.1 hq with hq | hq
 ·exact h q hq
 ·simp at hq;subst hq;exact ⟨h0,h1⟩
theorem xP:∀ (l:List Pn) (p:Pn),dJ (l++[p])=dJ l+p.2
 | [],p=>by simp [dJ]
 | x::l,p=>by rw [List.cons_append,dJ,dJ,xP l p];omega
theorem wu:∀ {l:List Pn},pz l->0<=dJ l
 | [],_=>by simp [dJ]
 | x::l,h=>by
  have:=h x (List.mem_cons_self ..)
  have:=wu (l:=l) fun p hp=>h p (List.mem_cons_of_mem _ hp)
  rw [dJ];omega
def vo (l:List Pn):Int:=min (((l.length:Int) - 1)+dJ l) 61
theorem Ow (x:Int):dB x=min x 61:=by unfold dB;split<;>omega
theorem zP {p:Pn} (h:p.2<=61):vo [p]=p.2:=by simp [vo,dJ];omega
theorem Jk {l:List Pn} {p:Pn} (h:pz l) (hne:l≠[]) (h0:0<=p.2):vo (l++[p])=dB (vo l+1+p.2):=by
 have hs:=wu h
 have hl:1<=l.length:=by
  cases l with
  | nil=>exact absurd rfl hne
  | cons x l=>simp
 rw [Ow,vo,vo,xP,List.length_append]
 simp only [List.length_cons,List.length_nil]
 omega
theorem ZY {l:List Pn} (h:pz l) (hne:l≠[]):0<=vo l/\vo l<=61:=by
 have hs:=wu h
 have hl:1<=l.length:=by
  cases l with
  | nil=>exact absurd rfl hne
  | cons x l=>simp
 unfold vo;omega
theorem uO {l:List Pn} (h:pz l) (hne:l≠[]):(fM l).2=vo l:=by
 unfold fM
 split
 ·rename_i p
  rw [zP (h p (List.mem_cons_self ..)).2]
 ·simp only []
  rw [if_neg (by simpa using hne)];rfl
theorem uP {k:Bool} {l:List Pn} (h:pz l):(jk k l).2=vo l:=by
 unfold jk
 split
 ·rename_i p
  rw [zP (h p (List.mem_cons_self ..)).2]
 ·rfl
def lZ (r:bu Int) (q:bu (List Pn)):Prop:=r=oI vo q/\∀ v l,q=.ok (v,l)->pz v/\v≠[]
theorem wy {n:Nat} {a:List Sy->bu Int} {b:List Sy->bu Pn} (hab:oo a b):∀ (f:Nat) (z:List Pn) (l:List Sy),pz z->z≠[]->lZ (lT n a f (vo z) l) (bM n b f z l)
 | 0,_,_,_,_=>⟨rfl,fun _ _ h=>by simp [bM,bad] at h⟩
 | f+1,z,l,hz,hne=>by
  rw [lT,bM]
  by_cases h:kr (hd l)=true
  ·rw [if_pos h,if_pos h]
   exact ⟨rfl,fun v l' e=>by cases e;exact ⟨hz,hne⟩⟩
  ·rw [if_neg h,if_neg h]
   have ih:=sS (n:=n) hab (l.length+1) l
   rw [ih.1]
   cases hq:dZ n b (l.length+1) l with
   | error x=>exact ⟨rfl,fun v l' e=>by cases e⟩
   | ok y=>
    obtain ⟨p,l1⟩:=y
    have hp:=ih.2 p l1 hq
    show lZ (lT n a f (dB (vo z+1+p.2)) l1) _
    rw [<-Jk hz hne hp.1]
    exact wy hab f (z++[p]) l1 (hz.snoc hp.1 hp.2) (by simp)
theorem lZ.row {r:bu Int} {q:bu (List Pn)} (h:lZ r q):dM r (oI fM q):=by
 rw [h.1]
 cases hq:q with
 | error x=>exact dM.err
 | ok y=>
  obtain ⟨v,l⟩:=y
  obtain ⟨hv,hne⟩:=h.2 v l hq
  have hb:=ZY hv hne
  rw [<-uO hv hne] at hb
  show dM (.ok (vo v,l)) (.ok (fM v,l))
  rw [<-uO hv hne]
  exact dM.ok hb.1 hb.2
theorem lZ.bf {r:bu Int} {q:bu (List Pn)} (k:Bool) (h:lZ r q):dM r (oI (jk k) q):=by
 rw [h.1]
 cases hq:q with
 | error x=>exact dM.err
 | ok y=>
  obtain ⟨v,l⟩:=y
  obtain ⟨hv,hne⟩:=h.2 v l hq
  have hb:=ZY hv hne
  rw [<-uP (k:=k) hv] at hb
  show dM (.ok (vo v,l)) (.ok (jk k v,l))
  rw [<-uP (k:=k) hv]
  exact dM.ok hb.1 hb.2
theorem BD {n:Nat} {a:List Sy->bu Int} {b:List Sy->bu Pn} (hab:oo a b):oo (Tq n a) (rowP n b):=by
 intro l
 unfold Tq rowP
 by_cases h:kr (hd l)=true
 ·rw [if_pos h,if_pos h]
  exact dM.ok (v:=fM []) (by decide) (by decide)
 ·rw [if_neg h,if_neg h]
  have ih:=sS (n:=n) hab (l.length+1) l
  rw [ih.1]
  cases hq:dZ n b (l.length+1) l with
  | error x=>exact dM.err
  | ok y=>
   obtain ⟨p,l1⟩:=y
   have hp:=ih.2 p l1 hq
   have hone:pz [p]:=fun q hq=>by simp at hq;subst hq;exact hp
   show dM (lT n a (l1.length+1) p.2 l1) _
   rw [<-zP hp.2]
   exact (wy hab (l1.length+1) [p] l1 hone (by simp)).row
theorem wB {n:Nat} {a:List Sy->bu Int} {b:List Sy->bu Pn} (hab:oo a b) (sg:Int):∀ (f:Nat) (z:List Pn) (l:List Sy),pz z->z≠[]->lZ (lU n a sg f (vo z) l) (bO n b sg f z l)
 | 0,_,_,_,_=>⟨rfl,fun _ _ h=>by simp [bO,bad] at h⟩
 | f+1,z,l,hz,hne=>by
  rw [lU,bO]
  by_cases h:hd l=sg
  ·rw [if_pos h,if_pos h]
   have ih:=hab l.tail
   rw [ih.1]
   cases hq:b l.tail with
   | error x=>exact ⟨rfl,fun v l' e=>by cases e⟩
   | ok y=>
    obtain ⟨p,l1⟩:=y
    have hp:=ih.2 p l1 hq
    show lZ (lU n a sg f (dB (vo z+1+p.2)) l1) _
    rw [<-Jk hz hne hp.1]
    exact wB hab sg f (z++[p]) l1 (hz.snoc hp.1 hp.2) (by simp)
  ·rw [if_neg h,if_neg h]
   exact ⟨rfl,fun v l' e=>by cases e;exact ⟨hz,hne⟩⟩
theorem BF {n:Nat} {a:List Sy->bu Int} {b:List Sy->bu Pn} (hab:oo a b) (sg:Int) (k:Bool):oo (Qx n a sg) (qI n b sg (jk k)):=by
 intro l
 unfold Qx qI
 have ih:=hab l
 rw [ih.1]
 cases hq:b l with
 | error x=>exact dM.err
 | ok y=>
  obtain ⟨p,l1⟩:=y
  have hp:=ih.2 p l1 hq
  have hone:pz [p]:=fun q hq=>by simp at hq;subst hq;exact hp
  show dM (lU n a sg (l1.length+1) p.2 l1) _
  rw [<-zP hp.2]
  exact (wB hab sg (l1.length+1) [p] l1 hone (by simp)).bf k
theorem yO {n:Nat} {a:List Sy->bu Int} {b:List Sy->bu Pn} (hab:oo a b):oo (zD n a) (fO n b):=BF (BF (BD hab) 38 true) 124 false
theorem xQ {n:Nat}:∀ k:Nat,oo (yD n k) (eD n k)
 | 0=>by
  intro l
  rw [yD,eD]
  by_cases h:hd l=40
  ·rw [if_pos h,if_pos h];exact dM.bad
  ·rw [if_neg h,if_neg h];exact EM n l
 | k+1=>by
  intro l
  rw [yD,eD]
  by_cases h:hd l=40
  ·rw [if_pos h,if_pos h]
   have ih:=yO (n:=n) (xQ (n:=n) k) l.tail
   rw [ih.1]
   cases hq:fO n (eD n k) l.tail with
   | error x=>exact dM.err
   | ok y=>
    obtain ⟨p,l1⟩:=y
    have hp:=ih.2 p l1 hq
    show dM (if hd l1=41 then .ok (p.2,l1.tail) else bad 2 n l1) (if hd l1=41 then .ok (p,l1.tail) else bad 2 n l1)
    split
    ·exact dM.ok hp.1 hp.2
    ·exact dM.bad
  ·rw [if_neg h,if_neg h];exact EM n l
theorem BG (s:ByteArray):xw s=Ub (bP s):=by
 unfold xw bP
 by_cases h:60<s.size
 ·rw [if_pos h,if_pos h];rfl
 ·rw [if_neg h,if_neg h]
  have ih:=yO (n:=s.size) (xQ (n:=s.size) 8) (ah s 0)
  rw [ih.1]
  cases hq:fO s.size (eD s.size 8) (ah s 0) with
  | error x=>rfl
  | ok y=>
   obtain ⟨p,l1⟩:=y
   show (if hd l1<0 then (if 60<p.2 then ((5,0):Int×Int) else (0,0)) else (2,Ao s.size l1))=Ub (if hd l1<0 then (if 60<p.2 then .error (5,0) else .ok p.1) else .error (2,Ao s.size l1))
   split
   ·split<;>rfl
   ·rfl
end Go.Proofs.YtfolanohokflkaaGreatDoor
