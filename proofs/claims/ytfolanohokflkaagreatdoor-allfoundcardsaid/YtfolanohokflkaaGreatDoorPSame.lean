import Derived.Test.YtfolanohokflkaaGreatDoorDec
import Derived.Test.YtfolanohokflkaaGreatDoorPSpec
namespace Go.Proofs.YtfolanohokflkaaGreatDoor
theorem mq {l:List Sy} (h:¬ hd l=-1):l.tail.length<l.length:=by
 cases l with
 | nil=>exact absurd rfl h
 | cons x r=>simp
theorem eT (l:List Sy):l.tail.length<=l.length:=by rw [List.length_tail];omega
theorem yZ {n:Nat} {a:Int} {l:List Sy} {y:Int×List Sy} (h:bQ n a l=.ok y):y.2.length<=l.length:=by
 have h1:=eT l
 have h2:=eT l.tail
 unfold bQ at h
 split at h
 ·split at h
  ·cases h
  ·injection h with h
   subst h
   unfold kT
   split<;>dsimp only<;>omega
 ·cases h
theorem BJ {n:Nat} {m:Int} {l:List Sy} {y:Int×List Sy} (h:q8 n m l=.ok y):y.2.length<=l.length:=by
 have h1:=eT l
 unfold q8 at h
 split at h
 ·injection h with h;subst h;exact h1
 ·cases h
theorem Jd {n:Nat} {l:List Sy} {y:Int×List Sy} (h:sV n l=.ok y):y.2.length<=l.length:=by
 unfold sV at h
 split at h
 ·cases h
 ·rename_i a l1 h1
  have g1:=yZ h1
  have t1:=eT l1
  have t2:=eT l1.tail
  dsimp only at g1
  split at h
  ·split at h
   ·injection h with h;subst h;dsimp only;omega
   ·split at h
    ·cases h
    ·rename_i m l2 h2
     have g2:=yZ h2
     have g3:=BJ h
     dsimp only at g2
     omega
  ·have g3:=BJ h
   omega
theorem y5 {n:Nat} {l:List Sy} {y:Int×List Sy} (hr:mE (hd l)=true) (h:qc n l=.ok y):y.2.length<l.length:=by
 have hp:=mq (l:=l) (by intro e;rw [e] at hr;exact absurd hr (by decide))
 unfold qc at h
 split at h
 ·have:=Jd h;omega
 ·injection h with h;subst h;exact hp
theorem Je:∀ (f:Nat) (v:Int) (k:Nat) (l:List Sy),(uG f v k l).2.2.length<=l.length
 | 0,_,_,_=>Nat.le_refl _
 | f+1,v,k,l=>by
  rw [uG]
  split
  ·exact Nat.le_trans (Je f _ _ _) (eT l)
  ·exact Nat.le_refl _
theorem Rj {n:Nat} {l:List Sy} {y:Int×List Sy} (h:oV n l=.ok y):y.2.length<=l.length:=by
 unfold oV at h
 split at h
 ·have g:=Je 6 0 0 l.tail
  have t:=eT l
  have t2:=eT (uG 6 0 0 l.tail).2.2
  unfold lL at h
  split at h
  ·cases h
  ·split at h
   ·injection h with h;subst h;dsimp only;omega
   ·cases h
 ·cases h
theorem y7 {n:Nat} {l:List Sy} {y:Int×List Sy} (h:fC n l=.ok y):y.2.length<=l.length:=by
 have t:=eT l
 unfold fC at h
 split at h
 ·have:=Rj h;omega
 ·split at h
  ·injection h with h;subst h;exact t
  ·split at h
   ·injection h with h;subst h;exact t
   ·cases h
theorem BK {n:Nat} {l:List Sy} {y:Int×List Sy} (h:eZ n l=.ok y):y.2.length<l.length:=by
 unfold eZ at h
 split at h
 ·rename_i zG
  have hp:=mq (l:=l) (by omega)
  have:=y7 h;omega
 ·split at h
  ·cases h
  ·injection h with h;subst h;exact mq (by omega)
theorem EE {l:List Sy} (h:isSet l=true):l.tail.tail.length<l.length:=by
 have h':hd l=92/\(hd l.tail=100\/hd l.tail=119):=by simpa [isSet] using h
 have hp:=mq (l:=l) (by omega)
 have:=eT l.tail
 omega
theorem EF {n:Nat} {l:List Sy} {y:Unit×List Sy} (h:Ik n l=.ok y):y.2.length<l.length:=by
 unfold Ik at h
 split at h
 ·rename_i hs
  injection h with h;subst h;exact EE hs
 ·split at h
  ·cases h
  ·rename_i a l1 h1
   have g1:=BK h1
   have t1:=eT l1
   dsimp only at g1
   split at h
   ·split at h
    ·cases h
    ·rename_i b l2 h2
     have g2:=BK h2
     dsimp only at g2
     split at h
     ·cases h
     ·injection h with h;subst h;dsimp only;omega
   ·injection h with h;subst h;exact g1
theorem nH {n:Nat}:∀ (f:Nat) {l:List Sy} {y:Unit×List Sy},jL n f l=.ok y->y.2.length<=l.length
 | 0,l,y,h=>by cases h
 | f+1,l,y,h=>by
  rw [jL] at h
  split at h
  ·injection h with h;subst h;exact eT l
  ·split at h
   ·cases h
   ·rename_i u l1 h1
    have g1:=EF h1
    have g2:=nH f h
    dsimp only at g1
    omega
theorem MM {n:Nat} {l:List Sy} {y:Unit×List Sy} (h:AO n l=.ok y):y.2.length<=l.length:=by
 unfold AO at h
 split at h
 ·have:=nH _ h;have:=eT l;omega
 ·exact nH _ h
theorem EG {n:Nat} {l:List Sy} {y:Int×List Sy} (h:AP n l=.ok y):y.2.length<l.length:=by
 unfold AP at h
 split at h
 ·have hp:=mq (l:=l) (by omega)
  split at h
  ·cases h
  ·rename_i u l1 h1
   have:=MM h1
   injection h with h;subst h;dsimp only at this ⊢;omega
 ·split at h
  ·have hp:=mq (l:=l) (by omega)
   split at h
   ·rename_i hs
    injection h with h;subst h;exact EE hs
   ·split at h
    ·cases h
    ·rename_i u l1 h1
     have:=y7 h1
     injection h with h;subst h;dsimp only at this ⊢;omega
  ·split at h
   ·injection h with h;subst h;exact mq (by omega)
   ·split at h
    ·cases h
    ·injection h with h;subst h;exact mq (by omega)
theorem EH {n:Nat}:∀ (f:Nat) {z:Int} {l:List Sy} {y:Int×List Sy},Ei n f z l=.ok y->y.2.length<=l.length
 | 0,_,l,y,h=>by cases h
 | f+1,z,l,y,h=>by
  rw [Ei] at h
  split at h
  ·rename_i hr
   split at h
   ·cases h
   ·rename_i m l1 h1
    have g1:=y5 hr h1
    have g2:=EH f h
    dsimp only at g1
    omega
  ·injection h with h;subst h;exact Nat.le_refl _
def Shr (at_:List Sy->bn Int):Prop:=∀ l y,at_ l=.ok y->y.2.length<l.length
def MN (at_:List Sy->bn Int):Prop:=∀ l y,at_ l=.ok y->y.2.length<=l.length
theorem tH {n:Nat} {at_:List Sy->bn Int} (ha:Shr at_):∀ (f:Nat) {l:List Sy} {y:Int×List Sy},AQ n at_ f l=.ok y->y.2.length<l.length
 | 0,l,y,h=>by cases h
 | f+1,l,y,h=>by
  rw [AQ] at h
  split at h
  ·split at h
   ·cases h
   ·rename_i z l1 h1
    have g1:=tH ha f h1
    have t:=eT l
    injection h with h;subst h;dsimp only at g1 ⊢;omega
  ·split at h
   ·cases h
   ·rename_i z l1 h1
    have g1:=ha _ _ h1
    have g2:=EH _ h
    dsimp only at g1
    omega
theorem wI {n:Nat} {at_:List Sy->bn Int} (ha:Shr at_):∀ (f:Nat) {z:Int} {l:List Sy} {y:Int×List Sy},lU n at_ f z l=.ok y->y.2.length<=l.length
 | 0,_,l,y,h=>by cases h
 | f+1,z,l,y,h=>by
  rw [lU] at h
  split at h
  ·injection h with h;subst h;exact Nat.le_refl _
  ·split at h
   ·cases h
   ·rename_i x l1 h1
    have g1:=tH ha _ h1
    have g2:=wI ha f h
    dsimp only at g1
    omega
theorem Jf {n:Nat} {at_:List Sy->bn Int} (ha:Shr at_):MN (TW n at_):=by
 intro l y h
 unfold TW at h
 split at h
 ·injection h with h;subst h;exact Nat.le_refl _
 ·split at h
  ·cases h
  ·rename_i x l1 h1
   have g1:=tH ha _ h1
   have g2:=wI ha _ h
   dsimp only at g1
   omega
theorem wJ {n:Nat} {sub:List Sy->bn Int} {sg:Int} (hs:MN sub):∀ (f:Nat) {z:Int} {l:List Sy} {y:Int×List Sy},lV n sub sg f z l=.ok y->y.2.length<=l.length
 | 0,_,l,y,h=>by cases h
 | f+1,z,l,y,h=>by
  rw [lV] at h
  split at h
  ·split at h
   ·cases h
   ·rename_i x l1 h1
    have g1:=hs _ _ h1
    have t:=eT l
    have g2:=wJ hs f h
    dsimp only at g1
    omega
  ·injection h with h;subst h;exact Nat.le_refl _
theorem Jg {n:Nat} {sub:List Sy->bn Int} {sg:Int} (hs:MN sub):MN (QT n sub sg):=by
 intro l y h
 unfold QT at h
 split at h
 ·cases h
 ·rename_i x l1 h1
  have g1:=hs _ _ h1
  have g2:=wJ hs _ h
  dsimp only at g1
  omega
theorem EI {n:Nat} {at_:List Sy->bn Int} (ha:Shr at_):MN (aaw n at_):=Jg (Jf ha)
theorem Jh {n:Nat} {at_:List Sy->bn Int} (ha:Shr at_):MN (zO n at_):=Jg (EI ha)
theorem EJ (n:Nat):∀ k,Shr (yP n k)
 | 0=>by
  intro l y h
  rw [yP] at h
  split at h
  ·cases h
  ·exact EG h
 | k+1=>by
  intro l y h
  rw [yP] at h
  split at h
  ·have hp:=mq (l:=l) (by omega)
   split at h
   ·cases h
   ·rename_i z l1 h1
    have g1:=Jh (EJ n k) _ _ h1
    have t:=eT l1
    split at h
    ·injection h with h;subst h;dsimp only at g1 ⊢;omega
    ·cases h
  ·exact EG h
def dK (r:bn Int) (q:bn Pn):Prop:=r=oK Prod.snd q/\∀ v l,q=.ok (v,l)->0<=v.2/\v.2<=61
def ou (a:List Sy->bn Int) (b:List Sy->bn Pn):Prop:=∀ l,dK (a l) (b l)
theorem dK.bad {e:Int} {n:Nat} {l:List Sy}:dK (bad e n l) (bad e n l):=⟨rfl,fun _ _ h=>by simp [Go.Proofs.YtfolanohokflkaaGreatDoor.bad] at h⟩
theorem dK.err {x:Int×Int}:dK (.error x) (.error x):=⟨rfl,fun _ _ h=>by cases h⟩
theorem dK.ok {v:Pn} {l:List Sy} (h0:0<=v.2) (h1:v.2<=61):dK (.ok (v.2,l)) (.ok (v,l)):=⟨rfl,fun _ _ h=>by cases h;exact ⟨h0,h1⟩⟩
theorem BL (n:Nat) (m:jX) (l:List Sy):q8 n m.2.2 l=oK (fun o=>o.2.2) (gN n m l):=by
 unfold q8 gN
 split<;>rfl
theorem Ji (n:Nat) (l:List Sy):sV n l=oK (fun o=>o.2.2) (ja n l):=by
 unfold sV ja
 cases h:bQ n 0 l with
 | error x=>rfl
 | ok y=>
  obtain ⟨a,l1⟩:=y
  simp only []
  by_cases h1:hd l1=44
  ·rw [if_pos h1,if_pos h1]
   by_cases h2:hd l1.tail=125
   ·rw [if_pos h2,if_pos h2];rfl
   ·rw [if_neg h2,if_neg h2]
    cases h3:bQ n a l1.tail with
    | error x=>rfl
    | ok z=>exact BL n (a.toNat,some z.1.toNat,ko z.1) z.2
  ·rw [if_neg h1,if_neg h1];exact BL n (a.toNat,some a.toNat,ko a) l1
theorem rR (n:Nat) (l:List Sy):qc n l=oK (fun o=>o.2.2) (eQ n l):=by
 unfold qc eQ
 by_cases h:hd l=123
 ·rw [if_pos h,if_pos h];exact Ji n l.tail
 ·rw [if_neg h,if_neg h]
  split
  ·rfl
  ·split<;>rfl
def EK:bn af->bn Unit:=oK fun _=>()
theorem EL (n:Nat) (l:List Sy):Ik n l=EK (kJ n l):=by
 unfold Ik kJ EK
 by_cases h:isSet l=true
 ·rw [if_pos h,if_pos h];rfl
 ·rw [if_neg h,if_neg h]
  cases h1:eZ n l with
  | error x=>rfl
  | ok y=>
   obtain ⟨a,l1⟩:=y
   simp only []
   by_cases h2:hd l1=45
   ·rw [if_pos h2,if_pos h2]
    cases h3:eZ n l1.tail with
    | error x=>rfl
    | ok z=>
     simp only []
     split<;>rfl
   ·rw [if_neg h2,if_neg h2];rfl
theorem nI (n:Nat):∀ (f:Nat) (s:af) (l:List Sy),jL n f l=EK (bP n f s l)
 | 0,_,_=>rfl
 | f+1,s,l=>by
  rw [jL,bP,EL]
  by_cases h:hd l=93
  ·rw [if_pos h,if_pos h];rfl
  ·rw [if_neg h,if_neg h]
   cases h1:kJ n l with
   | error x=>rfl
   | ok y=>exact nI n f (qR s y.1) y.2
theorem Rk (r:bn af):EK (Br r)=EK r:=by cases r<;>rfl
theorem MO (n:Nat) (l:List Sy):AO n l=EK (jO n l):=by
 unfold AO jO
 by_cases h:hd l=94
 ·rw [if_pos h,if_pos h,Rk];exact nI n _ [] _
 ·rw [if_neg h,if_neg h];exact nI n _ [] _
theorem EM (n:Nat) (l:List Sy):dK (AP n l) (oo (fZ n l)):=by
 have key:AP n l=oK (fun _=>(1:Int)) (fZ n l):=by
  unfold AP fZ
  by_cases h1:hd l=91
  ·rw [if_pos h1,if_pos h1,MO]
   cases jO n l.tail<;>rfl
  ·rw [if_neg h1,if_neg h1]
   by_cases h2:hd l=92
   ·rw [if_pos h2,if_pos h2]
    split
    ·rfl
    ·cases fC n l.tail<;>rfl
   ·rw [if_neg h2,if_neg h2]
    split
    ·rfl
    ·split<;>rfl
 rw [key]
 cases h:fZ n l with
 | error x=>exact dK.err
 | ok y=>exact dK.ok (v:=(.set y.1,1)) (show (0:Int)<=1 by decide) (show (1:Int)<=61 by decide)
theorem OV {n:Int} (h:0<=n):0<=dA n/\dA n<=61:=by unfold dA;split<;>omega
theorem UI {n:Nat} {l l1:List Sy} {o:jX} (h:eQ n l=.ok (o,l1)):0<=o.2.2:=by
 have ac0:∀ (least:Int) (l l1:List Sy) (a:Int),bQ n least l=.ok (a,l1)->0<=a:=by
  intro least l l1 a h
  unfold bQ at h
  split at h
  ·rename_i hd1
   split at h
   ·simp [bad] at h
   ·simp only [Except.ok.injEq] at h
    have e:a=(kT l).1:=by rw [h]
    rw [e]
    unfold iH at hd1
    simp at hd1
    unfold kT
    split
    ·rename_i h2
     have h3:=h2.2
     unfold iH at h3
     simp at h3
     simp only [];omega
    ·simp only [];omega
  ·simp [bad] at h
 have hp1:∀ m:Int,0<=m->0<=ko m:=by intro m hm;unfold ko;split<;>omega
 have hclose:∀ (m o:jX) (l l1:List Sy),0<=m.2.2->gN n m l=.ok (o,l1)->0<=o.2.2:=by
  intro m o l l1 hm h
  unfold gN at h
  split at h
  ·cases h;exact hm
  ·simp [bad] at h
 unfold eQ at h
 split at h
 ·unfold ja at h
  split at h
  ·cases h
  ·rename_i a l2 ha
   have ha0:=ac0 _ _ _ _ ha
   split at h
   ·split at h
    ·cases h;simp only [];omega
    ·split at h
     ·cases h
     ·rename_i m l3 hm
      exact hclose (a.toNat,some m.toNat,ko m) o l3 l1 (hp1 m (ac0 _ _ _ _ hm)) h
   ·exact hclose (a.toNat,some a.toNat,ko a) o l2 l1 (hp1 a ha0) h
 ·split at h
  ·cases h;decide
  ·split at h
   ·cases h;decide
   ·cases h;decide
theorem EN (n:Nat):∀ (f:Nat) (z:Pn) (l:List Sy),0<=z.2->z.2<=61->dK (Ei n f z.2 l) (kK n f z l)
 | 0,_,_,_,_=>dK.bad
 | f+1,z,l,h0,h1=>by
  rw [Ei,kK,rR]
  by_cases h:mE (hd l)=true
  ·rw [if_pos h,if_pos h]
   cases hr:eQ n l with
   | error x=>exact dK.err
   | ok y=>
    obtain ⟨o,l1⟩:=y
    have hb:=OV (Int.mul_nonneg h0 (UI hr))
    exact EN n f (I1 z o) l1 hb.1 hb.2
  ·rw [if_neg h,if_neg h];exact dK.ok h0 h1
theorem tJ {n:Nat} {a:List Sy->bn Int} {b:List Sy->bn Pn} (hab:ou a b):∀ (f:Nat) (l:List Sy),dK (AQ n a f l) (dW n b f l)
 | 0,_=>dK.bad
 | f+1,l=>by
  rw [AQ,dW]
  by_cases h:hd l=126
  ·rw [if_pos h,if_pos h]
   have ih:=tJ (n:=n) hab f l.tail
   rw [ih.1]
   cases hq:dW n b f l.tail with
   | error x=>exact dK.err
   | ok y=>
    obtain ⟨z,l1⟩:=y
    have hz:=ih.2 z l1 hq
    have hb:=OV (n:=z.2+1) (by omega)
    exact dK.ok (v:=I4 z) hb.1 hb.2
  ·rw [if_neg h,if_neg h]
   have ih:=hab l
   rw [ih.1]
   cases hq:b l with
   | error x=>exact dK.err
   | ok y=>
    obtain ⟨z,l1⟩:=y
    have hz:=ih.2 z l1 hq
    exact EN n _ z l1 hz.1 hz.2
def pI (l:List Pn):Prop:=∀ p∈l,0<=p.2/\p.2<=61
theorem pI.snoc {l:List Pn} {p:Pn} (h:pI l) (h0:0<=p.2) (h1:p.2<=61):pI (l++[p]):=by
 intro q hq
 rcases List.mem_append.1 hq with hq | hq
 ·exact h q hq
 ·simp at hq;subst hq;exact ⟨h0,h1⟩
theorem xZ:∀ (l:List Pn) (p:Pn),dH (l++[p])=dH l+p.2
 | [],p=>by simp [dH]
 | x::l,p=>by rw [List.cons_append,dH,dH,xZ l p];omega
theorem wK:∀ {l:List Pn},pI l->0<=dH l
 | [],_=>by simp [dH]
 | x::l,h=>by
  have:=h x (List.mem_cons_self ..)
  have:=wK (l:=l) fun p hp=>h p (List.mem_cons_of_mem _ hp)
  rw [dH];omega
def vG (l:List Pn):Int:=min (((l.length:Int) - 1)+dH l) 61
theorem OW (x:Int):dA x=min x 61:=by unfold dA;split<;>omega
theorem zZ {p:Pn} (h:p.2<=61):vG [p]=p.2:=by simp [vG,dH];omega
theorem Jj {l:List Pn} {p:Pn} (h:pI l) (hne:l≠[]) (h0:0<=p.2):vG (l++[p])=dA (vG l+1+p.2):=by
 have hs:=wK h
 have hl:1<=l.length:=by
  cases l with
  | nil=>exact absurd rfl hne
  | cons x l=>simp
 rw [OW,vG,vG,xZ,List.length_append]
 simp only [List.length_cons,List.length_nil]
 omega
theorem aaD {l:List Pn} (h:pI l) (hne:l≠[]):0<=vG l/\vG l<=61:=by
 have hs:=wK h
 have hl:1<=l.length:=by
  cases l with
  | nil=>exact absurd rfl hne
  | cons x l=>simp
 unfold vG;omega
theorem uW {l:List Pn} (h:pI l) (hne:l≠[]):(fI l).2=vG l:=by
 unfold fI
 split
 ·rename_i p
  rw [zZ (h p (List.mem_cons_self ..)).2]
 ·simp only []
  rw [if_neg (by simpa using hne)];rfl
theorem uX {k:Bool} {l:List Pn} (h:pI l):(jg k l).2=vG l:=by
 unfold jg
 split
 ·rename_i p
  rw [zZ (h p (List.mem_cons_self ..)).2]
 ·rfl
def l6 (r:bn Int) (q:bn (List Pn)):Prop:=r=oK vG q/\∀ v l,q=.ok (v,l)->pI v/\v≠[]
theorem wL {n:Nat} {a:List Sy->bn Int} {b:List Sy->bn Pn} (hab:ou a b):∀ (f:Nat) (z:List Pn) (l:List Sy),pI z->z≠[]->l6 (lU n a f (vG z) l) (bL n b f z l)
 | 0,_,_,_,_=>⟨rfl,fun _ _ h=>by simp [bL,bad] at h⟩
 | f+1,z,l,hz,hne=>by
  rw [lU,bL]
  by_cases h:kC (hd l)=true
  ·rw [if_pos h,if_pos h]
   exact ⟨rfl,fun v l' e=>by cases e;exact ⟨hz,hne⟩⟩
  ·rw [if_neg h,if_neg h]
   have ih:=tJ (n:=n) hab (l.length+1) l
   rw [ih.1]
   cases hq:dW n b (l.length+1) l with
   | error x=>exact ⟨rfl,fun v l' e=>by cases e⟩
   | ok y=>
    obtain ⟨p,l1⟩:=y
    have hp:=ih.2 p l1 hq
    show l6 (lU n a f (dA (vG z+1+p.2)) l1) _
    rw [<-Jj hz hne hp.1]
    exact wL hab f (z++[p]) l1 (hz.snoc hp.1 hp.2) (by simp)
theorem l6.row {r:bn Int} {q:bn (List Pn)} (h:l6 r q):dK r (oK fI q):=by
 rw [h.1]
 cases hq:q with
 | error x=>exact dK.err
 | ok y=>
  obtain ⟨v,l⟩:=y
  obtain ⟨hv,hne⟩:=h.2 v l hq
  have hb:=aaD hv hne
  rw [<-uW hv hne] at hb
  show dK (.ok (vG v,l)) (.ok (fI v,l))
  rw [<-uW hv hne]
  exact dK.ok hb.1 hb.2
theorem l6.aZ {r:bn Int} {q:bn (List Pn)} (k:Bool) (h:l6 r q):dK r (oK (jg k) q):=by
 rw [h.1]
 cases hq:q with
 | error x=>exact dK.err
 | ok y=>
  obtain ⟨v,l⟩:=y
  obtain ⟨hv,hne⟩:=h.2 v l hq
  have hb:=aaD hv hne
  rw [<-uX (k:=k) hv] at hb
  show dK (.ok (vG v,l)) (.ok (jg k v,l))
  rw [<-uX (k:=k) hv]
  exact dK.ok hb.1 hb.2
theorem BM {n:Nat} {a:List Sy->bn Int} {b:List Sy->bn Pn} (hab:ou a b):ou (TW n a) (rowP n b):=by
 intro l
 unfold TW rowP
 by_cases h:kC (hd l)=true
 ·rw [if_pos h,if_pos h]
  exact dK.ok (v:=fI []) (by decide) (by decide)
 ·rw [if_neg h,if_neg h]
  have ih:=tJ (n:=n) hab (l.length+1) l
  rw [ih.1]
  cases hq:dW n b (l.length+1) l with
  | error x=>exact dK.err
  | ok y=>
   obtain ⟨p,l1⟩:=y
   have hp:=ih.2 p l1 hq
   have hone:pI [p]:=fun q hq=>by simp at hq;subst hq;exact hp
   show dK (lU n a (l1.length+1) p.2 l1) _
   rw [<-zZ hp.2]
   exact (wL hab (l1.length+1) [p] l1 hone (by simp)).row
theorem wM {n:Nat} {a:List Sy->bn Int} {b:List Sy->bn Pn} (hab:ou a b) (sg:Int):∀ (f:Nat) (z:List Pn) (l:List Sy),pI z->z≠[]->l6 (lV n a sg f (vG z) l) (bM n b sg f z l)
 | 0,_,_,_,_=>⟨rfl,fun _ _ h=>by simp [bM,bad] at h⟩
 | f+1,z,l,hz,hne=>by
  rw [lV,bM]
  by_cases h:hd l=sg
  ·rw [if_pos h,if_pos h]
   have ih:=hab l.tail
   rw [ih.1]
   cases hq:b l.tail with
   | error x=>exact ⟨rfl,fun v l' e=>by cases e⟩
   | ok y=>
    obtain ⟨p,l1⟩:=y
    have hp:=ih.2 p l1 hq
    show l6 (lV n a sg f (dA (vG z+1+p.2)) l1) _
    rw [<-Jj hz hne hp.1]
    exact wM hab sg f (z++[p]) l1 (hz.snoc hp.1 hp.2) (by simp)
  ·rw [if_neg h,if_neg h]
   exact ⟨rfl,fun v l' e=>by cases e;exact ⟨hz,hne⟩⟩
theorem BN {n:Nat} {a:List Sy->bn Int} {b:List Sy->bn Pn} (hab:ou a b) (sg:Int) (k:Bool):ou (QT n a sg) (qU n b sg (jg k)):=by
 intro l
 unfold QT qU
 have ih:=hab l
 rw [ih.1]
 cases hq:b l with
 | error x=>exact dK.err
 | ok y=>
  obtain ⟨p,l1⟩:=y
  have hp:=ih.2 p l1 hq
  have hone:pI [p]:=fun q hq=>by simp at hq;subst hq;exact hp
  show dK (lV n a sg (l1.length+1) p.2 l1) _
  rw [<-zZ hp.2]
  exact (wM hab sg (l1.length+1) [p] l1 hone (by simp)).aZ k
theorem y8 {n:Nat} {a:List Sy->bn Int} {b:List Sy->bn Pn} (hab:ou a b):ou (zO n a) (fJ n b):=BN (BN (BM hab) 38 true) 124 false
theorem x8 {n:Nat}:∀ k:Nat,ou (yP n k) (ek n k)
 | 0=>by
  intro l
  rw [yP,ek]
  by_cases h:hd l=40
  ·rw [if_pos h,if_pos h];exact dK.bad
  ·rw [if_neg h,if_neg h];exact EM n l
 | k+1=>by
  intro l
  rw [yP,ek]
  by_cases h:hd l=40
  ·rw [if_pos h,if_pos h]
   have ih:=y8 (n:=n) (x8 (n:=n) k) l.tail
   rw [ih.1]
   cases hq:fJ n (ek n k) l.tail with
   | error x=>exact dK.err
   | ok y=>
    obtain ⟨p,l1⟩:=y
    have hp:=ih.2 p l1 hq
    show dK (if hd l1=41 then .ok (p.2,l1.tail) else bad 2 n l1) (if hd l1=41 then .ok (p,l1.tail) else bad 2 n l1)
    split
    ·exact dK.ok hp.1 hp.2
    ·exact dK.bad
  ·rw [if_neg h,if_neg h];exact EM n l
theorem BP (s:ByteArray):xG s=UA (bG s):=by
 unfold xG bG
 by_cases h:60<s.size
 ·rw [if_pos h,if_pos h];rfl
 ·rw [if_neg h,if_neg h]
  have ih:=y8 (n:=s.size) (x8 (n:=s.size) 8) (ai s 0)
  rw [ih.1]
  cases hq:fJ s.size (ek s.size 8) (ai s 0) with
  | error x=>rfl
  | ok y=>
   obtain ⟨p,l1⟩:=y
   show (if hd l1<0 then (if 60<p.2 then ((5,0):Int×Int) else (0,0)) else (2,AL s.size l1))=UA (if hd l1<0 then (if 60<p.2 then .error (5,0) else .ok p.1) else .error (2,AL s.size l1))
   split
   ·split<;>rfl
   ·rfl
end Go.Proofs.YtfolanohokflkaaGreatDoor
