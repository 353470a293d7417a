import Derived.Test.YtfolanohokflkaaGreatDoorDec
import Derived.Test.YtfolanohokflkaaGreatDoorPSpec
namespace Go.Proofs.YtfolanohokflkaaGreatDoor
theorem l_ {l:List Sy} (h:¬ hd l=-1):l.tail.length<l.length:=by
 cases l with
 | nil=>exact absurd rfl h
 | cons x r=>simp
theorem fo (l:List Sy):l.tail.length<=l.length:=by rw [List.length_tail];omega
theorem yh {n:Nat} {a:Int} {l:List Sy} {y:Int×List Sy} (h:bL n a l=.ok y):y.2.length<=l.length:=by
 have h1:=fo l
 have h2:=fo l.tail
 unfold bL at h
 split at h
 ·split at h
  ·cases h
  ·injection h with h
   subst h
   unfold iL
   split<;>dsimp only<;>omega
 ·cases h
theorem AB {n:Nat} {m:Int} {l:List Sy} {y:Int×List Sy} (h:qG n m l=.ok y):y.2.length<=l.length:=by
 have h1:=fo l
 unfold qG at h
 split at h
 ·injection h with h;subst h;exact h1
 ·cases h
theorem H_ {n:Nat} {l:List Sy} {y:Int×List Sy} (h:rZ n l=.ok y):y.2.length<=l.length:=by
 unfold rZ at h
 split at h
 ·cases h
 ·rename_i a l1 h1
  have g1:=yh h1
  have t1:=fo l1
  have t2:=fo l1.tail
  dsimp only at g1
  split at h
  ·split at h
   ·injection h with h;subst h;dsimp only;omega
   ·split at h
    ·cases h
    ·rename_i m l2 h2
     have g2:=yh h2
     have g3:=AB h
     dsimp only at g2
     omega
  ·have g3:=AB h
   omega
theorem yj {n:Nat} {l:List Sy} {y:Int×List Sy} (hr:jV (hd l)=true) (h:pO n l=.ok y):y.2.length<l.length:=by
 have hp:=l_ (l:=l) (by intro e;rw [e] at hr;exact absurd hr (by decide))
 unfold pO at h
 split at h
 ·have:=H_ h;omega
 ·injection h with h;subst h;exact hp
theorem Ia:∀ (f:Nat) (v:Int) (k:Nat) (l:List Sy),(mi f v k l).2.2.length<=l.length
 | 0,_,_,_=>Nat.le_refl _
 | f+1,v,k,l=>by
  rw [mi]
  split
  ·exact Nat.le_trans (Ia f _ _ _) (fo l)
  ·exact Nat.le_refl _
theorem PV {n:Nat} {l:List Sy} {y:Int×List Sy} (h:ma n l=.ok y):y.2.length<=l.length:=by
 unfold ma at h
 split at h
 ·have g:=Ia 6 0 0 l.tail
  have t:=fo l
  have t2:=fo (mi 6 0 0 l.tail).2.2
  unfold kg at h
  split at h
  ·cases h
  ·split at h
   ·injection h with h;subst h;dsimp only;omega
   ·cases h
 ·cases h
theorem yl {n:Nat} {l:List Sy} {y:Int×List Sy} (h:dD n l=.ok y):y.2.length<=l.length:=by
 have t:=fo l
 unfold dD at h
 split at h
 ·have:=PV h;omega
 ·split at h
  ·injection h with h;subst h;exact t
  ·split at h
   ·injection h with h;subst h;exact t
   ·cases h
theorem AJ {n:Nat} {l:List Sy} {y:Int×List Sy} (h:eD n l=.ok y):y.2.length<l.length:=by
 unfold eD at h
 split at h
 ·rename_i yU
  have hp:=l_ (l:=l) (by omega)
  have:=yl h;omega
 ·split at h
  ·cases h
  ·injection h with h;subst h;exact l_ (by omega)
theorem DL {l:List Sy} (h:isSet l=true):l.tail.tail.length<l.length:=by
 have h':hd l=92/\(hd l.tail=100\/hd l.tail=119):=by simpa [isSet] using h
 have hp:=l_ (l:=l) (by omega)
 have:=fo l.tail
 omega
theorem DN {n:Nat} {l:List Sy} {y:Unit×List Sy} (h:GA n l=.ok y):y.2.length<l.length:=by
 unfold GA at h
 split at h
 ·rename_i hs
  injection h with h;subst h;exact DL hs
 ·split at h
  ·cases h
  ·rename_i a l1 h1
   have g1:=AJ h1
   have t1:=fo l1
   dsimp only at g1
   split at h
   ·split at h
    ·cases h
    ·rename_i b l2 h2
     have g2:=AJ h2
     dsimp only at g2
     split at h
     ·cases h
     ·injection h with h;subst h;dsimp only;omega
   ·injection h with h;subst h;exact g1
theorem nE {n:Nat}:∀ (f:Nat) {l:List Sy} {y:Unit×List Sy},jM n f l=.ok y->y.2.length<=l.length
 | 0,l,y,h=>by cases h
 | f+1,l,y,h=>by
  rw [jM] at h
  split at h
  ·injection h with h;subst h;exact fo l
  ·split at h
   ·cases h
   ·rename_i u l1 h1
    have g1:=DN h1
    have g2:=nE f h
    dsimp only at g1
    omega
theorem Lb {n:Nat} {l:List Sy} {y:Unit×List Sy} (h:zR n l=.ok y):y.2.length<=l.length:=by
 unfold zR at h
 split at h
 ·have:=nE _ h;have:=fo l;omega
 ·exact nE _ h
theorem DR {n:Nat} {l:List Sy} {y:Int×List Sy} (h:zS n l=.ok y):y.2.length<l.length:=by
 unfold zS at h
 split at h
 ·have hp:=l_ (l:=l) (by omega)
  split at h
  ·cases h
  ·rename_i u l1 h1
   have:=Lb h1
   injection h with h;subst h;dsimp only at this ⊢;omega
 ·split at h
  ·have hp:=l_ (l:=l) (by omega)
   split at h
   ·rename_i hs
    injection h with h;subst h;exact DL hs
   ·split at h
    ·cases h
    ·rename_i u l1 h1
     have:=yl h1
     injection h with h;subst h;dsimp only at this ⊢;omega
  ·split at h
   ·injection h with h;subst h;exact l_ (by omega)
   ·split at h
    ·cases h
    ·injection h with h;subst h;exact l_ (by omega)
theorem DT {n:Nat}:∀ (f:Nat) {z:Int} {l:List Sy} {y:Int×List Sy},Dk n f z l=.ok y->y.2.length<=l.length
 | 0,_,l,y,h=>by cases h
 | f+1,z,l,y,h=>by
  rw [Dk] at h
  split at h
  ·rename_i hr
   split at h
   ·cases h
   ·rename_i m l1 h1
    have g1:=yj hr h1
    have g2:=DT f h
    dsimp only at g1
    omega
  ·injection h with h;subst h;exact Nat.le_refl _
def ZL (at_:List Sy->bf Int):Prop:=∀ l y,at_ l=.ok y->y.2.length<l.length
def Lc (at_:List Sy->bf Int):Prop:=∀ l y,at_ l=.ok y->y.2.length<=l.length
theorem su {n:Nat} {at_:List Sy->bf Int} (ha:ZL at_):∀ (f:Nat) {l:List Sy} {y:Int×List Sy},zT n at_ f l=.ok y->y.2.length<l.length
 | 0,l,y,h=>by cases h
 | f+1,l,y,h=>by
  rw [zT] at h
  split at h
  ·split at h
   ·cases h
   ·rename_i z l1 h1
    have g1:=su ha f h1
    have t:=fo l
    injection h with h;subst h;dsimp only at g1 ⊢;omega
  ·split at h
   ·cases h
   ·rename_i z l1 h1
    have g1:=ha _ _ h1
    have g2:=DT _ h
    dsimp only at g1
    omega
theorem vK {n:Nat} {at_:List Sy->bf Int} (ha:ZL at_):∀ (f:Nat) {z:Int} {l:List Sy} {y:Int×List Sy},lH n at_ f z l=.ok y->y.2.length<=l.length
 | 0,_,l,y,h=>by cases h
 | f+1,z,l,y,h=>by
  rw [lH] at h
  split at h
  ·injection h with h;subst h;exact Nat.le_refl _
  ·split at h
   ·cases h
   ·rename_i x l1 h1
    have g1:=su ha _ h1
    have g2:=vK ha f h
    dsimp only at g1
    omega
theorem Ib {n:Nat} {at_:List Sy->bf Int} (ha:ZL at_):Lc (RJ n at_):=by
 intro l y h
 unfold RJ at h
 split at h
 ·injection h with h;subst h;exact Nat.le_refl _
 ·split at h
  ·cases h
  ·rename_i x l1 h1
   have g1:=su ha _ h1
   have g2:=vK ha _ h
   dsimp only at g1
   omega
theorem vL {n:Nat} {sub:List Sy->bf Int} {sg:Int} (hs:Lc sub):∀ (f:Nat) {z:Int} {l:List Sy} {y:Int×List Sy},lI n sub sg f z l=.ok y->y.2.length<=l.length
 | 0,_,l,y,h=>by cases h
 | f+1,z,l,y,h=>by
  rw [lI] at h
  split at h
  ·split at h
   ·cases h
   ·rename_i x l1 h1
    have g1:=hs _ _ h1
    have t:=fo l
    have g2:=vL hs f h
    dsimp only at g1
    omega
  ·injection h with h;subst h;exact Nat.le_refl _
theorem Ic {n:Nat} {sub:List Sy->bf Int} {sg:Int} (hs:Lc sub):Lc (Po n sub sg):=by
 intro l y h
 unfold Po at h
 split at h
 ·cases h
 ·rename_i x l1 h1
  have g1:=hs _ _ h1
  have g2:=vL hs _ h
  dsimp only at g1
  omega
theorem DU {n:Nat} {at_:List Sy->bf Int} (ha:ZL at_):Lc (YH n at_):=Ic (Ib ha)
theorem Ie {n:Nat} {at_:List Sy->bf Int} (ha:ZL at_):Lc (y7 n at_):=Ic (DU ha)
theorem DV (n:Nat):∀ k,ZL (xY n k)
 | 0=>by
  intro l y h
  rw [xY] at h
  split at h
  ·cases h
  ·exact DR h
 | k+1=>by
  intro l y h
  rw [xY] at h
  split at h
  ·have hp:=l_ (l:=l) (by omega)
   split at h
   ·cases h
   ·rename_i z l1 h1
    have g1:=Ie (DV n k) _ _ h1
    have t:=fo l1
    split at h
    ·injection h with h;subst h;dsimp only at g1 ⊢;omega
    ·cases h
  ·exact DR h
end Go.Proofs.YtfolanohokflkaaGreatDoor
namespace Go.Proofs.YtfolanohokflkaaGreatDoor
def dK (r:bf Int) (q:bf Pn):Prop:=r=nY Prod.snd q/\∀ v l,q=.ok (v,l)->0<=v.2/\v.2<=61
def oo (a:List Sy->bf Int) (b:List Sy->bf Pn):Prop:=∀ l,dK (a l) (b l)
theorem dK.bad {e:Int} {n:Nat} {l:List Sy}:dK (bad e n l) (bad e n l):=⟨rfl,fun _ _ h=>by simp [Go.Proofs.YtfolanohokflkaaGreatDoor.bad] at h⟩
theorem dK.err {x:Int×Int}:dK (.error x) (.error x):=⟨rfl,fun _ _ h=>by cases h⟩
theorem dK.ok {v:Pn} {l:List Sy} (h0:0<=v.2) (h1:v.2<=61):dK (.ok (v.2,l)) (.ok (v,l)):=⟨rfl,fun _ _ h=>by cases h;exact ⟨h0,h1⟩⟩
theorem AL (n:Nat) (m:iW) (l:List Sy):qG n m.2.2 l=nY (fun o=>o.2.2) (fC n m l):=by
 unfold qG fC
 split<;>rfl
theorem Ig (n:Nat) (l:List Sy):rZ n l=nY (fun o=>o.2.2) (gu n l):=by
 unfold rZ gu
 cases h:bL n 0 l with
 | error x=>rfl
 | ok y=>
  obtain ⟨a,l1⟩:=y
  simp only []
  by_cases h1:hd l1=44
  ·rw [if_pos h1,if_pos h1]
   by_cases h2:hd l1.tail=125
   ·rw [if_pos h2,if_pos h2];rfl
   ·rw [if_neg h2,if_neg h2]
    cases h3:bL n a l1.tail with
    | error x=>rfl
    | ok z=>exact AL n (a.toNat,some z.1.toNat,j5 z.1) z.2
  ·rw [if_neg h1,if_neg h1];exact AL n (a.toNat,some a.toNat,j5 a) l1
theorem q8 (n:Nat) (l:List Sy):pO n l=nY (fun o=>o.2.2) (dX n l):=by
 unfold pO dX
 by_cases h:hd l=123
 ·rw [if_pos h,if_pos h];exact Ig n l.tail
 ·rw [if_neg h,if_neg h]
  split
  ·rfl
  ·split<;>rfl
def DW:bf ah->bf Unit:=nY fun _=>()
theorem DX (n:Nat) (l:List Sy):GA n l=DW (jq n l):=by
 unfold GA jq DW
 by_cases h:isSet l=true
 ·rw [if_pos h,if_pos h];rfl
 ·rw [if_neg h,if_neg h]
  cases h1:eD n l with
  | error x=>rfl
  | ok y=>
   obtain ⟨a,l1⟩:=y
   simp only []
   by_cases h2:hd l1=45
   ·rw [if_pos h2,if_pos h2]
    cases h3:eD n l1.tail with
    | error x=>rfl
    | ok z=>
     simp only []
     split<;>rfl
   ·rw [if_neg h2,if_neg h2];rfl
theorem nG (n:Nat):∀ (f:Nat) (s:ah) (l:List Sy),jM n f l=DW (bA n f s l)
 | 0,_,_=>rfl
 | f+1,s,l=>by
  rw [jM,bA,DX]
  by_cases h:hd l=93
  ·rw [if_pos h,if_pos h];rfl
  ·rw [if_neg h,if_neg h]
   cases h1:jq n l with
   | error x=>rfl
   | ok y=>exact nG n f (qA s y.1) y.2
theorem PW (r:bf ah):DW (Ak r)=DW r:=by cases r<;>rfl
theorem Ld (n:Nat) (l:List Sy):zR n l=DW (iB n l):=by
 unfold zR iB
 by_cases h:hd l=94
 ·rw [if_pos h,if_pos h,PW];exact nG n _ [] _
 ·rw [if_neg h,if_neg h];exact nG n _ [] _
theorem DY (n:Nat) (l:List Sy):dK (zS n l) (kN (dV n l)):=by
 have key:zS n l=nY (fun _=>(1:Int)) (dV n l):=by
  unfold zS dV
  by_cases h1:hd l=91
  ·rw [if_pos h1,if_pos h1,Ld]
   cases iB n l.tail<;>rfl
  ·rw [if_neg h1,if_neg h1]
   by_cases h2:hd l=92
   ·rw [if_pos h2,if_pos h2]
    split
    ·rfl
    ·cases dD n l.tail<;>rfl
   ·rw [if_neg h2,if_neg h2]
    split
    ·rfl
    ·split<;>rfl
 rw [key]
 cases h:dV n l with
 | error x=>exact dK.err
 | ok y=>exact dK.ok (v:=(.set y.1,1)) (show (0:Int)<=1 by decide) (show (1:Int)<=61 by decide)
theorem Np {n:Int} (h:0<=n):0<=dA n/\dA n<=61:=by unfold dA;split<;>omega
theorem SK {n:Nat} {l l1:List Sy} {o:iW} (h:dX n l=.ok (o,l1)):0<=o.2.2:=by
 have abo:∀ (least:Int) (l l1:List Sy) (a:Int),bL n least l=.ok (a,l1)->0<=a:=by
  intro least l l1 a h
  unfold bL at h
  split at h
  ·rename_i hd1
   split at h
   ·simp [bad] at h
   ·simp only [Except.ok.injEq] at h
    have e:a=(iL l).1:=by rw [h]
    rw [e]
    unfold fF at hd1
    simp at hd1
    unfold iL
    split
    ·rename_i h2
     have h3:=h2.2
     unfold fF at h3
     simp at h3
     simp only [];omega
    ·simp only [];omega
  ·simp [bad] at h
 have hp1:∀ m:Int,0<=m->0<=j5 m:=by intro m hm;unfold j5;split<;>omega
 have hclose:∀ (m o:iW) (l l1:List Sy),0<=m.2.2->fC n m l=.ok (o,l1)->0<=o.2.2:=by
  intro m o l l1 hm h
  unfold fC at h
  split at h
  ·cases h;exact hm
  ·simp [bad] at h
 unfold dX at h
 split at h
 ·unfold gu at h
  split at h
  ·cases h
  ·rename_i a l2 ha
   have ha0:=abo _ _ _ _ ha
   split at h
   ·split at h
    ·cases h;simp only [];omega
    ·split at h
     ·cases h
     ·rename_i m l3 hm
      exact hclose (a.toNat,some m.toNat,j5 m) o l3 l1 (hp1 m (abo _ _ _ _ hm)) h
   ·exact hclose (a.toNat,some a.toNat,j5 a) o l2 l1 (hp1 a ha0) h
 ·split at h
  ·cases h;decide
  ·split at h
   ·cases h;decide
   ·cases h;decide
theorem DZ (n:Nat):∀ (f:Nat) (z:Pn) (l:List Sy),0<=z.2->z.2<=61->dK (Dk n f z.2 l) (iH n f z l)
 | 0,_,_,_,_=>dK.bad
 | f+1,z,l,h0,h1=>by
  rw [Dk,iH,q8]
  by_cases h:jV (hd l)=true
  ·rw [if_pos h,if_pos h]
   cases hr:dX n l with
   | error x=>exact dK.err
   | ok y=>
    obtain ⟨o,l1⟩:=y
    have hb:=Np (Int.mul_nonneg h0 (SK hr))
    exact DZ n f (Hm z o) l1 hb.1 hb.2
  ·rw [if_neg h,if_neg h];exact dK.ok h0 h1
theorem sw {n:Nat} {a:List Sy->bf Int} {b:List Sy->bf Pn} (hab:oo a b):∀ (f:Nat) (l:List Sy),dK (zT n a f l) (b_ n b f l)
 | 0,_=>dK.bad
 | f+1,l=>by
  rw [zT,b_]
  by_cases h:hd l=126
  ·rw [if_pos h,if_pos h]
   have ih:=sw (n:=n) hab f l.tail
   rw [ih.1]
   cases hq:b_ n b f l.tail with
   | error x=>exact dK.err
   | ok y=>
    obtain ⟨z,l1⟩:=y
    have hz:=ih.2 z l1 hq
    have hb:=Np (n:=z.2+1) (by omega)
    exact dK.ok (v:=w_ z) hb.1 hb.2
  ·rw [if_neg h,if_neg h]
   have ih:=hab l
   rw [ih.1]
   cases hq:b l with
   | error x=>exact dK.err
   | ok y=>
    obtain ⟨z,l1⟩:=y
    have hz:=ih.2 z l1 hq
    exact DZ n _ z l1 hz.1 hz.2
def o9 (l:List Pn):Prop:=∀ p∈l,0<=p.2/\p.2<=61
theorem o9.snoc {l:List Pn} {p:Pn} (h:o9 l) (h0:0<=p.2) (h1:p.2<=61):o9 (l++[p]):=by
 intro q hq
 rcases List.mem_append.1 hq with hq | hq
 ·exact h q hq
 ·simp at hq;subst hq;exact ⟨h0,h1⟩
theorem xh:∀ (l:List Pn) (p:Pn),dI (l++[p])=dI l+p.2
 | [],p=>by simp [dI]
 | x::l,p=>by rw [List.cons_append,dI,dI,xh l p];omega
theorem vM:∀ {l:List Pn},o9 l->0<=dI l
 | [],_=>by simp [dI]
 | x::l,h=>by
  have:=h x (List.mem_cons_self ..)
  have:=vM (l:=l) fun p hp=>h p (List.mem_cons_of_mem _ hp)
  rw [dI];omega
def uO (l:List Pn):Int:=min (((l.length:Int) - 1)+dI l) 61
theorem Nq (x:Int):dA x=min x 61:=by unfold dA;split<;>omega
theorem zl {p:Pn} (h:p.2<=61):uO [p]=p.2:=by simp [uO,dI];omega
theorem Ih {l:List Pn} {p:Pn} (h:o9 l) (hne:l≠[]) (h0:0<=p.2):uO (l++[p])=dA (uO l+1+p.2):=by
 have hs:=vM h
 have hl:1<=l.length:=by
  cases l with
  | nil=>exact absurd rfl hne
  | cons x l=>simp
 rw [Nq,uO,uO,xh,List.length_append]
 simp only [List.length_cons,List.length_nil]
 omega
theorem YR {l:List Pn} (h:o9 l) (hne:l≠[]):0<=uO l/\uO l<=61:=by
 have hs:=vM h
 have hl:1<=l.length:=by
  cases l with
  | nil=>exact absurd rfl hne
  | cons x l=>simp
 unfold uO;omega
theorem uy {l:List Pn} (h:o9 l) (hne:l≠[]):(ib l).2=uO l:=by
 unfold ib
 split
 ·rename_i p
  rw [zl (h p (List.mem_cons_self ..)).2]
 ·simp only []
  rw [if_neg (by simpa using hne)];rfl
theorem uz {k:Bool} {l:List Pn} (h:o9 l):(gB k l).2=uO l:=by
 unfold gB
 split
 ·rename_i p
  rw [zl (h p (List.mem_cons_self ..)).2]
 ·rfl
def lQ (r:bf Int) (q:bf (List Pn)):Prop:=r=nY uO q/\∀ v l,q=.ok (v,l)->o9 v/\v≠[]
theorem vN {n:Nat} {a:List Sy->bf Int} {b:List Sy->bf Pn} (hab:oo a b):∀ (f:Nat) (z:List Pn) (l:List Sy),o9 z->z≠[]->lQ (lH n a f (uO z) l) (aW n b f z l)
 | 0,_,_,_,_=>⟨rfl,fun _ _ h=>by simp [aW,bad] at h⟩
 | f+1,z,l,hz,hne=>by
  rw [lH,aW]
  by_cases h:eT (hd l)=true
  ·rw [if_pos h,if_pos h]
   exact ⟨rfl,fun v l' e=>by cases e;exact ⟨hz,hne⟩⟩
  ·rw [if_neg h,if_neg h]
   have ih:=sw (n:=n) hab (l.length+1) l
   rw [ih.1]
   cases hq:b_ n b (l.length+1) l with
   | error x=>exact ⟨rfl,fun v l' e=>by cases e⟩
   | ok y=>
    obtain ⟨p,l1⟩:=y
    have hp:=ih.2 p l1 hq
    show lQ (lH n a f (dA (uO z+1+p.2)) l1) _
    rw [<-Ih hz hne hp.1]
    exact vN hab f (z++[p]) l1 (hz.snoc hp.1 hp.2) (by simp)
theorem lQ.row {r:bf Int} {q:bf (List Pn)} (h:lQ r q):dK r (nY ib q):=by
 rw [h.1]
 cases hq:q with
 | error x=>exact dK.err
 | ok y=>
  obtain ⟨v,l⟩:=y
  obtain ⟨hv,hne⟩:=h.2 v l hq
  have hb:=YR hv hne
  rw [<-uy hv hne] at hb
  show dK (.ok (uO v,l)) (.ok (ib v,l))
  rw [<-uy hv hne]
  exact dK.ok hb.1 hb.2
theorem lQ.aT {r:bf Int} {q:bf (List Pn)} (k:Bool) (h:lQ r q):dK r (nY (gB k) q):=by
 rw [h.1]
 cases hq:q with
 | error x=>exact dK.err
 | ok y=>
  obtain ⟨v,l⟩:=y
  obtain ⟨hv,hne⟩:=h.2 v l hq
  have hb:=YR hv hne
  rw [<-uz (k:=k) hv] at hb
  show dK (.ok (uO v,l)) (.ok (gB k v,l))
  rw [<-uz (k:=k) hv]
  exact dK.ok hb.1 hb.2
theorem AO {n:Nat} {a:List Sy->bf Int} {b:List Sy->bf Pn} (hab:oo a b):oo (RJ n a) (rowP n b):=by
 intro l
 unfold RJ rowP
 by_cases h:eT (hd l)=true
 ·rw [if_pos h,if_pos h]
  exact dK.ok (v:=ib []) (by decide) (by decide)
 ·rw [if_neg h,if_neg h]
  have ih:=sw (n:=n) hab (l.length+1) l
  rw [ih.1]
  cases hq:b_ n b (l.length+1) l with
  | error x=>exact dK.err
  | ok y=>
   obtain ⟨p,l1⟩:=y
   have hp:=ih.2 p l1 hq
   have hone:o9 [p]:=fun q hq=>by simp at hq;subst hq;exact hp
   show dK (lH n a (l1.length+1) p.2 l1) _
   rw [<-zl hp.2]
   exact (vN hab (l1.length+1) [p] l1 hone (by simp)).row
theorem vO {n:Nat} {a:List Sy->bf Int} {b:List Sy->bf Pn} (hab:oo a b) (sg:Int):∀ (f:Nat) (z:List Pn) (l:List Sy),o9 z->z≠[]->lQ (lI n a sg f (uO z) l) (aR n b sg f z l)
 | 0,_,_,_,_=>⟨rfl,fun _ _ h=>by simp [aR,bad] at h⟩
 | f+1,z,l,hz,hne=>by
  rw [lI,aR]
  by_cases h:hd l=sg
  ·rw [if_pos h,if_pos h]
   have ih:=hab l.tail
   rw [ih.1]
   cases hq:b l.tail with
   | error x=>exact ⟨rfl,fun v l' e=>by cases e⟩
   | ok y=>
    obtain ⟨p,l1⟩:=y
    have hp:=ih.2 p l1 hq
    show lQ (lI n a sg f (dA (uO z+1+p.2)) l1) _
    rw [<-Ih hz hne hp.1]
    exact vO hab sg f (z++[p]) l1 (hz.snoc hp.1 hp.2) (by simp)
  ·rw [if_neg h,if_neg h]
   exact ⟨rfl,fun v l' e=>by cases e;exact ⟨hz,hne⟩⟩
theorem AP {n:Nat} {a:List Sy->bf Int} {b:List Sy->bf Pn} (hab:oo a b) (sg:Int) (k:Bool):oo (Po n a sg) (kM n b sg (gB k)):=by
 intro l
 unfold Po kM
 have ih:=hab l
 rw [ih.1]
 cases hq:b l with
 | error x=>exact dK.err
 | ok y=>
  obtain ⟨p,l1⟩:=y
  have hp:=ih.2 p l1 hq
  have hone:o9 [p]:=fun q hq=>by simp at hq;subst hq;exact hp
  show dK (lI n a sg (l1.length+1) p.2 l1) _
  rw [<-zl hp.2]
  exact (vO hab sg (l1.length+1) [p] l1 hone (by simp)).aT k
theorem ym {n:Nat} {a:List Sy->bf Int} {b:List Sy->bf Pn} (hab:oo a b):oo (y7 n a) (bM n b):=AP (AP (AO hab) 38 true) 124 false
theorem xn {n:Nat}:∀ k:Nat,oo (xY n k) (bF n k)
 | 0=>by
  intro l
  rw [xY,bF]
  by_cases h:hd l=40
  ·rw [if_pos h,if_pos h];exact dK.bad
  ·rw [if_neg h,if_neg h];exact DY n l
 | k+1=>by
  intro l
  rw [xY,bF]
  by_cases h:hd l=40
  ·rw [if_pos h,if_pos h]
   have ih:=ym (n:=n) (xn (n:=n) k) l.tail
   rw [ih.1]
   cases hq:bM n (bF n k) l.tail with
   | error x=>exact dK.err
   | ok y=>
    obtain ⟨p,l1⟩:=y
    have hp:=ih.2 p l1 hq
    show dK (if hd l1=41 then .ok (p.2,l1.tail) else bad 2 n l1) (if hd l1=41 then .ok (p,l1.tail) else bad 2 n l1)
    split
    ·exact dK.ok hp.1 hp.2
    ·exact dK.bad
  ·rw [if_neg h,if_neg h];exact DY n l
theorem AQ (s:ByteArray):wK s=SA (bn s):=by
 unfold wK bn
 by_cases h:60<s.size
 ·rw [if_pos h,if_pos h];rfl
 ·rw [if_neg h,if_neg h]
  have ih:=ym (n:=s.size) (xn (n:=s.size) 8) (af s 0)
  rw [ih.1]
  cases hq:bM s.size (bF s.size 8) (af s 0) with
  | error x=>rfl
  | ok y=>
   obtain ⟨p,l1⟩:=y
   show (if hd l1<0 then (if 60<p.2 then ((5,0):Int×Int) else (0,0)) else (2,zQ s.size l1))=SA (if hd l1<0 then (if 60<p.2 then .error (5,0) else .ok p.1) else .error (2,zQ s.size l1))
   split
   ·split<;>rfl
   ·rfl
end Go.Proofs.YtfolanohokflkaaGreatDoor
