import Derived.Test.YtfolanohokflkaaGreatDoorLnO
namespace Go.Proofs.YtfolanohokflkaaGreatDoor
open Tm (eps)
inductive u_:Pt->Prop where
 | set {l:af}:u_ (.set l)
 | row {l:List Pt}:(∀ p∈l,u_ p)->bF (dE (.row l))<=10000->l.length<=1000->u_ (.row l)
 | bf {k:Bool} {l:List Pt}:(∀ p∈l,u_ p)->bF (dE (.bf k l))<=10000->l≠[]->l.length<=1000->u_ (.bf k l)
 | not {a:Pt}:u_ a->bF (dE (.not a))<=10000->u_ (.not a)
 | rep {a:Pt} {n:Nat} {m:Option Nat}:u_ a->bF (dE (.rep a n m))<=10000->n<=1000->(∀ m',m=some m'->n<=m'/\m'<=1000)->u_ (.rep a n m)
mutual
def zC:Pt->Nat
 | .set _=>1
 | .row l=>qx l+1
 | .bf _ l=>qx l+1
 | .not a=>zC a+1
 | .rep a _ _=>zC a+1
def qx:List Pt->Nat
 | []=>0
 | p::r=>zC p+qx r
end
theorem wY:∀ l:List Pt,qx l=bA (l.map zC)
 | []=>rfl
 | p::r=>by rw [qx,wY r];rfl
def SX (k:Nat) (p:Pn):Prop:=Hy k p/\(p.2<=60->k<=60->u_ p.1/\(zC p.1:Int)<=p.2+k)
abbrev abN (d:Nat) (l:List Sy) (r:bu Pn):Prop:=∀ v l',r=.ok (v,l')->∃ k,l'.length+k+d<=l.length/\SX k v
abbrev FA (d:Nat) (a:List Sy->bu Pn):Prop:=∀ l,bq l->abN d l (a l)
theorem ac_ {k s:Nat} {t:Tm} (h:OH k s t) (hk:k<=60) (hs:s<=60):bF t<=10000:=by
 obtain ⟨u,L,q,h1,_,_,h4⟩:=h
 have h5:s*(3+u)<=60*(3+u):=Nat.mul_le_mul_right _ hs
 omega
theorem Hy.nz {k:Nat} {p:Pn} (h:Hy k p) (hk:k<=60) (hp:p.2<=60):bF (dE p.1)<=10000:=ac_ (h.2 hp) hk (by have:=h.1;omega)
theorem PZ {n:Nat} {l:List Sy}:abN 1 l (og (gp n l)):=by
 intro v l' h
 obtain ⟨k,h1,h2⟩:=GA v l' h
 refine ⟨k,h1,h2,fun _ _=>?_⟩
 unfold og at h
 split at h
 ·cases h
 ·cases h
  refine ⟨.set,?_⟩
  have:=h2.1
  rw [zC]
  show (1:Int)<=1+k
  omega
theorem Zo {k:Nat} {p:Pn} (h:SX k p):SX (k+1) (I5 p):=by
 have hw:=OO h.1
 refine ⟨hw,fun hq hk=>?_⟩
 have hq':dB (p.2+1)<=60:=hq
 have e:=zV hq'
 obtain ⟨h1,h2⟩:=h.2 (by omega) (by omega)
 refine ⟨.not h1 (hw.nz hk hq),?_⟩
 show ((zC (.not p.1):Nat):Int)<=dB (p.2+1)+((k+1:Nat):Int)
 rw [zC,e]
 omega
theorem Zp {d f:Nat} {o:jY} (hf:o.2.2=(f:Int)) (ho:wK d o) (h:f<=60):1<=d/\o.1<=1000/\∀ m',o.2.1=some m'->o.1<=m'/\m'<=1000:=by
 obtain ⟨a,b,c⟩:=o
 cases b with
 | none=>
  simp only [wK] at ho
  refine ⟨by omega,?_,fun _ e=>by cases e⟩
  dsimp only at hf ⊢
  omega
 | some m=>
  simp only [wK] at ho
  dsimp only at hf ⊢
  refine ⟨by omega,by omega,fun m' e=>?_⟩
  cases e
  omega
theorem Zq {k d f:Nat} {p:Pn} {o:jY} (hc:uN p) (h:SX k p) (hf:o.2.2=(f:Int)) (hf1:1<=f) (ho:wK d o):SX (k+d) (I4 p o):=by
 have hw:=OP hc h.1 hf hf1 ho
 refine ⟨hw,fun hq hk=>?_⟩
 have hp:=h.1.1
 have hq':dB (p.2*o.2.2)<=60:=hq
 have e:=zV hq'
 have e0:p.2*o.2.2=((p.2.toNat*f:Nat):Int):=by rw [hf,Int.natCast_mul,Int.toNat_of_nonneg (by omega)]
 have h2:p.2.toNat<=p.2.toNat*f:=Nat.le_mul_of_pos_right _ hf1
 have h3:f<=p.2.toNat*f:=Nat.le_mul_of_pos_left _ (by omega)
 rw [e,e0] at hq'
 obtain ⟨h4,h5⟩:=h.2 (by omega) (by omega)
 obtain ⟨r1,r2,r3⟩:=Zp hf ho (by omega)
 refine ⟨.rep h4 (hw.nz hk hq) r2 r3,?_⟩
 show ((zC (.rep p.1 o.1 o.2.1):Nat):Int)<=dB (p.2*o.2.2)+((k+d:Nat):Int)
 rw [zC,e,e0]
 omega
theorem P5 {n:Nat}:∀ (f:Nat) {z:Pn} {l:List Sy} {k:Nat},uN z->bq l->SX k z->∀ v l',kI n f z l=.ok (v,l')->∃ k',l'.length+k'<=l.length+k/\SX k' v
 | 0,_,_,_,_,_,_,_,_,h=>by simp only [kI,bad] at h;cases h
 | f+1,z,l,k,hz,ha,hw,v,l',h=>by
  rw [kI] at h
  split at h
  ·rename_i hr
   split at h
   ·cases h
   ·rename_i m l1 e
    obtain ⟨d,ho,hd,fa,hf1,hf⟩:=xY hr e
    have ha1:=(oh (n:=n) ha _ _ e).2
    obtain ⟨k',h1,h2⟩:=P5 f (z:=I4 z m) (by show sO (.rep z.1 m.1 m.2.1);rw [sO];exact hz) ha1 (Zq hz hw hf hf1 ho) v l' h
    exact ⟨k',by omega,h2⟩
  ·cases h;exact ⟨k,Nat.le_refl _,hw⟩
theorem Ha {n:Nat} {a:List Sy->bu Pn} (ha:fe a) (hw:FA 1 a):∀ (f:Nat) (l:List Sy),bq l->abN 1 l (dZ n a f l)
 | 0,_,_=>by intro v l' h;simp only [dZ,bad] at h;cases h
 | f+1,l,hl=>by
  intro v l' h
  rw [dZ] at h
  split at h
  ·rename_i q
   have h0:=eF (l:=l) (by omega)
   split at h
   ·cases h
   ·rename_i z l1 e
    obtain ⟨k,h1,h2⟩:=Ha ha hw f l.tail hl.tail _ _ e
    cases h
    exact ⟨k+1,by omega,Zo h2⟩
  ·split at h
   ·cases h
   ·rename_i z l1 e
    obtain ⟨k,h1,h2⟩:=hw l hl _ _ e
    obtain ⟨hz,hl1⟩:=ha l hl _ _ e
    obtain ⟨k',h3,h4⟩:=P5 _ hz hl1 h2 v l' h
    exact ⟨k',by omega,h4⟩
def Xq (k:Nat) (z:List Pn):Prop:=Xi k z/\(dJ z<=60->k<=60->(∀ p∈z,u_ p.1)/\(qx (z.map Prod.fst):Int)<=dJ z+k)
theorem P6 {k:Nat} {y:Pn} (h:SX k y):Xq k [y]:=by
 refine ⟨GG h.1,fun hq hk=>?_⟩
 simp only [dJ,Int.add_zero] at hq ⊢
 obtain ⟨h1,h2⟩:=h.2 hq hk
 exact ⟨by simpa using h1,by simpa [qx] using h2⟩
theorem Wv (a b:List Pt):qx (a++b)=qx a+qx b:=by rw [wY,wY,wY,List.map_append,kQ]
theorem La {k k':Nat} {z:List Pn} {y:Pn} (h:Xq k z) (h':SX k' y):Xq (k+k') (z++[y]):=by
 refine ⟨BV h.1 h'.1,fun hq hk=>?_⟩
 have h0:=pJ h.1.1
 have h1:=h'.1.1
 rw [UM] at hq ⊢
 obtain ⟨a1,a2⟩:=h.2 (by omega) (by omega)
 obtain ⟨b1,b2⟩:=h'.2 (by omega) (by omega)
 refine ⟨fun p hp=>?_,?_⟩
 ·rcases List.mem_append.1 hp with hp | hp
  ·exact a1 p hp
  ·rw [List.mem_singleton.1 hp];exact b1
 ·rw [List.map_append,Wv]
  have:qx ([y].map Prod.fst)=zC y.1:=by simp [qx]
  rw [this]
  omega
theorem P7 {k:Nat} {z:List Pn} {P:Pt} (h:Xq k z) (h2:2<=z.length) (hw:Hy (k+1) (P,min ((z.length:Int) - 1+dJ z) 61)) (hn:zC P=qx (z.map Prod.fst)+1) (hf:(∀ p∈z.map Prod.fst,u_ p)->bF (dE P)<=10000->(z.map Prod.fst).length<=1000->u_ P):SX (k+1) (P,min ((z.length:Int) - 1+dJ z) 61):=by
 refine ⟨hw,fun hq hk=>?_⟩
 have hq':min ((z.length:Int) - 1+dJ z) 61<=60:=hq
 obtain ⟨a1,a2⟩:=h.2 (by omega) (by omega)
 have hz:=pJ h.1.1
 refine ⟨hf (fun p hp=>?_) (hw.nz hk hq) (by rw [List.length_map];omega),?_⟩
 ·obtain ⟨q,hq,rfl⟩:=List.mem_map.1 hp
  exact a1 q hq
 ·show ((zC P:Nat):Int)<=min ((z.length:Int) - 1+dJ z) 61+((k+1:Nat):Int)
  rw [hn]
  omega
theorem Ww {k:Nat} {z:List Pn} (hz:∀ p∈z,uN p) (h:Xq k z) (hne:z≠[]):SX (if z.length=1 then k else k+1) (fM z):=by
 have hw:=JO hz h.1 hne
 match z,hz,h,hne,hw with
 | [],_,_,hne,_=>exact absurd rfl hne
 | [p],hz,h,_,hw=>
  refine ⟨hw,fun hq hk=>?_⟩
  have hk':k<=60:=hk
  have hq':p.2<=60:=hq
  obtain ⟨a1,a2⟩:=h.2 (by simpa [dJ] using hq') hk'
  refine ⟨a1 p (List.mem_cons_self ..),?_⟩
  show (zC p.1:Int)<=p.2+k
  simpa [qx,dJ] using a2
 | p::p'::r,hz,h,_,hw=>
  have e:fM (p::p'::r)=(.row ((p::p'::r).map Prod.fst),min (((p::p'::r).length:Int) - 1+dJ (p::p'::r)) 61):=by simp [fM]
  rw [if_neg (by simp)] at hw ⊢
  rw [e] at hw ⊢
  exact P7 h (by simp) hw (by rw [zC]) fun q1 q2 q3=>.row q1 q2 q3
theorem Wx {b:Bool} {k:Nat} {z:List Pn} (hz:∀ p∈z,uN p) (h:Xq k z) (hne:z≠[]):SX (if z.length=1 then k else k+1) (jk b z):=by
 have hw:=JQ (b:=b) hz h.1 hne
 match z,hz,h,hne,hw with
 | [],_,_,hne,_=>exact absurd rfl hne
 | [p],hz,h,_,hw=>
  refine ⟨hw,fun hq hk=>?_⟩
  have hk':k<=60:=hk
  have hq':p.2<=60:=hq
  obtain ⟨a1,a2⟩:=h.2 (by simpa [dJ] using hq') hk'
  refine ⟨a1 p (List.mem_cons_self ..),?_⟩
  show (zC p.1:Int)<=p.2+k
  simpa [qx,dJ] using a2
 | p::p'::r,hz,h,_,hw=>
  have e:jk b (p::p'::r)=(.bf b ((p::p'::r).map Prod.fst),min (((p::p'::r).length:Int) - 1+dJ (p::p'::r)) 61):=rfl
  rw [if_neg (by simp)] at hw ⊢
  rw [e] at hw ⊢
  exact P7 h (by simp) hw (by rw [zC]) fun q1 q2 q3=>.bf q1 q2 (by simp) q3
theorem Zr:Hy 0 (fM []):=by
 refine ⟨by decide,fun _=>zU (by decide) ?_ ?_⟩<;>simp [fM,dE,vS,kF,bF,hF]
theorem C9 {n:Nat} {a:List Sy->bu Pn} (ha:fe a) (hw:FA 1 a):∀ (f:Nat) {z:List Pn} {l:List Sy} {k:Nat},bq l->Xq k z->∀ v l',bM n a f z l=.ok (v,l')->∃ k',l'.length+k'+v.length<=l.length+k+z.length/\Xq k' v/\z.length<=v.length
 | 0,_,_,_,_,_,_,_,h=>by simp only [bM,bad] at h;cases h
 | f+1,z,l,k,hl,hz,v,l',h=>by
  rw [bM] at h
  split at h
  ·cases h;exact ⟨k,Nat.le_refl _,hz,Nat.le_refl _⟩
  ·split at h
   ·cases h
   ·rename_i y l1 e
    obtain ⟨k1,h1,h2⟩:=Ha (n:=n) ha hw _ l hl _ _ e
    have hl1:=(jd (n:=n) ha (l.length+1) hl _ _ e).2
    obtain ⟨k',h3,h4,h5⟩:=C9 ha hw f hl1 (La hz h2) v l' h
    rw [List.length_append] at h3 h5
    simp only [List.length_cons,List.length_nil] at h3 h5
    exact ⟨k',by omega,h4,by omega⟩
theorem abO {n:Nat} {a:List Sy->bu Pn} (ha:fe a) (hw:FA 1 a):FA 0 (rowP n a):=by
 intro l hl v l' h
 unfold rowP at h
 split at h
 ·cases h
  exact ⟨0,Nat.le_refl _,Zr,fun _ _=>⟨.row (by simp) (by simp [dE,vS,kF,bF]) (by simp),by simp [fM,zC,qx]⟩⟩
 ·split at h
  ·cases h
  ·rename_i y l1 e
   obtain ⟨k1,h1,h2⟩:=Ha (n:=n) ha hw _ l hl _ _ e
   obtain ⟨hy,hl1⟩:=jd (n:=n) ha (l.length+1) hl _ _ e
   have g:=mJ (n:=n) ha (l1.length+1) (xN hy) hl1
   cases e2:bM n a (l1.length+1) [y] l1 with
   | error x=>rw [e2] at h;cases h
   | ok r=>
    obtain ⟨v2,l2⟩:=r
    rw [e2] at h
    cases h
    obtain ⟨k',h3,h4,h5⟩:=C9 ha hw _ hl1 (P6 h2) _ _ e2
    simp only [List.length_cons,List.length_nil] at h3 h5
    have hm:=Ww (g _ _ e2).1 h4 (by rintro rfl;simp at h5)
    refine ⟨_,?_,hm⟩
    split<;>omega
theorem C_ {n:Nat} {a:List Sy->bu Pn} (ha:fe a) (hw:FA 0 a) (sg:Int) (hsg:0<=sg):∀ (f:Nat) {z:List Pn} {l:List Sy} {k:Nat},bq l->Xq k z->∀ v l',bO n a sg f z l=.ok (v,l')->∃ k',l'.length+k'+v.length<=l.length+k+z.length/\Xq k' v/\z.length<=v.length
 | 0,_,_,_,_,_,_,_,h=>by simp only [bO,bad] at h;cases h
 | f+1,z,l,k,hl,hz,v,l',h=>by
  rw [bO] at h
  split at h
  ·rename_i q
   have h0:=eF (l:=l) (by omega)
   split at h
   ·cases h
   ·rename_i y l1 e
    obtain ⟨k1,h1,h2⟩:=hw l.tail hl.tail _ _ e
    have hl1:=(ha l.tail hl.tail _ _ e).2
    obtain ⟨k',h3,h4,h5⟩:=C_ ha hw sg hsg f hl1 (La hz h2) v l' h
    rw [List.length_append] at h3 h5
    simp only [List.length_cons,List.length_nil] at h3 h5
    exact ⟨k',by omega,h4,by omega⟩
  ·cases h;exact ⟨k,Nat.le_refl _,hz,Nat.le_refl _⟩
theorem Wy {n:Nat} {a:List Sy->bu Pn} (ha:fe a) (hw:FA 0 a) (sg:Int) (hsg:0<=sg) (b:Bool):FA 0 (qI n a sg (jk b)):=by
 intro l hl v l' h
 unfold qI at h
 split at h
 ·cases h
 ·rename_i y l1 e
  obtain ⟨k1,h1,h2⟩:=hw l hl _ _ e
  obtain ⟨hy,hl1⟩:=ha l hl _ _ e
  have g:=mK (n:=n) ha sg (l1.length+1) (xN hy) hl1
  cases e2:bO n a sg (l1.length+1) [y] l1 with
  | error x=>rw [e2] at h;cases h
  | ok r=>
   obtain ⟨v2,l2⟩:=r
   rw [e2] at h
   cases h
   obtain ⟨k',h3,h4,h5⟩:=C_ ha hw sg hsg _ hl1 (P6 h2) _ _ e2
   simp only [List.length_cons,List.length_nil] at h3 h5
   have hm:=Wx (b:=b) (g _ _ e2).1 h4 (by rintro rfl;simp at h5)
   refine ⟨_,?_,hm⟩
   split<;>omega
theorem FB {n:Nat} {a:List Sy->bu Pn} (ha:fe a) (hw:FA 1 a):FA 0 (fO n a):=
 Wy (sP ha) (Wy (good_row ha) (abO ha hw) 38 (by decide) true) 124 (by decide) false
theorem P8 {n:Nat}:∀ k:Nat,FA 1 (eD n k)
 | 0=>by
  intro l hl v l' h
  rw [eD] at h
  split at h
  ·simp only [bad] at h;cases h
  ·exact PZ v l' h
 | k+1=>by
  intro l hl v l' h
  rw [eD] at h
  split at h
  ·rename_i q
   have h0:=eF (l:=l) (by omega)
   unfold I6 at h
   split at h
   ·cases h
   ·rename_i z l1 e
    obtain ⟨k1,h1,h2⟩:=FB (n:=n) (jZ k) (P8 k) l.tail hl.tail _ _ e
    split at h
    ·rename_i q2
     have h3:=eF (l:=l1) (by omega)
     cases h
     exact ⟨k1,by omega,h2⟩
    ·simp only [bad] at h;cases h
  ·exact PZ v l' h
theorem Si {s:ByteArray} {q:Pt} (h:bP s=.ok q):u_ q/\zC q<=120:=by
 unfold bP at h
 split at h
 ·cases h
 ·rename_i hs
  unfold pq at h
  split at h
  ·cases h
  ·rename_i z l e
   obtain ⟨k,h1,h2⟩:=FB (n:=s.size) (jZ 8) (P8 8) _ (kJ s 0) _ _ e
   split at h
   ·split at h
    ·cases h
    ·rename_i hz
     cases h
     have hlen:(ah s 0).length<=s.size - 0:=uq s _ _
     obtain ⟨a1,a2⟩:=h2.2 (by omega) (by omega)
     exact ⟨a1,by omega⟩
   ·cases h
end Go.Proofs.YtfolanohokflkaaGreatDoor
namespace Go.Proofs.YtfolanohokflkaaGreatDoor
open Tm (eps)
inductive SP (B:List Int):Pt->Prop where
 | set {l:af}:bY B l->SP B (.set l)
 | row {l:List Pt}:(∀ p∈l,SP B p)->SP B (.row l)
 | bf {k:Bool} {l:List Pt}:(∀ p∈l,SP B p)->SP B (.bf k l)
 | not {a:Pt}:SP B a->SP B (.not a)
 | rep {a:Pt} {n:Nat} {m:Option Nat}:SP B a->SP B (.rep a n m)
theorem SP.mono {B B':List Int} {p:Pt} (h:SP B p) (hb:∀ b∈B,b∈B'):SP B' p:=by
 induction h with
 | set h=>exact .set (h.mono hb)
 | row _ ih=>exact .row ih
 | bf _ ih=>exact .bf ih
 | not _ ih=>exact .not ih
 | rep _ ih=>exact .rep ih
def QN (k:Nat) (p:Pn):Prop:=∃ B:List Int,B.length<=8*k/\SP B p.1
abbrev abP (l:List Sy) (r:bu Pn):Prop:=∀ v l',r=.ok (v,l')->∃ k,l'.length+k<=l.length/\QN k v
abbrev QA (a:List Sy->bu Pn):Prop:=∀ l,bq l->abP l (a l)
theorem P9 {n:Nat} {l:List Sy} (ha:bq l):abP l (og (gp n l)):=by
 intro v l' h
 unfold og at h
 split at h
 ·cases h
 ·rename_i s l1 e
  obtain ⟨k,h1,B,b1,b2⟩:=Yw ha e
  cases h
  exact ⟨k,h1,B,b1,SP.set b2⟩
theorem P_ {n:Nat}:∀ (f:Nat) {z:Pn} {l:List Sy} {k:Nat},uN z->bq l->QN k z->∀ v l',kI n f z l=.ok (v,l')->∃ k',l'.length+k'<=l.length+k/\QN k' v
 | 0,_,_,_,_,_,_,_,_,h=>by simp only [kI,bad] at h;cases h
 | f+1,z,l,k,hz,ha,hw,v,l',h=>by
  rw [kI] at h
  split at h
  ·rename_i hr
   split at h
   ·cases h
   ·rename_i m l1 e
    obtain ⟨d,ho,hd,_⟩:=xY hr e
    have ha1:=(oh (n:=n) ha _ _ e).2
    obtain ⟨B,b1,b2⟩:=hw
    obtain ⟨k',h1,h2⟩:=P_ f (z:=I4 z m) (by show sO (.rep z.1 m.1 m.2.1);rw [sO];exact hz) ha1 (k:=k) ⟨B,b1,SP.rep b2⟩ v l' h
    exact ⟨k',by omega,h2⟩
  ·cases h;exact ⟨k,Nat.le_refl _,hw⟩
theorem Hd {n:Nat} {a:List Sy->bu Pn} (ha:fe a) (hw:QA a):∀ (f:Nat) (l:List Sy),bq l->abP l (dZ n a f l)
 | 0,_,_=>by intro v l' h;simp only [dZ,bad] at h;cases h
 | f+1,l,hl=>by
  intro v l' h
  rw [dZ] at h
  split at h
  ·split at h
   ·cases h
   ·rename_i z l1 e
    obtain ⟨k,h1,B,b1,b2⟩:=Hd ha hw f l.tail hl.tail _ _ e
    cases h
    exact ⟨k,by have:=cZ l;omega,B,b1,SP.not b2⟩
  ·split at h
   ·cases h
   ·rename_i z l1 e
    obtain ⟨k,h1,h2⟩:=hw l hl _ _ e
    obtain ⟨hz,hl1⟩:=ha l hl _ _ e
    obtain ⟨k',h3,h4⟩:=P_ _ hz hl1 h2 v l' h
    exact ⟨k',by omega,h4⟩
def QL (k:Nat) (z:List Pn):Prop:=∃ B:List Int,B.length<=8*k/\∀ p∈z,SP B p.1
theorem Qa {k:Nat} {y:Pn} (h:QN k y):QL k [y]:=by
 obtain ⟨B,b1,b2⟩:=h
 exact ⟨B,b1,by simpa using b2⟩
theorem Lb {k k':Nat} {z:List Pn} {y:Pn} (h:QL k z) (h':QN k' y):QL (k+k') (z++[y]):=by
 obtain ⟨B,b1,b2⟩:=h
 obtain ⟨B',c1,c2⟩:=h'
 refine ⟨B++B',by rw [List.length_append];omega,fun t ht=>?_⟩
 rcases List.mem_append.1 ht with ht | ht
 ·exact (b2 t ht).mono fun b hb=>List.mem_append_left _ hb
 ·rw [List.mem_singleton.1 ht]
  exact c2.mono fun b hb=>List.mem_append_right _ hb
theorem Lc {k:Nat} {z:List Pn} (h:QL k z):QN k (fM z):=by
 obtain ⟨B,b1,b2⟩:=h
 refine ⟨B,b1,?_⟩
 unfold fM
 split
 ·exact b2 _ (by simp)
 ·exact .row fun p hp=>by
   obtain ⟨q,hq,rfl⟩:=List.mem_map.1 hp
   exact b2 q hq
theorem Wz {b:Bool} {k:Nat} {z:List Pn} (h:QL k z):QN k (jk b z):=by
 obtain ⟨B,b1,b2⟩:=h
 refine ⟨B,b1,?_⟩
 unfold jk
 split
 ·exact b2 _ (by simp)
 ·exact .bf fun p hp=>by
   obtain ⟨q,hq,rfl⟩:=List.mem_map.1 hp
   exact b2 q hq
theorem Da {n:Nat} {a:List Sy->bu Pn} (ha:fe a) (hw:QA a):∀ (f:Nat) {z:List Pn} {l:List Sy} {k:Nat},bq l->QL k z->∀ v l',bM n a f z l=.ok (v,l')->∃ k',l'.length+k'<=l.length+k/\QL k' v
 | 0,_,_,_,_,_,_,_,h=>by simp only [bM,bad] at h;cases h
 | f+1,z,l,k,hl,hz,v,l',h=>by
  rw [bM] at h
  split at h
  ·cases h;exact ⟨k,Nat.le_refl _,hz⟩
  ·split at h
   ·cases h
   ·rename_i y l1 e
    obtain ⟨k1,h1,h2⟩:=Hd (n:=n) ha hw _ l hl _ _ e
    have hl1:=(jd (n:=n) ha (l.length+1) hl _ _ e).2
    obtain ⟨k',h3,h4⟩:=Da ha hw f hl1 (Lb hz h2) v l' h
    exact ⟨k',by omega,h4⟩
theorem abQ {n:Nat} {a:List Sy->bu Pn} (ha:fe a) (hw:QA a):QA (rowP n a):=by
 intro l hl v l' h
 unfold rowP at h
 split at h
 ·cases h
  exact ⟨0,Nat.le_refl _,Lc ⟨[],by simp,by simp⟩⟩
 ·split at h
  ·cases h
  ·rename_i y l1 e
   obtain ⟨k1,h1,h2⟩:=Hd (n:=n) ha hw _ l hl _ _ e
   obtain ⟨-,hl1⟩:=jd (n:=n) ha (l.length+1) hl _ _ e
   cases e2:bM n a (l1.length+1) [y] l1 with
   | error x=>rw [e2] at h;cases h
   | ok r=>
    obtain ⟨v2,l2⟩:=r
    rw [e2] at h
    cases h
    obtain ⟨k',h3,h4⟩:=Da ha hw _ hl1 (Qa h2) _ _ e2
    exact ⟨k',by omega,Lc h4⟩
theorem Db {n:Nat} {a:List Sy->bu Pn} (ha:fe a) (hw:QA a) (sg:Int):∀ (f:Nat) {z:List Pn} {l:List Sy} {k:Nat},bq l->QL k z->∀ v l',bO n a sg f z l=.ok (v,l')->∃ k',l'.length+k'<=l.length+k/\QL k' v
 | 0,_,_,_,_,_,_,_,h=>by simp only [bO,bad] at h;cases h
 | f+1,z,l,k,hl,hz,v,l',h=>by
  rw [bO] at h
  split at h
  ·split at h
   ·cases h
   ·rename_i y l1 e
    have ht:=cZ l
    obtain ⟨k1,h1,h2⟩:=hw l.tail hl.tail _ _ e
    have hl1:=(ha l.tail hl.tail _ _ e).2
    obtain ⟨k',h3,h4⟩:=Db ha hw sg f hl1 (Lb hz h2) v l' h
    exact ⟨k',by omega,h4⟩
  ·cases h;exact ⟨k,Nat.le_refl _,hz⟩
theorem WB {n:Nat} {a:List Sy->bu Pn} (ha:fe a) (hw:QA a) (sg:Int) (b:Bool):QA (qI n a sg (jk b)):=by
 intro l hl v l' h
 unfold qI at h
 split at h
 ·cases h
 ·rename_i y l1 e
  obtain ⟨k1,h1,h2⟩:=hw l hl _ _ e
  obtain ⟨-,hl1⟩:=ha l hl _ _ e
  cases e2:bO n a sg (l1.length+1) [y] l1 with
  | error x=>rw [e2] at h;cases h
  | ok r=>
   obtain ⟨v2,l2⟩:=r
   rw [e2] at h
   cases h
   obtain ⟨k',h3,h4⟩:=Db ha hw sg _ hl1 (Qa h2) _ _ e2
   exact ⟨k',by omega,Wz h4⟩
theorem FC {n:Nat} {a:List Sy->bu Pn} (ha:fe a) (hw:QA a):QA (fO n a):=
 WB (sP ha) (WB (good_row ha) (abQ ha hw) 38 true) 124 false
theorem Qb {n:Nat}:∀ k:Nat,QA (eD n k)
 | 0=>by
  intro l hl v l' h
  rw [eD] at h
  split at h
  ·simp only [bad] at h;cases h
  ·exact P9 hl v l' h
 | k+1=>by
  intro l hl v l' h
  rw [eD] at h
  split at h
  ·unfold I6 at h
   split at h
   ·cases h
   ·rename_i z l1 e
    obtain ⟨k1,h1,h2⟩:=FC (n:=n) (jZ k) (Qb k) l.tail hl.tail _ _ e
    split at h
    ·cases h
     exact ⟨k1,by have:=cZ l;have:=cZ l1;omega,h2⟩
    ·simp only [bad] at h;cases h
  ·exact P9 hl v l' h
theorem y8 {s:ByteArray} {q:Pt} (h:bP s=.ok q):∃ B:List Int,B.length<=480/\SP B q:=by
 unfold bP at h
 split at h
 ·cases h
 ·rename_i hs
  unfold pq at h
  split at h
  ·cases h
  ·rename_i z l e
   obtain ⟨k,h1,B,b1,b2⟩:=FC (n:=s.size) (jZ 8) (Qb 8) _ (kJ s 0) _ _ e
   split at h
   ·split at h
    ·cases h
    ·cases h
     have hlen:=pX s 0
     exact ⟨B,by omega,b2⟩
   ·cases h
end Go.Proofs.YtfolanohokflkaaGreatDoor
