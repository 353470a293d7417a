import Derived.Test.YtfolanohokflkaaGreatDoorLnO
namespace Go.Proofs.YtfolanohokflkaaGreatDoor
open Tm (eps)
inductive vB:Pt->Prop where
 | set {l:af}:vB (.set l)
 | row {l:List Pt}:(∀ p∈l,vB p)->bE (cZ (.row l))<=10000->l.length<=1000->vB (.row l)
 | aZ {k:Bool} {l:List Pt}:(∀ p∈l,vB p)->bE (cZ (.aZ k l))<=10000->l≠[]->l.length<=1000->vB (.aZ k l)
 | not {a:Pt}:vB a->bE (cZ (.not a))<=10000->vB (.not a)
 | rep {a:Pt} {n:Nat} {m:Option Nat}:vB a->bE (cZ (.rep a n m))<=10000->n<=1000->(∀ m',m=some m'->n<=m'/\m'<=1000)->vB (.rep a n m)
mutual
def zL:Pt->Nat
 | .set _=>1
 | .row l=>qF l+1
 | .aZ _ l=>qF l+1
 | .not a=>zL a+1
 | .rep a _ _=>zL a+1
def qF:List Pt->Nat
 | []=>0
 | p::r=>zL p+qF r
end
theorem xA:∀ l:List Pt,qF l=bu (l.map zL)
 | []=>rfl
 | p::r=>by rw [qF,xA r];rfl
def Tz (k:Nat) (p:Pn):Prop:=Hu k p/\(p.2<=60->k<=60->vB p.1/\(zL p.1:Int)<=p.2+k)
abbrev acn (d:Nat) (l:List Sy) (r:bn Pn):Prop:=∀ v l',r=.ok (v,l')->∃ k,l'.length+k+d<=l.length/\Tz k v
abbrev FA (d:Nat) (a:List Sy->bn Pn):Prop:=∀ l,bg l->acn d l (a l)
theorem adY {k s:Nat} {t:Tm} (h:O7 k s t) (hk:k<=60) (hs:s<=60):bE t<=10000:=by
 obtain ⟨u,L,q,h1,_,_,h4⟩:=h
 have h5:s*(3+u)<=60*(3+u):=Nat.mul_le_mul_right _ hs
 omega
theorem Hu.nz {k:Nat} {p:Pn} (h:Hu k p) (hk:k<=60) (hp:p.2<=60):bE (cZ p.1)<=10000:=adY (h.2 hp) hk (by have:=h.1;omega)
theorem Qm {n:Nat} {l:List Sy}:acn 1 l (oo (fZ n l)):=by
 intro v l' h
 obtain ⟨k,h1,h2⟩:=Gy v l' h
 refine ⟨k,h1,h2,fun _ _=>?_⟩
 unfold oo at h
 split at h
 ·cases h
 ·cases h
  refine ⟨.set,?_⟩
  have:=h2.1
  rw [zL]
  show (1:Int)<=1+k
  omega
theorem ZX {k:Nat} {p:Pn} (h:Tz k p):Tz (k+1) (I4 p):=by
 have hw:=Pe h.1
 refine ⟨hw,fun hq hk=>?_⟩
 have hq':dA (p.2+1)<=60:=hq
 have e:=Ae hq'
 obtain ⟨h1,h2⟩:=h.2 (by omega) (by omega)
 refine ⟨.not h1 (hw.nz hk hq),?_⟩
 show ((zL (.not p.1):Nat):Int)<=dA (p.2+1)+((k+1:Nat):Int)
 rw [zL,e]
 omega
theorem ZY {d f:Nat} {o:jX} (hf:o.2.2=(f:Int)) (ho:wV d o) (h:f<=60):1<=d/\o.1<=1000/\∀ m',o.2.1=some m'->o.1<=m'/\m'<=1000:=by
 obtain ⟨a,b,c⟩:=o
 cases b with
 | none=>
  simp only [wV] at ho
  refine ⟨by omega,?_,fun _ e=>by cases e⟩
  dsimp only at hf ⊢
  omega
 | some m=>
  simp only [wV] at ho
  dsimp only at hf ⊢
  refine ⟨by omega,by omega,fun m' e=>?_⟩
  cases e
  omega
theorem ZZ {k d f:Nat} {p:Pn} {o:jX} (hc:uV p) (h:Tz k p) (hf:o.2.2=(f:Int)) (hf1:1<=f) (ho:wV d o):Tz (k+d) (I1 p o):=by
 have hw:=Pf hc h.1 hf hf1 ho
 refine ⟨hw,fun hq hk=>?_⟩
 have hp:=h.1.1
 have hq':dA (p.2*o.2.2)<=60:=hq
 have e:=Ae hq'
 have e0:p.2*o.2.2=((p.2.toNat*f:Nat):Int):=by rw [hf,Int.natCast_mul,Int.toNat_of_nonneg (by omega)]
 have h2:p.2.toNat<=p.2.toNat*f:=Nat.le_mul_of_pos_right _ hf1
 have h3:f<=p.2.toNat*f:=Nat.le_mul_of_pos_left _ (by omega)
 rw [e,e0] at hq'
 obtain ⟨h4,h5⟩:=h.2 (by omega) (by omega)
 obtain ⟨r1,r2,r3⟩:=ZY hf ho (by omega)
 refine ⟨.rep h4 (hw.nz hk hq) r2 r3,?_⟩
 show ((zL (.rep p.1 o.1 o.2.1):Nat):Int)<=dA (p.2*o.2.2)+((k+d:Nat):Int)
 rw [zL,e,e0]
 omega
theorem Qn {n:Nat}:∀ (f:Nat) {z:Pn} {l:List Sy} {k:Nat},uV z->bg l->Tz k z->∀ v l',kK n f z l=.ok (v,l')->∃ k',l'.length+k'<=l.length+k/\Tz k' v
 | 0,_,_,_,_,_,_,_,_,h=>by simp only [kK,bad] at h;cases h
 | f+1,z,l,k,hz,ha,hw,v,l',h=>by
  rw [kK] at h
  split at h
  ·rename_i hr
   split at h
   ·cases h
   ·rename_i m l1 e
    obtain ⟨d,ho,hd,fa,hf1,hf⟩:=yh hr e
    have ha1:=(oq (n:=n) ha _ _ e).2
    obtain ⟨k',h1,h2⟩:=Qn f (z:=I1 z m) (by show tC (.rep z.1 m.1 m.2.1);rw [tC];exact hz) ha1 (ZZ hz hw hf hf1 ho) v l' h
    exact ⟨k',by omega,h2⟩
  ·cases h;exact ⟨k,Nat.le_refl _,hw⟩
theorem G9 {n:Nat} {a:List Sy->bn Pn} (ha:eU a) (hw:FA 1 a):∀ (f:Nat) (l:List Sy),bg l->acn 1 l (dW n a f l)
 | 0,_,_=>by intro v l' h;simp only [dW,bad] at h;cases h
 | f+1,l,hl=>by
  intro v l' h
  rw [dW] at h
  split at h
  ·rename_i q
   have h0:=eu (l:=l) (by omega)
   split at h
   ·cases h
   ·rename_i z l1 e
    obtain ⟨k,h1,h2⟩:=G9 ha hw f l.tail hl.tail _ _ e
    cases h
    exact ⟨k+1,by omega,ZX h2⟩
  ·split at h
   ·cases h
   ·rename_i z l1 e
    obtain ⟨k,h1,h2⟩:=hw l hl _ _ e
    obtain ⟨hz,hl1⟩:=ha l hl _ _ e
    obtain ⟨k',h3,h4⟩:=Qn _ hz hl1 h2 v l' h
    exact ⟨k',by omega,h4⟩
def X0 (k:Nat) (z:List Pn):Prop:=XT k z/\(dH z<=60->k<=60->(∀ p∈z,vB p.1)/\(qF (z.map Prod.fst):Int)<=dH z+k)
theorem Qo {k:Nat} {y:Pn} (h:Tz k y):X0 k [y]:=by
 refine ⟨GA h.1,fun hq hk=>?_⟩
 simp only [dH,Int.add_zero] at hq ⊢
 obtain ⟨h1,h2⟩:=h.2 hq hk
 exact ⟨by simpa using h1,by simpa [qF] using h2⟩
theorem WV (a b:List Pt):qF (a++b)=qF a+qF b:=by rw [xA,xA,xA,List.map_append,kS]
theorem Ld {k k':Nat} {z:List Pn} {y:Pn} (h:X0 k z) (h':Tz k' y):X0 (k+k') (z++[y]):=by
 refine ⟨Ce h.1 h'.1,fun hq hk=>?_⟩
 have h0:=pQ h.1.1
 have h1:=h'.1.1
 rw [Vl] at hq ⊢
 obtain ⟨a1,a2⟩:=h.2 (by omega) (by omega)
 obtain ⟨b1,b2⟩:=h'.2 (by omega) (by omega)
 refine ⟨fun p hp=>?_,?_⟩
 ·rcases List.mem_append.1 hp with hp | hp
  ·exact a1 p hp
  ·rw [List.mem_singleton.1 hp];exact b1
 ·rw [List.map_append,WV]
  have:qF ([y].map Prod.fst)=zL y.1:=by simp [qF]
  rw [this]
  omega
theorem Qp {k:Nat} {z:List Pn} {P:Pt} (h:X0 k z) (h2:2<=z.length) (hw:Hu (k+1) (P,min ((z.length:Int) - 1+dH z) 61)) (hn:zL P=qF (z.map Prod.fst)+1) (hf:(∀ p∈z.map Prod.fst,vB p)->bE (cZ P)<=10000->(z.map Prod.fst).length<=1000->vB P):Tz (k+1) (P,min ((z.length:Int) - 1+dH z) 61):=by
 refine ⟨hw,fun hq hk=>?_⟩
 have hq':min ((z.length:Int) - 1+dH z) 61<=60:=hq
 obtain ⟨a1,a2⟩:=h.2 (by omega) (by omega)
 have hz:=pQ h.1.1
 refine ⟨hf (fun p hp=>?_) (hw.nz hk hq) (by rw [List.length_map];omega),?_⟩
 ·obtain ⟨q,hq,rfl⟩:=List.mem_map.1 hp
  exact a1 q hq
 ·show ((zL P:Nat):Int)<=min ((z.length:Int) - 1+dH z) 61+((k+1:Nat):Int)
  rw [hn]
  omega
theorem WW {k:Nat} {z:List Pn} (hz:∀ p∈z,uV p) (h:X0 k z) (hne:z≠[]):Tz (if z.length=1 then k else k+1) (fI z):=by
 have hw:=JO hz h.1 hne
 match z,hz,h,hne,hw with
 | [],_,_,hne,_=>exact absurd rfl hne
 | [p],hz,h,_,hw=>
  refine ⟨hw,fun hq hk=>?_⟩
  have hk':k<=60:=hk
  have hq':p.2<=60:=hq
  obtain ⟨a1,a2⟩:=h.2 (by simpa [dH] using hq') hk'
  refine ⟨a1 p (List.mem_cons_self ..),?_⟩
  show (zL p.1:Int)<=p.2+k
  simpa [qF,dH] using a2
 | p::p'::r,hz,h,_,hw=>
  have e:fI (p::p'::r)=(.row ((p::p'::r).map Prod.fst),min (((p::p'::r).length:Int) - 1+dH (p::p'::r)) 61):=by simp [fI]
  rw [if_neg (by simp)] at hw ⊢
  rw [e] at hw ⊢
  exact Qp h (by simp) hw (by rw [zL]) fun q1 q2 q3=>.row q1 q2 q3
theorem WX {b:Bool} {k:Nat} {z:List Pn} (hz:∀ p∈z,uV p) (h:X0 k z) (hne:z≠[]):Tz (if z.length=1 then k else k+1) (jg b z):=by
 have hw:=JQ (b:=b) hz h.1 hne
 match z,hz,h,hne,hw with
 | [],_,_,hne,_=>exact absurd rfl hne
 | [p],hz,h,_,hw=>
  refine ⟨hw,fun hq hk=>?_⟩
  have hk':k<=60:=hk
  have hq':p.2<=60:=hq
  obtain ⟨a1,a2⟩:=h.2 (by simpa [dH] using hq') hk'
  refine ⟨a1 p (List.mem_cons_self ..),?_⟩
  show (zL p.1:Int)<=p.2+k
  simpa [qF,dH] using a2
 | p::p'::r,hz,h,_,hw=>
  have e:jg b (p::p'::r)=(.aZ b ((p::p'::r).map Prod.fst),min (((p::p'::r).length:Int) - 1+dH (p::p'::r)) 61):=rfl
  rw [if_neg (by simp)] at hw ⊢
  rw [e] at hw ⊢
  exact Qp h (by simp) hw (by rw [zL]) fun q1 q2 q3=>.aZ q1 q2 (by simp) q3
theorem Z0:Hu 0 (fI []):=by
 refine ⟨by decide,fun _=>Ad (by decide) ?_ ?_⟩<;>simp [fI,cZ,wo,kI,bE,hF]
theorem Di {n:Nat} {a:List Sy->bn Pn} (ha:eU a) (hw:FA 1 a):∀ (f:Nat) {z:List Pn} {l:List Sy} {k:Nat},bg l->X0 k z->∀ v l',bL n a f z l=.ok (v,l')->∃ k',l'.length+k'+v.length<=l.length+k+z.length/\X0 k' v/\z.length<=v.length
 | 0,_,_,_,_,_,_,_,h=>by simp only [bL,bad] at h;cases h
 | f+1,z,l,k,hl,hz,v,l',h=>by
  rw [bL] at h
  split at h
  ·cases h;exact ⟨k,Nat.le_refl _,hz,Nat.le_refl _⟩
  ·split at h
   ·cases h
   ·rename_i y l1 e
    obtain ⟨k1,h1,h2⟩:=G9 (n:=n) ha hw _ l hl _ _ e
    have hl1:=(jb (n:=n) ha (l.length+1) hl _ _ e).2
    obtain ⟨k',h3,h4,h5⟩:=Di ha hw f hl1 (Ld hz h2) v l' h
    rw [List.length_append] at h3 h5
    simp only [List.length_cons,List.length_nil] at h3 h5
    exact ⟨k',by omega,h4,by omega⟩
theorem aco {n:Nat} {a:List Sy->bn Pn} (ha:eU a) (hw:FA 1 a):FA 0 (rowP n a):=by
 intro l hl v l' h
 unfold rowP at h
 split at h
 ·cases h
  exact ⟨0,Nat.le_refl _,Z0,fun _ _=>⟨.row (by simp) (by simp [cZ,wo,kI,bE]) (by simp),by simp [fI,zL,qF]⟩⟩
 ·split at h
  ·cases h
  ·rename_i y l1 e
   obtain ⟨k1,h1,h2⟩:=G9 (n:=n) ha hw _ l hl _ _ e
   obtain ⟨hy,hl1⟩:=jb (n:=n) ha (l.length+1) hl _ _ e
   have g:=mJ (n:=n) ha (l1.length+1) (xX hy) hl1
   cases e2:bL n a (l1.length+1) [y] l1 with
   | error x=>rw [e2] at h;cases h
   | ok r=>
    obtain ⟨v2,l2⟩:=r
    rw [e2] at h
    cases h
    obtain ⟨k',h3,h4,h5⟩:=Di ha hw _ hl1 (Qo h2) _ _ e2
    simp only [List.length_cons,List.length_nil] at h3 h5
    have hm:=WW (g _ _ e2).1 h4 (by rintro rfl;simp at h5)
    refine ⟨_,?_,hm⟩
    split<;>omega
theorem Dj {n:Nat} {a:List Sy->bn Pn} (ha:eU a) (hw:FA 0 a) (sg:Int) (hsg:0<=sg):∀ (f:Nat) {z:List Pn} {l:List Sy} {k:Nat},bg l->X0 k z->∀ v l',bM n a sg f z l=.ok (v,l')->∃ k',l'.length+k'+v.length<=l.length+k+z.length/\X0 k' v/\z.length<=v.length
 | 0,_,_,_,_,_,_,_,h=>by simp only [bM,bad] at h;cases h
 | f+1,z,l,k,hl,hz,v,l',h=>by
  rw [bM] at h
  split at h
  ·rename_i q
   have h0:=eu (l:=l) (by omega)
   split at h
   ·cases h
   ·rename_i y l1 e
    obtain ⟨k1,h1,h2⟩:=hw l.tail hl.tail _ _ e
    have hl1:=(ha l.tail hl.tail _ _ e).2
    obtain ⟨k',h3,h4,h5⟩:=Dj ha hw sg hsg f hl1 (Ld hz h2) v l' h
    rw [List.length_append] at h3 h5
    simp only [List.length_cons,List.length_nil] at h3 h5
    exact ⟨k',by omega,h4,by omega⟩
  ·cases h;exact ⟨k,Nat.le_refl _,hz,Nat.le_refl _⟩
theorem WY {n:Nat} {a:List Sy->bn Pn} (ha:eU a) (hw:FA 0 a) (sg:Int) (hsg:0<=sg) (b:Bool):FA 0 (qU n a sg (jg b)):=by
 intro l hl v l' h
 unfold qU at h
 split at h
 ·cases h
 ·rename_i y l1 e
  obtain ⟨k1,h1,h2⟩:=hw l hl _ _ e
  obtain ⟨hy,hl1⟩:=ha l hl _ _ e
  have g:=mK (n:=n) ha sg (l1.length+1) (xX hy) hl1
  cases e2:bM n a sg (l1.length+1) [y] l1 with
  | error x=>rw [e2] at h;cases h
  | ok r=>
   obtain ⟨v2,l2⟩:=r
   rw [e2] at h
   cases h
   obtain ⟨k',h3,h4,h5⟩:=Dj ha hw sg hsg _ hl1 (Qo h2) _ _ e2
   simp only [List.length_cons,List.length_nil] at h3 h5
   have hm:=WX (b:=b) (g _ _ e2).1 h4 (by rintro rfl;simp at h5)
   refine ⟨_,?_,hm⟩
   split<;>omega
theorem Fv {n:Nat} {a:List Sy->bn Pn} (ha:eU a) (hw:FA 1 a):FA 0 (fJ n a):=
 WY (tF ha) (WY (good_row ha) (aco ha hw) 38 (by decide) true) 124 (by decide) false
theorem Qq {n:Nat}:∀ k:Nat,FA 1 (ek n k)
 | 0=>by
  intro l hl v l' h
  rw [ek] at h
  split at h
  ·simp only [bad] at h;cases h
  ·exact Qm v l' h
 | k+1=>by
  intro l hl v l' h
  rw [ek] at h
  split at h
  ·rename_i q
   have h0:=eu (l:=l) (by omega)
   unfold I5 at h
   split at h
   ·cases h
   ·rename_i z l1 e
    obtain ⟨k1,h1,h2⟩:=Fv (n:=n) (jY k) (Qq k) l.tail hl.tail _ _ e
    split at h
    ·rename_i q2
     have h3:=eu (l:=l1) (by omega)
     cases h
     exact ⟨k1,by omega,h2⟩
    ·simp only [bad] at h;cases h
  ·exact Qm v l' h
theorem SL {s:ByteArray} {q:Pt} (h:bG s=.ok q):vB q/\zL q<=120:=by
 unfold bG at h
 split at h
 ·cases h
 ·rename_i hs
  unfold pG at h
  split at h
  ·cases h
  ·rename_i z l e
   obtain ⟨k,h1,h2⟩:=Fv (n:=s.size) (jY 8) (Qq 8) _ (kL s 0) _ _ e
   split at h
   ·split at h
    ·cases h
    ·rename_i hz
     cases h
     have hlen:(ai s 0).length<=s.size - 0:=uE s _ _
     obtain ⟨a1,a2⟩:=h2.2 (by omega) (by omega)
     exact ⟨a1,by omega⟩
   ·cases h
inductive SP (B:List Int):Pt->Prop where
 | set {l:af}:bU B l->SP B (.set l)
 | row {l:List Pt}:(∀ p∈l,SP B p)->SP B (.row l)
 | aZ {k:Bool} {l:List Pt}:(∀ p∈l,SP B p)->SP B (.aZ k l)
 | not {a:Pt}:SP B a->SP B (.not a)
 | rep {a:Pt} {n:Nat} {m:Option Nat}:SP B a->SP B (.rep a n m)
theorem SP.mono {B B':List Int} {p:Pt} (h:SP B p) (hb:∀ b∈B,b∈B'):SP B' p:=by
 induction h with
 | set h=>exact .set (h.mono hb)
 | row _ ih=>exact .row ih
 | aZ _ ih=>exact .aZ ih
 | not _ ih=>exact .not ih
 | rep _ ih=>exact .rep ih
def QN (k:Nat) (p:Pn):Prop:=∃ B:List Int,B.length<=8*k/\SP B p.1
abbrev acp (l:List Sy) (r:bn Pn):Prop:=∀ v l',r=.ok (v,l')->∃ k,l'.length+k<=l.length/\QN k v
abbrev QA (a:List Sy->bn Pn):Prop:=∀ l,bg l->acp l (a l)
theorem Qr {n:Nat} {l:List Sy} (ha:bg l):acp l (oo (fZ n l)):=by
 intro v l' h
 unfold oo at h
 split at h
 ·cases h
 ·rename_i s l1 e
  obtain ⟨k,h1,B,b1,b2⟩:=Y2 ha e
  cases h
  exact ⟨k,h1,B,b1,SP.set b2⟩
theorem Qs {n:Nat}:∀ (f:Nat) {z:Pn} {l:List Sy} {k:Nat},uV z->bg l->QN k z->∀ v l',kK n f z l=.ok (v,l')->∃ k',l'.length+k'<=l.length+k/\QN k' v
 | 0,_,_,_,_,_,_,_,_,h=>by simp only [kK,bad] at h;cases h
 | f+1,z,l,k,hz,ha,hw,v,l',h=>by
  rw [kK] at h
  split at h
  ·rename_i hr
   split at h
   ·cases h
   ·rename_i m l1 e
    obtain ⟨d,ho,hd,_⟩:=yh hr e
    have ha1:=(oq (n:=n) ha _ _ e).2
    obtain ⟨B,b1,b2⟩:=hw
    obtain ⟨k',h1,h2⟩:=Qs f (z:=I1 z m) (by show tC (.rep z.1 m.1 m.2.1);rw [tC];exact hz) ha1 (k:=k) ⟨B,b1,SP.rep b2⟩ v l' h
    exact ⟨k',by omega,h2⟩
  ·cases h;exact ⟨k,Nat.le_refl _,hw⟩
theorem G_ {n:Nat} {a:List Sy->bn Pn} (ha:eU a) (hw:QA a):∀ (f:Nat) (l:List Sy),bg l->acp l (dW n a f l)
 | 0,_,_=>by intro v l' h;simp only [dW,bad] at h;cases h
 | f+1,l,hl=>by
  intro v l' h
  rw [dW] at h
  split at h
  ·split at h
   ·cases h
   ·rename_i z l1 e
    obtain ⟨k,h1,B,b1,b2⟩:=G_ ha hw f l.tail hl.tail _ _ e
    cases h
    exact ⟨k,by have:=cB l;omega,B,b1,SP.not b2⟩
  ·split at h
   ·cases h
   ·rename_i z l1 e
    obtain ⟨k,h1,h2⟩:=hw l hl _ _ e
    obtain ⟨hz,hl1⟩:=ha l hl _ _ e
    obtain ⟨k',h3,h4⟩:=Qs _ hz hl1 h2 v l' h
    exact ⟨k',by omega,h4⟩
def QL (k:Nat) (z:List Pn):Prop:=∃ B:List Int,B.length<=8*k/\∀ p∈z,SP B p.1
theorem Qt {k:Nat} {y:Pn} (h:QN k y):QL k [y]:=by
 obtain ⟨B,b1,b2⟩:=h
 exact ⟨B,b1,by simpa using b2⟩
theorem Le {k k':Nat} {z:List Pn} {y:Pn} (h:QL k z) (h':QN k' y):QL (k+k') (z++[y]):=by
 obtain ⟨B,b1,b2⟩:=h
 obtain ⟨B',c1,c2⟩:=h'
 refine ⟨B++B',by rw [List.length_append];omega,fun t ht=>?_⟩
 rcases List.mem_append.1 ht with ht | ht
 ·exact (b2 t ht).mono fun b hb=>List.mem_append_left _ hb
 ·rw [List.mem_singleton.1 ht]
  exact c2.mono fun b hb=>List.mem_append_right _ hb
theorem Lf {k:Nat} {z:List Pn} (h:QL k z):QN k (fI z):=by
 obtain ⟨B,b1,b2⟩:=h
 refine ⟨B,b1,?_⟩
 unfold fI
 split
 ·exact b2 _ (by simp)
 ·exact .row fun p hp=>by
   obtain ⟨q,hq,rfl⟩:=List.mem_map.1 hp
   exact b2 q hq
theorem WZ {b:Bool} {k:Nat} {z:List Pn} (h:QL k z):QN k (jg b z):=by
 obtain ⟨B,b1,b2⟩:=h
 refine ⟨B,b1,?_⟩
 unfold jg
 split
 ·exact b2 _ (by simp)
 ·exact .aZ fun p hp=>by
   obtain ⟨q,hq,rfl⟩:=List.mem_map.1 hp
   exact b2 q hq
theorem Dk {n:Nat} {a:List Sy->bn Pn} (ha:eU a) (hw:QA a):∀ (f:Nat) {z:List Pn} {l:List Sy} {k:Nat},bg l->QL k z->∀ v l',bL n a f z l=.ok (v,l')->∃ k',l'.length+k'<=l.length+k/\QL k' v
 | 0,_,_,_,_,_,_,_,h=>by simp only [bL,bad] at h;cases h
 | f+1,z,l,k,hl,hz,v,l',h=>by
  rw [bL] at h
  split at h
  ·cases h;exact ⟨k,Nat.le_refl _,hz⟩
  ·split at h
   ·cases h
   ·rename_i y l1 e
    obtain ⟨k1,h1,h2⟩:=G_ (n:=n) ha hw _ l hl _ _ e
    have hl1:=(jb (n:=n) ha (l.length+1) hl _ _ e).2
    obtain ⟨k',h3,h4⟩:=Dk ha hw f hl1 (Le hz h2) v l' h
    exact ⟨k',by omega,h4⟩
theorem acr {n:Nat} {a:List Sy->bn Pn} (ha:eU a) (hw:QA a):QA (rowP n a):=by
 intro l hl v l' h
 unfold rowP at h
 split at h
 ·cases h
  exact ⟨0,Nat.le_refl _,Lf ⟨[],by simp,by simp⟩⟩
 ·split at h
  ·cases h
  ·rename_i y l1 e
   obtain ⟨k1,h1,h2⟩:=G_ (n:=n) ha hw _ l hl _ _ e
   obtain ⟨-,hl1⟩:=jb (n:=n) ha (l.length+1) hl _ _ e
   cases e2:bL n a (l1.length+1) [y] l1 with
   | error x=>rw [e2] at h;cases h
   | ok r=>
    obtain ⟨v2,l2⟩:=r
    rw [e2] at h
    cases h
    obtain ⟨k',h3,h4⟩:=Dk ha hw _ hl1 (Qt h2) _ _ e2
    exact ⟨k',by omega,Lf h4⟩
theorem Dl {n:Nat} {a:List Sy->bn Pn} (ha:eU a) (hw:QA a) (sg:Int):∀ (f:Nat) {z:List Pn} {l:List Sy} {k:Nat},bg l->QL k z->∀ v l',bM n a sg f z l=.ok (v,l')->∃ k',l'.length+k'<=l.length+k/\QL k' v
 | 0,_,_,_,_,_,_,_,h=>by simp only [bM,bad] at h;cases h
 | f+1,z,l,k,hl,hz,v,l',h=>by
  rw [bM] at h
  split at h
  ·split at h
   ·cases h
   ·rename_i y l1 e
    have ht:=cB l
    obtain ⟨k1,h1,h2⟩:=hw l.tail hl.tail _ _ e
    have hl1:=(ha l.tail hl.tail _ _ e).2
    obtain ⟨k',h3,h4⟩:=Dl ha hw sg f hl1 (Le hz h2) v l' h
    exact ⟨k',by omega,h4⟩
  ·cases h;exact ⟨k,Nat.le_refl _,hz⟩
theorem W9 {n:Nat} {a:List Sy->bn Pn} (ha:eU a) (hw:QA a) (sg:Int) (b:Bool):QA (qU n a sg (jg b)):=by
 intro l hl v l' h
 unfold qU at h
 split at h
 ·cases h
 ·rename_i y l1 e
  obtain ⟨k1,h1,h2⟩:=hw l hl _ _ e
  obtain ⟨-,hl1⟩:=ha l hl _ _ e
  cases e2:bM n a sg (l1.length+1) [y] l1 with
  | error x=>rw [e2] at h;cases h
  | ok r=>
   obtain ⟨v2,l2⟩:=r
   rw [e2] at h
   cases h
   obtain ⟨k',h3,h4⟩:=Dl ha hw sg _ hl1 (Qt h2) _ _ e2
   exact ⟨k',by omega,WZ h4⟩
theorem Fx {n:Nat} {a:List Sy->bn Pn} (ha:eU a) (hw:QA a):QA (fJ n a):=
 W9 (tF ha) (W9 (good_row ha) (acr ha hw) 38 true) 124 false
theorem Qu {n:Nat}:∀ k:Nat,QA (ek n k)
 | 0=>by
  intro l hl v l' h
  rw [ek] at h
  split at h
  ·simp only [bad] at h;cases h
  ·exact Qr hl v l' h
 | k+1=>by
  intro l hl v l' h
  rw [ek] at h
  split at h
  ·unfold I5 at h
   split at h
   ·cases h
   ·rename_i z l1 e
    obtain ⟨k1,h1,h2⟩:=Fx (n:=n) (jY k) (Qu k) l.tail hl.tail _ _ e
    split at h
    ·cases h
     exact ⟨k1,by have:=cB l;have:=cB l1;omega,h2⟩
    ·simp only [bad] at h;cases h
  ·exact Qr hl v l' h
theorem sM {s:ByteArray} {q:Pt} (h:bG s=.ok q):∃ B:List Int,B.length<=480/\SP B q:=by
 unfold bG at h
 split at h
 ·cases h
 ·rename_i hs
  unfold pG at h
  split at h
  ·cases h
  ·rename_i z l e
   obtain ⟨k,h1,B,b1,b2⟩:=Fx (n:=s.size) (jY 8) (Qu 8) _ (kL s 0) _ _ e
   split at h
   ·split at h
    ·cases h
    ·cases h
     have hlen:=qb s 0
     exact ⟨B,by omega,b2⟩
   ·cases h
end Go.Proofs.YtfolanohokflkaaGreatDoor
