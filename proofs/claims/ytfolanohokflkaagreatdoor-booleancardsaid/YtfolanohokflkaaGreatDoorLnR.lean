import Derived.Test.YtfolanohokflkaaGreatDoorLnO
namespace Go.Proofs.YtfolanohokflkaaGreatDoor
open Tm (eps)
inductive uN:Pt->Prop where
 | set {l:ah}:uN (.set l)
 | row {l:List Pt}:(∀ p∈l,uN p)->bH (eH (.row l))<=10000->l.length<=1000->uN (.row l)
 | aT {k:Bool} {l:List Pt}:(∀ p∈l,uN p)->bH (eH (.aT k l))<=10000->l≠[]->l.length<=1000->uN (.aT k l)
 | not {a:Pt}:uN a->bH (eH (.not a))<=10000->uN (.not a)
 | rep {a:Pt} {n:Nat} {m:Option Nat}:uN a->bH (eH (.rep a n m))<=10000->n<=1000->(∀ m',m=some m'->n<=m'/\m'<=1000)->uN (.rep a n m)
mutual
def y5:Pt->Nat
 | .set _=>1
 | .row l=>qg l+1
 | .aT _ l=>qg l+1
 | .not a=>y5 a+1
 | .rep a _ _=>y5 a+1
def qg:List Pt->Nat
 | []=>0
 | p::r=>y5 p+qg r
end
theorem wH:∀ l:List Pt,qg l=bB (l.map y5)
 | []=>rfl
 | p::r=>by rw [qg,wH r];rfl
def Rt (k:Nat) (p:Pn):Prop:=Gn k p/\(p.2<=60->k<=60->uN p.1/\(y5 p.1:Int)<=p.2+k)
abbrev aaV (d:Nat) (l:List Sy) (r:bf Pn):Prop:=∀ v l',r=.ok (v,l')->∃ k,l'.length+k+d<=l.length/\Rt k v
abbrev FA (d:Nat) (a:List Sy->bf Pn):Prop:=∀ l,bu l->aaV d l (a l)
theorem acm {k s:Nat} {t:Tm} (h:NB k s t) (hk:k<=60) (hs:s<=60):bH t<=10000:=by
 obtain ⟨u,L,q,h1,_,_,h4⟩:=h
 have h5:s*(3+u)<=60*(3+u):=Nat.mul_le_mul_right _ hs
 omega
theorem Gn.nz {k:Nat} {p:Pn} (h:Gn k p) (hk:k<=60) (hp:p.2<=60):bH (eH p.1)<=10000:=acm (h.2 hp) hk (by have:=h.1;omega)
theorem OP {n:Nat} {l:List Sy}:aaV 1 l (kN (dV n l)):=by
 intro v l' h
 obtain ⟨k,h1,h2⟩:=FI v l' h
 refine ⟨k,h1,h2,fun _ _=>?_⟩
 unfold kN at h
 split at h
 ·cases h
 ·cases h
  refine ⟨.set,?_⟩
  have:=h2.1
  rw [y5]
  show (1:Int)<=1+k
  omega
theorem Yi {k:Nat} {p:Pn} (h:Rt k p):Rt (k+1) (w_ p):=by
 have hw:=NH h.1
 refine ⟨hw,fun hq hk=>?_⟩
 have hq':dA (p.2+1)<=60:=hq
 have e:=zy hq'
 obtain ⟨h1,h2⟩:=h.2 (by omega) (by omega)
 refine ⟨.not h1 (hw.nz hk hq),?_⟩
 show ((y5 (.not p.1):Nat):Int)<=dA (p.2+1)+((k+1:Nat):Int)
 rw [y5,e]
 omega
theorem Yj {d f:Nat} {o:iW} (hf:o.2.2=(f:Int)) (ho:vX d o) (h:f<=60):1<=d/\o.1<=1000/\∀ m',o.2.1=some m'->o.1<=m'/\m'<=1000:=by
 obtain ⟨a,b,c⟩:=o
 cases b with
 | none=>
  simp only [vX] at ho
  refine ⟨by omega,?_,fun _ e=>by cases e⟩
  dsimp only at hf ⊢
  omega
 | some m=>
  simp only [vX] at ho
  dsimp only at hf ⊢
  refine ⟨by omega,by omega,fun m' e=>?_⟩
  cases e
  omega
theorem Yk {k d f:Nat} {p:Pn} {o:iW} (hc:uw p) (h:Rt k p) (hf:o.2.2=(f:Int)) (hf1:1<=f) (ho:vX d o):Rt (k+d) (Hm p o):=by
 have hw:=NI hc h.1 hf hf1 ho
 refine ⟨hw,fun hq hk=>?_⟩
 have hp:=h.1.1
 have hq':dA (p.2*o.2.2)<=60:=hq
 have e:=zy hq'
 have e0:p.2*o.2.2=((p.2.toNat*f:Nat):Int):=by rw [hf,Int.natCast_mul,Int.toNat_of_nonneg (by omega)]
 have h2:p.2.toNat<=p.2.toNat*f:=Nat.le_mul_of_pos_right _ hf1
 have h3:f<=p.2.toNat*f:=Nat.le_mul_of_pos_left _ (by omega)
 rw [e,e0] at hq'
 obtain ⟨h4,h5⟩:=h.2 (by omega) (by omega)
 obtain ⟨r1,r2,r3⟩:=Yj hf ho (by omega)
 refine ⟨.rep h4 (hw.nz hk hq) r2 r3,?_⟩
 show ((y5 (.rep p.1 o.1 o.2.1):Nat):Int)<=dA (p.2*o.2.2)+((k+d:Nat):Int)
 rw [y5,e,e0]
 omega
theorem OQ {n:Nat}:∀ (f:Nat) {z:Pn} {l:List Sy} {k:Nat},uw z->bu l->Rt k z->∀ v l',iH n f z l=.ok (v,l')->∃ k',l'.length+k'<=l.length+k/\Rt k' v
 | 0,_,_,_,_,_,_,_,_,h=>by simp only [iH,bad] at h;cases h
 | f+1,z,l,k,hz,ha,hw,v,l',h=>by
  rw [iH] at h
  split at h
  ·rename_i hr
   split at h
   ·cases h
   ·rename_i m l1 e
    obtain ⟨d,ho,hd,fa,hf1,hf⟩:=xA hr e
    have ha1:=(oh (n:=n) ha _ _ e).2
    obtain ⟨k',h1,h2⟩:=OQ f (z:=Hm z m) (by show nU (.rep z.1 m.1 m.2.1);rw [nU];exact hz) ha1 (Yk hz hw hf hf1 ho) v l' h
    exact ⟨k',by omega,h2⟩
  ·cases h;exact ⟨k,Nat.le_refl _,hw⟩
theorem F8 {n:Nat} {a:List Sy->bf Pn} (ha:fu a) (hw:FA 1 a):∀ (f:Nat) (l:List Sy),bu l->aaV 1 l (b_ n a f l)
 | 0,_,_=>by intro v l' h;simp only [b_,bad] at h;cases h
 | f+1,l,hl=>by
  intro v l' h
  rw [b_] at h
  split at h
  ·rename_i q
   have h0:=eB (l:=l) (by omega)
   split at h
   ·cases h
   ·rename_i z l1 e
    obtain ⟨k,h1,h2⟩:=F8 ha hw f l.tail hl.tail _ _ e
    cases h
    exact ⟨k+1,by omega,Yi h2⟩
  ·split at h
   ·cases h
   ·rename_i z l1 e
    obtain ⟨k,h1,h2⟩:=hw l hl _ _ e
    obtain ⟨hz,hl1⟩:=ha l hl _ _ e
    obtain ⟨k',h3,h4⟩:=OQ _ hz hl1 h2 v l' h
    exact ⟨k',by omega,h4⟩
def V4 (k:Nat) (z:List Pn):Prop:=VT k z/\(dI z<=60->k<=60->(∀ p∈z,uN p.1)/\(qg (z.map Prod.fst):Int)<=dI z+k)
theorem OT {k:Nat} {y:Pn} (h:Rt k y):V4 k [y]:=by
 refine ⟨FK h.1,fun hq hk=>?_⟩
 simp only [dI,Int.add_zero] at hq ⊢
 obtain ⟨h1,h2⟩:=h.2 hq hk
 exact ⟨by simpa using h1,by simpa [qg] using h2⟩
theorem Vj (a b:List Pt):qg (a++b)=qg a+qg b:=by rw [wH,wH,wH,List.map_append,kK]
theorem J6 {k k':Nat} {z:List Pn} {y:Pn} (h:V4 k z) (h':Rt k' y):V4 (k+k') (z++[y]):=by
 refine ⟨Ba h.1 h'.1,fun hq hk=>?_⟩
 have h0:=pF h.1.1
 have h1:=h'.1.1
 rw [TC] at hq ⊢
 obtain ⟨a1,a2⟩:=h.2 (by omega) (by omega)
 obtain ⟨b1,b2⟩:=h'.2 (by omega) (by omega)
 refine ⟨fun p hp=>?_,?_⟩
 ·rcases List.mem_append.1 hp with hp | hp
  ·exact a1 p hp
  ·rw [List.mem_singleton.1 hp];exact b1
 ·rw [List.map_append,Vj]
  have:qg ([y].map Prod.fst)=y5 y.1:=by simp [qg]
  rw [this]
  omega
theorem OU {k:Nat} {z:List Pn} {P:Pt} (h:V4 k z) (h2:2<=z.length) (hw:Gn (k+1) (P,min ((z.length:Int) - 1+dI z) 61)) (hn:y5 P=qg (z.map Prod.fst)+1) (hf:(∀ p∈z.map Prod.fst,uN p)->bH (eH P)<=10000->(z.map Prod.fst).length<=1000->uN P):Rt (k+1) (P,min ((z.length:Int) - 1+dI z) 61):=by
 refine ⟨hw,fun hq hk=>?_⟩
 have hq':min ((z.length:Int) - 1+dI z) 61<=60:=hq
 obtain ⟨a1,a2⟩:=h.2 (by omega) (by omega)
 have hz:=pF h.1.1
 refine ⟨hf (fun p hp=>?_) (hw.nz hk hq) (by rw [List.length_map];omega),?_⟩
 ·obtain ⟨q,hq,rfl⟩:=List.mem_map.1 hp
  exact a1 q hq
 ·show ((y5 P:Nat):Int)<=min ((z.length:Int) - 1+dI z) 61+((k+1:Nat):Int)
  rw [hn]
  omega
theorem Vk {k:Nat} {z:List Pn} (hz:∀ p∈z,uw p) (h:V4 k z) (hne:z≠[]):Rt (if z.length=1 then k else k+1) (ib z):=by
 have hw:=IX hz h.1 hne
 match z,hz,h,hne,hw with
 | [],_,_,hne,_=>exact absurd rfl hne
 | [p],hz,h,_,hw=>
  refine ⟨hw,fun hq hk=>?_⟩
  have hk':k<=60:=hk
  have hq':p.2<=60:=hq
  obtain ⟨a1,a2⟩:=h.2 (by simpa [dI] using hq') hk'
  refine ⟨a1 p (List.mem_cons_self ..),?_⟩
  show (y5 p.1:Int)<=p.2+k
  simpa [qg,dI] using a2
 | p::p'::r,hz,h,_,hw=>
  have e:ib (p::p'::r)=(.row ((p::p'::r).map Prod.fst),min (((p::p'::r).length:Int) - 1+dI (p::p'::r)) 61):=by simp [ib]
  rw [if_neg (by simp)] at hw ⊢
  rw [e] at hw ⊢
  exact OU h (by simp) hw (by rw [y5]) fun q1 q2 q3=>.row q1 q2 q3
theorem Vl {b:Bool} {k:Nat} {z:List Pn} (hz:∀ p∈z,uw p) (h:V4 k z) (hne:z≠[]):Rt (if z.length=1 then k else k+1) (gB b z):=by
 have hw:=IY (b:=b) hz h.1 hne
 match z,hz,h,hne,hw with
 | [],_,_,hne,_=>exact absurd rfl hne
 | [p],hz,h,_,hw=>
  refine ⟨hw,fun hq hk=>?_⟩
  have hk':k<=60:=hk
  have hq':p.2<=60:=hq
  obtain ⟨a1,a2⟩:=h.2 (by simpa [dI] using hq') hk'
  refine ⟨a1 p (List.mem_cons_self ..),?_⟩
  show (y5 p.1:Int)<=p.2+k
  simpa [qg,dI] using a2
 | p::p'::r,hz,h,_,hw=>
  have e:gB b (p::p'::r)=(.aT b ((p::p'::r).map Prod.fst),min (((p::p'::r).length:Int) - 1+dI (p::p'::r)) 61):=rfl
  rw [if_neg (by simp)] at hw ⊢
  rw [e] at hw ⊢
  exact OU h (by simp) hw (by rw [y5]) fun q1 q2 q3=>.aT q1 q2 (by simp) q3
theorem Yl:Gn 0 (ib []):=by
 refine ⟨by decide,fun _=>zx (by decide) ?_ ?_⟩<;>simp [ib,eH,vB,kC,bH,hF]
theorem Cj {n:Nat} {a:List Sy->bf Pn} (ha:fu a) (hw:FA 1 a):∀ (f:Nat) {z:List Pn} {l:List Sy} {k:Nat},bu l->V4 k z->∀ v l',aW n a f z l=.ok (v,l')->∃ k',l'.length+k'+v.length<=l.length+k+z.length/\V4 k' v/\z.length<=v.length
 | 0,_,_,_,_,_,_,_,h=>by simp only [aW,bad] at h;cases h
 | f+1,z,l,k,hl,hz,v,l',h=>by
  rw [aW] at h
  split at h
  ·cases h;exact ⟨k,Nat.le_refl _,hz,Nat.le_refl _⟩
  ·split at h
   ·cases h
   ·rename_i y l1 e
    obtain ⟨k1,h1,h2⟩:=F8 (n:=n) ha hw _ l hl _ _ e
    have hl1:=(jh (n:=n) ha (l.length+1) hl _ _ e).2
    obtain ⟨k',h3,h4,h5⟩:=Cj ha hw f hl1 (J6 hz h2) v l' h
    rw [List.length_append] at h3 h5
    simp only [List.length_cons,List.length_nil] at h3 h5
    exact ⟨k',by omega,h4,by omega⟩
theorem aaW {n:Nat} {a:List Sy->bf Pn} (ha:fu a) (hw:FA 1 a):FA 0 (rowP n a):=by
 intro l hl v l' h
 unfold rowP at h
 split at h
 ·cases h
  exact ⟨0,Nat.le_refl _,Yl,fun _ _=>⟨.row (by simp) (by simp [eH,vB,kC,bH]) (by simp),by simp [ib,y5,qg]⟩⟩
 ·split at h
  ·cases h
  ·rename_i y l1 e
   obtain ⟨k1,h1,h2⟩:=F8 (n:=n) ha hw _ l hl _ _ e
   obtain ⟨hy,hl1⟩:=jh (n:=n) ha (l.length+1) hl _ _ e
   have g:=mD (n:=n) ha (l1.length+1) (xc hy) hl1
   cases e2:aW n a (l1.length+1) [y] l1 with
   | error x=>rw [e2] at h;cases h
   | ok r=>
    obtain ⟨v2,l2⟩:=r
    rw [e2] at h
    cases h
    obtain ⟨k',h3,h4,h5⟩:=Cj ha hw _ hl1 (OT h2) _ _ e2
    simp only [List.length_cons,List.length_nil] at h3 h5
    have hm:=Vk (g _ _ e2).1 h4 (by rintro rfl;simp at h5)
    refine ⟨_,?_,hm⟩
    split<;>omega
theorem Ck {n:Nat} {a:List Sy->bf Pn} (ha:fu a) (hw:FA 0 a) (sg:Int) (hsg:0<=sg):∀ (f:Nat) {z:List Pn} {l:List Sy} {k:Nat},bu l->V4 k z->∀ v l',aR n a sg f z l=.ok (v,l')->∃ k',l'.length+k'+v.length<=l.length+k+z.length/\V4 k' v/\z.length<=v.length
 | 0,_,_,_,_,_,_,_,h=>by simp only [aR,bad] at h;cases h
 | f+1,z,l,k,hl,hz,v,l',h=>by
  rw [aR] at h
  split at h
  ·rename_i q
   have h0:=eB (l:=l) (by omega)
   split at h
   ·cases h
   ·rename_i y l1 e
    obtain ⟨k1,h1,h2⟩:=hw l.tail hl.tail _ _ e
    have hl1:=(ha l.tail hl.tail _ _ e).2
    obtain ⟨k',h3,h4,h5⟩:=Ck ha hw sg hsg f hl1 (J6 hz h2) v l' h
    rw [List.length_append] at h3 h5
    simp only [List.length_cons,List.length_nil] at h3 h5
    exact ⟨k',by omega,h4,by omega⟩
  ·cases h;exact ⟨k,Nat.le_refl _,hz,Nat.le_refl _⟩
theorem Vm {n:Nat} {a:List Sy->bf Pn} (ha:fu a) (hw:FA 0 a) (sg:Int) (hsg:0<=sg) (b:Bool):FA 0 (kM n a sg (gB b)):=by
 intro l hl v l' h
 unfold kM at h
 split at h
 ·cases h
 ·rename_i y l1 e
  obtain ⟨k1,h1,h2⟩:=hw l hl _ _ e
  obtain ⟨hy,hl1⟩:=ha l hl _ _ e
  have g:=mE (n:=n) ha sg (l1.length+1) (xc hy) hl1
  cases e2:aR n a sg (l1.length+1) [y] l1 with
  | error x=>rw [e2] at h;cases h
  | ok r=>
   obtain ⟨v2,l2⟩:=r
   rw [e2] at h
   cases h
   obtain ⟨k',h3,h4,h5⟩:=Ck ha hw sg hsg _ hl1 (OT h2) _ _ e2
   simp only [List.length_cons,List.length_nil] at h3 h5
   have hm:=Vl (b:=b) (g _ _ e2).1 h4 (by rintro rfl;simp at h5)
   refine ⟨_,?_,hm⟩
   split<;>omega
theorem Eu {n:Nat} {a:List Sy->bf Pn} (ha:fu a) (hw:FA 1 a):FA 0 (bM n a):=
 Vm (sj ha) (Vm (good_row ha) (aaW ha hw) 38 (by decide) true) 124 (by decide) false
theorem OV {n:Nat}:∀ k:Nat,FA 1 (bF n k)
 | 0=>by
  intro l hl v l' h
  rw [bF] at h
  split at h
  ·simp only [bad] at h;cases h
  ·exact OP v l' h
 | k+1=>by
  intro l hl v l' h
  rw [bF] at h
  split at h
  ·rename_i q
   have h0:=eB (l:=l) (by omega)
   unfold CW at h
   split at h
   ·cases h
   ·rename_i z l1 e
    obtain ⟨k1,h1,h2⟩:=Eu (n:=n) (jX k) (OV k) l.tail hl.tail _ _ e
    split at h
    ·rename_i q2
     have h3:=eB (l:=l1) (by omega)
     cases h
     exact ⟨k1,by omega,h2⟩
    ·simp only [bad] at h;cases h
  ·exact OP v l' h
theorem Q6 {s:ByteArray} {q:Pt} (h:bn s=.ok q):uN q/\y5 q<=120:=by
 unfold bn at h
 split at h
 ·cases h
 ·rename_i hs
  unfold nA at h
  split at h
  ·cases h
  ·rename_i z l e
   obtain ⟨k,h1,h2⟩:=Eu (n:=s.size) (jX 8) (OV 8) _ (kD s 0) _ _ e
   split at h
   ·split at h
    ·cases h
    ·rename_i hz
     cases h
     have hlen:(af s 0).length<=s.size - 0:=tQ s _ _
     obtain ⟨a1,a2⟩:=h2.2 (by omega) (by omega)
     exact ⟨a1,by omega⟩
   ·cases h
end Go.Proofs.YtfolanohokflkaaGreatDoor
namespace Go.Proofs.YtfolanohokflkaaGreatDoor
open Tm (eps)
inductive SP (B:List Int):Pt->Prop where
 | set {l:ah}:bY B l->SP B (.set l)
 | row {l:List Pt}:(∀ p∈l,SP B p)->SP B (.row l)
 | aT {k:Bool} {l:List Pt}:(∀ p∈l,SP B p)->SP B (.aT k l)
 | not {a:Pt}:SP B a->SP B (.not a)
 | rep {a:Pt} {n:Nat} {m:Option Nat}:SP B a->SP B (.rep a n m)
theorem SP.mono {B B':List Int} {p:Pt} (h:SP B p) (hb:∀ b∈B,b∈B'):SP B' p:=by
 induction h with
 | set h=>exact .set (h.mono hb)
 | row _ ih=>exact .row ih
 | aT _ ih=>exact .aT ih
 | not _ ih=>exact .not ih
 | rep _ ih=>exact .rep ih
def QN (k:Nat) (p:Pn):Prop:=∃ B:List Int,B.length<=8*k/\SP B p.1
abbrev aaX (l:List Sy) (r:bf Pn):Prop:=∀ v l',r=.ok (v,l')->∃ k,l'.length+k<=l.length/\QN k v
abbrev QA (a:List Sy->bf Pn):Prop:=∀ l,bu l->aaX l (a l)
theorem OW {n:Nat} {l:List Sy} (ha:bu l):aaX l (kN (dV n l)):=by
 intro v l' h
 unfold kN at h
 split at h
 ·cases h
 ·rename_i s l1 e
  obtain ⟨k,h1,B,b1,b2⟩:=Xo ha e
  cases h
  exact ⟨k,h1,B,b1,SP.set b2⟩
theorem OX {n:Nat}:∀ (f:Nat) {z:Pn} {l:List Sy} {k:Nat},uw z->bu l->QN k z->∀ v l',iH n f z l=.ok (v,l')->∃ k',l'.length+k'<=l.length+k/\QN k' v
 | 0,_,_,_,_,_,_,_,_,h=>by simp only [iH,bad] at h;cases h
 | f+1,z,l,k,hz,ha,hw,v,l',h=>by
  rw [iH] at h
  split at h
  ·rename_i hr
   split at h
   ·cases h
   ·rename_i m l1 e
    obtain ⟨d,ho,hd,_⟩:=xA hr e
    have ha1:=(oh (n:=n) ha _ _ e).2
    obtain ⟨B,b1,b2⟩:=hw
    obtain ⟨k',h1,h2⟩:=OX f (z:=Hm z m) (by show nU (.rep z.1 m.1 m.2.1);rw [nU];exact hz) ha1 (k:=k) ⟨B,b1,SP.rep b2⟩ v l' h
    exact ⟨k',by omega,h2⟩
  ·cases h;exact ⟨k,Nat.le_refl _,hw⟩
theorem F9 {n:Nat} {a:List Sy->bf Pn} (ha:fu a) (hw:QA a):∀ (f:Nat) (l:List Sy),bu l->aaX l (b_ n a f l)
 | 0,_,_=>by intro v l' h;simp only [b_,bad] at h;cases h
 | f+1,l,hl=>by
  intro v l' h
  rw [b_] at h
  split at h
  ·split at h
   ·cases h
   ·rename_i z l1 e
    obtain ⟨k,h1,B,b1,b2⟩:=F9 ha hw f l.tail hl.tail _ _ e
    cases h
    exact ⟨k,by have:=cZ l;omega,B,b1,SP.not b2⟩
  ·split at h
   ·cases h
   ·rename_i z l1 e
    obtain ⟨k,h1,h2⟩:=hw l hl _ _ e
    obtain ⟨hz,hl1⟩:=ha l hl _ _ e
    obtain ⟨k',h3,h4⟩:=OX _ hz hl1 h2 v l' h
    exact ⟨k',by omega,h4⟩
def QL (k:Nat) (z:List Pn):Prop:=∃ B:List Int,B.length<=8*k/\∀ p∈z,SP B p.1
theorem OY {k:Nat} {y:Pn} (h:QN k y):QL k [y]:=by
 obtain ⟨B,b1,b2⟩:=h
 exact ⟨B,b1,by simpa using b2⟩
theorem J7 {k k':Nat} {z:List Pn} {y:Pn} (h:QL k z) (h':QN k' y):QL (k+k') (z++[y]):=by
 obtain ⟨B,b1,b2⟩:=h
 obtain ⟨B',c1,c2⟩:=h'
 refine ⟨B++B',by rw [List.length_append];omega,fun t ht=>?_⟩
 rcases List.mem_append.1 ht with ht | ht
 ·exact (b2 t ht).mono fun b hb=>List.mem_append_left _ hb
 ·rw [List.mem_singleton.1 ht]
  exact c2.mono fun b hb=>List.mem_append_right _ hb
theorem J8 {k:Nat} {z:List Pn} (h:QL k z):QN k (ib z):=by
 obtain ⟨B,b1,b2⟩:=h
 refine ⟨B,b1,?_⟩
 unfold ib
 split
 ·exact b2 _ (by simp)
 ·exact .row fun p hp=>by
   obtain ⟨q,hq,rfl⟩:=List.mem_map.1 hp
   exact b2 q hq
theorem Vn {b:Bool} {k:Nat} {z:List Pn} (h:QL k z):QN k (gB b z):=by
 obtain ⟨B,b1,b2⟩:=h
 refine ⟨B,b1,?_⟩
 unfold gB
 split
 ·exact b2 _ (by simp)
 ·exact .aT fun p hp=>by
   obtain ⟨q,hq,rfl⟩:=List.mem_map.1 hp
   exact b2 q hq
theorem Cm {n:Nat} {a:List Sy->bf Pn} (ha:fu a) (hw:QA a):∀ (f:Nat) {z:List Pn} {l:List Sy} {k:Nat},bu l->QL k z->∀ v l',aW n a f z l=.ok (v,l')->∃ k',l'.length+k'<=l.length+k/\QL k' v
 | 0,_,_,_,_,_,_,_,h=>by simp only [aW,bad] at h;cases h
 | f+1,z,l,k,hl,hz,v,l',h=>by
  rw [aW] at h
  split at h
  ·cases h;exact ⟨k,Nat.le_refl _,hz⟩
  ·split at h
   ·cases h
   ·rename_i y l1 e
    obtain ⟨k1,h1,h2⟩:=F9 (n:=n) ha hw _ l hl _ _ e
    have hl1:=(jh (n:=n) ha (l.length+1) hl _ _ e).2
    obtain ⟨k',h3,h4⟩:=Cm ha hw f hl1 (J7 hz h2) v l' h
    exact ⟨k',by omega,h4⟩
theorem aaY {n:Nat} {a:List Sy->bf Pn} (ha:fu a) (hw:QA a):QA (rowP n a):=by
 intro l hl v l' h
 unfold rowP at h
 split at h
 ·cases h
  exact ⟨0,Nat.le_refl _,J8 ⟨[],by simp,by simp⟩⟩
 ·split at h
  ·cases h
  ·rename_i y l1 e
   obtain ⟨k1,h1,h2⟩:=F9 (n:=n) ha hw _ l hl _ _ e
   obtain ⟨-,hl1⟩:=jh (n:=n) ha (l.length+1) hl _ _ e
   cases e2:aW n a (l1.length+1) [y] l1 with
   | error x=>rw [e2] at h;cases h
   | ok r=>
    obtain ⟨v2,l2⟩:=r
    rw [e2] at h
    cases h
    obtain ⟨k',h3,h4⟩:=Cm ha hw _ hl1 (OY h2) _ _ e2
    exact ⟨k',by omega,J8 h4⟩
theorem Co {n:Nat} {a:List Sy->bf Pn} (ha:fu a) (hw:QA a) (sg:Int):∀ (f:Nat) {z:List Pn} {l:List Sy} {k:Nat},bu l->QL k z->∀ v l',aR n a sg f z l=.ok (v,l')->∃ k',l'.length+k'<=l.length+k/\QL k' v
 | 0,_,_,_,_,_,_,_,h=>by simp only [aR,bad] at h;cases h
 | f+1,z,l,k,hl,hz,v,l',h=>by
  rw [aR] at h
  split at h
  ·split at h
   ·cases h
   ·rename_i y l1 e
    have ht:=cZ l
    obtain ⟨k1,h1,h2⟩:=hw l.tail hl.tail _ _ e
    have hl1:=(ha l.tail hl.tail _ _ e).2
    obtain ⟨k',h3,h4⟩:=Co ha hw sg f hl1 (J7 hz h2) v l' h
    exact ⟨k',by omega,h4⟩
  ·cases h;exact ⟨k,Nat.le_refl _,hz⟩
theorem Vo {n:Nat} {a:List Sy->bf Pn} (ha:fu a) (hw:QA a) (sg:Int) (b:Bool):QA (kM n a sg (gB b)):=by
 intro l hl v l' h
 unfold kM at h
 split at h
 ·cases h
 ·rename_i y l1 e
  obtain ⟨k1,h1,h2⟩:=hw l hl _ _ e
  obtain ⟨-,hl1⟩:=ha l hl _ _ e
  cases e2:aR n a sg (l1.length+1) [y] l1 with
  | error x=>rw [e2] at h;cases h
  | ok r=>
   obtain ⟨v2,l2⟩:=r
   rw [e2] at h
   cases h
   obtain ⟨k',h3,h4⟩:=Co ha hw sg _ hl1 (OY h2) _ _ e2
   exact ⟨k',by omega,Vn h4⟩
theorem Ev {n:Nat} {a:List Sy->bf Pn} (ha:fu a) (hw:QA a):QA (bM n a):=
 Vo (sj ha) (Vo (good_row ha) (aaY ha hw) 38 true) 124 false
theorem OZ {n:Nat}:∀ k:Nat,QA (bF n k)
 | 0=>by
  intro l hl v l' h
  rw [bF] at h
  split at h
  ·simp only [bad] at h;cases h
  ·exact OW hl v l' h
 | k+1=>by
  intro l hl v l' h
  rw [bF] at h
  split at h
  ·unfold CW at h
   split at h
   ·cases h
   ·rename_i z l1 e
    obtain ⟨k1,h1,h2⟩:=Ev (n:=n) (jX k) (OZ k) l.tail hl.tail _ _ e
    split at h
    ·cases h
     exact ⟨k1,by have:=cZ l;have:=cZ l1;omega,h2⟩
    ·simp only [bad] at h;cases h
  ·exact OW hl v l' h
theorem J9 {s:ByteArray} {q:Pt} (h:bn s=.ok q):∃ B:List Int,B.length<=480/\SP B q:=by
 unfold bn at h
 split at h
 ·cases h
 ·rename_i hs
  unfold nA at h
  split at h
  ·cases h
  ·rename_i z l e
   obtain ⟨k,h1,B,b1,b2⟩:=Ev (n:=s.size) (jX 8) (OZ 8) _ (kD s 0) _ _ e
   split at h
   ·split at h
    ·cases h
    ·cases h
     have hlen:=uY s 0
     exact ⟨B,by omega,b2⟩
   ·cases h
end Go.Proofs.YtfolanohokflkaaGreatDoor
