import Derived.Test.YtfolanohokflkaaGreatDoorLnO
namespace Go.Proofs.YtfolanohokflkaaGreatDoor
open Tm (eps)
inductive vI:Pt->Prop where
 | set {l:ah}:vI (.set l)
 | row {l:List Pt}:(∀ p∈l,vI p)->bJ (dL (.row l))<=10000->l.length<=1000->vI (.row l)
 | aW {k:Bool} {l:List Pt}:(∀ p∈l,vI p)->bJ (dL (.aW k l))<=10000->l≠[]->l.length<=1000->vI (.aW k l)
 | not {a:Pt}:vI a->bJ (dL (.not a))<=10000->vI (.not a)
 | rep {a:Pt} {n:Nat} {m:Option Nat}:vI a->bJ (dL (.rep a n m))<=10000->n<=1000->(∀ m',m=some m'->n<=m'/\m'<=1000)->vI (.rep a n m)
mutual
def zP:Pt->Nat
 | .set _=>1
 | .row l=>qQ l+1
 | .aW _ l=>qQ l+1
 | .not a=>zP a+1
 | .rep a _ _=>zP a+1
def qQ:List Pt->Nat
 | []=>0
 | p::r=>zP p+qQ r
end
theorem xI:∀ l:List Pt,qQ l=bC (l.map zP)
 | []=>rfl
 | p::r=>by rw [qQ,xI r];rfl
def Ud (k:Nat) (p:Pn):Prop:=Ii k p/\(p.2<=60->k<=60->vI p.1/\(zP p.1:Int)<=p.2+k)
abbrev acW (d:Nat) (l:List Sy) (r:bn Pn):Prop:=∀ v l',r=.ok (v,l')->∃ k,l'.length+k+d<=l.length/\Ud k v
abbrev FA (d:Nat) (a:List Sy->bn Pn):Prop:=∀ l,bz l->acW d l (a l)
theorem aek {k s:Nat} {t:Tm} (h:Pp k s t) (hk:k<=60) (hs:s<=60):bJ t<=10000:=by
 obtain ⟨u,L,q,h1,_,_,h4⟩:=h
 have h5:s*(3+u)<=60*(3+u):=Nat.mul_le_mul_right _ hs
 omega
theorem Ii.nz {k:Nat} {p:Pn} (h:Ii k p) (hk:k<=60) (hp:p.2<=60):bJ (dL p.1)<=10000:=aek (h.2 hp) hk (by have:=h.1;omega)
theorem QO {n:Nat} {l:List Sy}:acW 1 l (kY (eB n l)):=by
 intro v l' h
 obtain ⟨k,h1,h2⟩:=GH v l' h
 refine ⟨k,h1,h2,fun _ _=>?_⟩
 unfold kY at h
 split at h
 ·cases h
 ·cases h
  refine ⟨.set,?_⟩
  have:=h2.1
  rw [zP]
  show (1:Int)<=1+k
  omega
theorem aaH {k:Nat} {p:Pn} (h:Ud k p):Ud (k+1) (Jh p):=by
 have hw:=Px h.1
 refine ⟨hw,fun hq hk=>?_⟩
 have hq':dG (p.2+1)<=60:=hq
 have e:=Ad hq'
 obtain ⟨h1,h2⟩:=h.2 (by omega) (by omega)
 refine ⟨.not h1 (hw.nz hk hq),?_⟩
 show ((zP (.not p.1):Nat):Int)<=dG (p.2+1)+((k+1:Nat):Int)
 rw [zP,e]
 omega
theorem aaI {d f:Nat} {o:jc} (hf:o.2.2=(f:Int)) (ho:wX d o) (h:f<=60):1<=d/\o.1<=1000/\∀ m',o.2.1=some m'->o.1<=m'/\m'<=1000:=by
 obtain ⟨a,b,c⟩:=o
 cases b with
 | none=>
  simp only [wX] at ho
  refine ⟨by omega,?_,fun _ e=>by cases e⟩
  dsimp only at hf ⊢
  omega
 | some m=>
  simp only [wX] at ho
  dsimp only at hf ⊢
  refine ⟨by omega,by omega,fun m' e=>?_⟩
  cases e
  omega
theorem aaJ {k d f:Nat} {p:Pn} {o:jc} (hc:u7 p) (h:Ud k p) (hf:o.2.2=(f:Int)) (hf1:1<=f) (ho:wX d o):Ud (k+d) (x9 p o):=by
 have hw:=Py hc h.1 hf hf1 ho
 refine ⟨hw,fun hq hk=>?_⟩
 have hp:=h.1.1
 have hq':dG (p.2*o.2.2)<=60:=hq
 have e:=Ad hq'
 have e0:p.2*o.2.2=((p.2.toNat*f:Nat):Int):=by rw [hf,Int.natCast_mul,Int.toNat_of_nonneg (by omega)]
 have h2:p.2.toNat<=p.2.toNat*f:=Nat.le_mul_of_pos_right _ hf1
 have h3:f<=p.2.toNat*f:=Nat.le_mul_of_pos_left _ (by omega)
 rw [e,e0] at hq'
 obtain ⟨h4,h5⟩:=h.2 (by omega) (by omega)
 obtain ⟨r1,r2,r3⟩:=aaI hf ho (by omega)
 refine ⟨.rep h4 (hw.nz hk hq) r2 r3,?_⟩
 show ((zP (.rep p.1 o.1 o.2.1):Nat):Int)<=dG (p.2*o.2.2)+((k+d:Nat):Int)
 rw [zP,e,e0]
 omega
theorem QP {n:Nat}:∀ (f:Nat) {z:Pn} {l:List Sy} {k:Nat},u7 z->bz l->Ud k z->∀ v l',gY n f z l=.ok (v,l')->∃ k',l'.length+k'<=l.length+k/\Ud k' v
 | 0,_,_,_,_,_,_,_,_,h=>by simp only [gY,bad] at h;cases h
 | f+1,z,l,k,hz,ha,hw,v,l',h=>by
  rw [gY] at h
  split at h
  ·rename_i hr
   split at h
   ·cases h
   ·rename_i m l1 e
    obtain ⟨d,ho,hd,fa,hf1,hf⟩:=yn hr e
    have ha1:=(oH (n:=n) ha _ _ e).2
    obtain ⟨k',h1,h2⟩:=QP f (z:=x9 z m) (by show oZ (.rep z.1 m.1 m.2.1);rw [oZ];exact hz) ha1 (aaJ hz hw hf hf1 ho) v l' h
    exact ⟨k',by omega,h2⟩
  ·cases h;exact ⟨k,Nat.le_refl _,hw⟩
theorem Hw {n:Nat} {a:List Sy->bn Pn} (ha:fI a) (hw:FA 1 a):∀ (f:Nat) (l:List Sy),bz l->acW 1 l (cO n a f l)
 | 0,_,_=>by intro v l' h;simp only [cO,bad] at h;cases h
 | f+1,l,hl=>by
  intro v l' h
  rw [cO] at h
  split at h
  ·rename_i q
   have h0:=eZ (l:=l) (by omega)
   split at h
   ·cases h
   ·rename_i z l1 e
    obtain ⟨k,h1,h2⟩:=Hw ha hw f l.tail hl.tail _ _ e
    cases h
    exact ⟨k+1,by omega,aaH h2⟩
  ·split at h
   ·cases h
   ·rename_i z l1 e
    obtain ⟨k,h1,h2⟩:=hw l hl _ _ e
    obtain ⟨hz,hl1⟩:=ha l hl _ _ e
    obtain ⟨k',h3,h4⟩:=QP _ hz hl1 h2 v l' h
    exact ⟨k',by omega,h4⟩
def Yu (k:Nat) (z:List Pn):Prop:=Yi k z/\(dR z<=60->k<=60->(∀ p∈z,vI p.1)/\(qQ (z.map Prod.fst):Int)<=dR z+k)
theorem QR {k:Nat} {y:Pn} (h:Ud k y):Yu k [y]:=by
 refine ⟨GJ h.1,fun hq hk=>?_⟩
 simp only [dR,Int.add_zero] at hq ⊢
 obtain ⟨h1,h2⟩:=h.2 hq hk
 exact ⟨by simpa using h1,by simpa [qQ] using h2⟩
theorem XN (a b:List Pt):qQ (a++b)=qQ a+qQ b:=by rw [xI,xI,xI,List.map_append,kW]
theorem LM {k k':Nat} {z:List Pn} {y:Pn} (h:Yu k z) (h':Ud k' y):Yu (k+k') (z++[y]):=by
 refine ⟨Ce h.1 h'.1,fun hq hk=>?_⟩
 have h0:=p_ h.1.1
 have h1:=h'.1.1
 rw [Vq] at hq ⊢
 obtain ⟨a1,a2⟩:=h.2 (by omega) (by omega)
 obtain ⟨b1,b2⟩:=h'.2 (by omega) (by omega)
 refine ⟨fun p hp=>?_,?_⟩
 ·rcases List.mem_append.1 hp with hp | hp
  ·exact a1 p hp
  ·rw [List.mem_singleton.1 hp];exact b1
 ·rw [List.map_append,XN]
  have:qQ ([y].map Prod.fst)=zP y.1:=by simp [qQ]
  rw [this]
  omega
theorem QS {k:Nat} {z:List Pn} {P:Pt} (h:Yu k z) (h2:2<=z.length) (hw:Ii (k+1) (P,min ((z.length:Int) - 1+dR z) 61)) (hn:zP P=qQ (z.map Prod.fst)+1) (hf:(∀ p∈z.map Prod.fst,vI p)->bJ (dL P)<=10000->(z.map Prod.fst).length<=1000->vI P):Ud (k+1) (P,min ((z.length:Int) - 1+dR z) 61):=by
 refine ⟨hw,fun hq hk=>?_⟩
 have hq':min ((z.length:Int) - 1+dR z) 61<=60:=hq
 obtain ⟨a1,a2⟩:=h.2 (by omega) (by omega)
 have hz:=p_ h.1.1
 refine ⟨hf (fun p hp=>?_) (hw.nz hk hq) (by rw [List.length_map];omega),?_⟩
 ·obtain ⟨q,hq,rfl⟩:=List.mem_map.1 hp
  exact a1 q hq
 ·show ((zP P:Nat):Int)<=min ((z.length:Int) - 1+dR z) 61+((k+1:Nat):Int)
  rw [hn]
  omega
theorem XO {k:Nat} {z:List Pn} (hz:∀ p∈z,u7 p) (h:Yu k z) (hne:z≠[]):Ud (if z.length=1 then k else k+1) (eU z):=by
 have hw:=JR hz h.1 hne
 match z,hz,h,hne,hw with
 | [],_,_,hne,_=>exact absurd rfl hne
 | [p],hz,h,_,hw=>
  refine ⟨hw,fun hq hk=>?_⟩
  have hk':k<=60:=hk
  have hq':p.2<=60:=hq
  obtain ⟨a1,a2⟩:=h.2 (by simpa [dR] using hq') hk'
  refine ⟨a1 p (List.mem_cons_self ..),?_⟩
  show (zP p.1:Int)<=p.2+k
  simpa [qQ,dR] using a2
 | p::p'::r,hz,h,_,hw=>
  have e:eU (p::p'::r)=(.row ((p::p'::r).map Prod.fst),min (((p::p'::r).length:Int) - 1+dR (p::p'::r)) 61):=by simp [eU]
  rw [if_neg (by simp)] at hw ⊢
  rw [e] at hw ⊢
  exact QS h (by simp) hw (by rw [zP]) fun q1 q2 q3=>.row q1 q2 q3
theorem XP {b:Bool} {k:Nat} {z:List Pn} (hz:∀ p∈z,u7 p) (h:Yu k z) (hne:z≠[]):Ud (if z.length=1 then k else k+1) (jB b z):=by
 have hw:=JS (b:=b) hz h.1 hne
 match z,hz,h,hne,hw with
 | [],_,_,hne,_=>exact absurd rfl hne
 | [p],hz,h,_,hw=>
  refine ⟨hw,fun hq hk=>?_⟩
  have hk':k<=60:=hk
  have hq':p.2<=60:=hq
  obtain ⟨a1,a2⟩:=h.2 (by simpa [dR] using hq') hk'
  refine ⟨a1 p (List.mem_cons_self ..),?_⟩
  show (zP p.1:Int)<=p.2+k
  simpa [qQ,dR] using a2
 | p::p'::r,hz,h,_,hw=>
  have e:jB b (p::p'::r)=(.aW b ((p::p'::r).map Prod.fst),min (((p::p'::r).length:Int) - 1+dR (p::p'::r)) 61):=rfl
  rw [if_neg (by simp)] at hw ⊢
  rw [e] at hw ⊢
  exact QS h (by simp) hw (by rw [zP]) fun q1 q2 q3=>.aW q1 q2 (by simp) q3
theorem aaK:Ii 0 (eU []):=by
 refine ⟨by decide,fun _=>Ac (by decide) ?_ ?_⟩<;>simp [eU,dL,wy,kP,bJ,hF]
theorem Dt {n:Nat} {a:List Sy->bn Pn} (ha:fI a) (hw:FA 1 a):∀ (f:Nat) {z:List Pn} {l:List Sy} {k:Nat},bz l->Yu k z->∀ v l',aR n a f z l=.ok (v,l')->∃ k',l'.length+k'+v.length<=l.length+k+z.length/\Yu k' v/\z.length<=v.length
 | 0,_,_,_,_,_,_,_,h=>by simp only [aR,bad] at h;cases h
 | f+1,z,l,k,hl,hz,v,l',h=>by
  rw [aR] at h
  split at h
  ·cases h;exact ⟨k,Nat.le_refl _,hz,Nat.le_refl _⟩
  ·split at h
   ·cases h
   ·rename_i y l1 e
    obtain ⟨k1,h1,h2⟩:=Hw (n:=n) ha hw _ l hl _ _ e
    have hl1:=(jo (n:=n) ha (l.length+1) hl _ _ e).2
    obtain ⟨k',h3,h4,h5⟩:=Dt ha hw f hl1 (LM hz h2) v l' h
    rw [List.length_append] at h3 h5
    simp only [List.length_cons,List.length_nil] at h3 h5
    exact ⟨k',by omega,h4,by omega⟩
theorem acX {n:Nat} {a:List Sy->bn Pn} (ha:fI a) (hw:FA 1 a):FA 0 (rowP n a):=by
 intro l hl v l' h
 unfold rowP at h
 split at h
 ·cases h
  exact ⟨0,Nat.le_refl _,aaK,fun _ _=>⟨.row (by simp) (by simp [dL,wy,kP,bJ]) (by simp),by simp [eU,zP,qQ]⟩⟩
 ·split at h
  ·cases h
  ·rename_i y l1 e
   obtain ⟨k1,h1,h2⟩:=Hw (n:=n) ha hw _ l hl _ _ e
   obtain ⟨hy,hl1⟩:=jo (n:=n) ha (l.length+1) hl _ _ e
   have g:=mX (n:=n) ha (l1.length+1) (x_ hy) hl1
   cases e2:aR n a (l1.length+1) [y] l1 with
   | error x=>rw [e2] at h;cases h
   | ok r=>
    obtain ⟨v2,l2⟩:=r
    rw [e2] at h
    cases h
    obtain ⟨k',h3,h4,h5⟩:=Dt ha hw _ hl1 (QR h2) _ _ e2
    simp only [List.length_cons,List.length_nil] at h3 h5
    have hm:=XO (g _ _ e2).1 h4 (by rintro rfl;simp at h5)
    refine ⟨_,?_,hm⟩
    split<;>omega
theorem Du {n:Nat} {a:List Sy->bn Pn} (ha:fI a) (hw:FA 0 a) (sg:Int) (hsg:0<=sg):∀ (f:Nat) {z:List Pn} {l:List Sy} {k:Nat},bz l->Yu k z->∀ v l',aX n a sg f z l=.ok (v,l')->∃ k',l'.length+k'+v.length<=l.length+k+z.length/\Yu k' v/\z.length<=v.length
 | 0,_,_,_,_,_,_,_,h=>by simp only [aX,bad] at h;cases h
 | f+1,z,l,k,hl,hz,v,l',h=>by
  rw [aX] at h
  split at h
  ·rename_i q
   have h0:=eZ (l:=l) (by omega)
   split at h
   ·cases h
   ·rename_i y l1 e
    obtain ⟨k1,h1,h2⟩:=hw l.tail hl.tail _ _ e
    have hl1:=(ha l.tail hl.tail _ _ e).2
    obtain ⟨k',h3,h4,h5⟩:=Du ha hw sg hsg f hl1 (LM hz h2) v l' h
    rw [List.length_append] at h3 h5
    simp only [List.length_cons,List.length_nil] at h3 h5
    exact ⟨k',by omega,h4,by omega⟩
  ·cases h;exact ⟨k,Nat.le_refl _,hz,Nat.le_refl _⟩
theorem XQ {n:Nat} {a:List Sy->bn Pn} (ha:fI a) (hw:FA 0 a) (sg:Int) (hsg:0<=sg) (b:Bool):FA 0 (ma n a sg (jB b)):=by
 intro l hl v l' h
 unfold ma at h
 split at h
 ·cases h
 ·rename_i y l1 e
  obtain ⟨k1,h1,h2⟩:=hw l hl _ _ e
  obtain ⟨hy,hl1⟩:=ha l hl _ _ e
  have g:=mY (n:=n) ha sg (l1.length+1) (x_ hy) hl1
  cases e2:aX n a sg (l1.length+1) [y] l1 with
  | error x=>rw [e2] at h;cases h
  | ok r=>
   obtain ⟨v2,l2⟩:=r
   rw [e2] at h
   cases h
   obtain ⟨k',h3,h4,h5⟩:=Du ha hw sg hsg _ hl1 (QR h2) _ _ e2
   simp only [List.length_cons,List.length_nil] at h3 h5
   have hm:=XP (b:=b) (g _ _ e2).1 h4 (by rintro rfl;simp at h5)
   refine ⟨_,?_,hm⟩
   split<;>omega
theorem FO {n:Nat} {a:List Sy->bn Pn} (ha:fI a) (hw:FA 1 a):FA 0 (bU n a):=
 XQ (tT ha) (XQ (good_row ha) (acX ha hw) 38 (by decide) true) 124 (by decide) false
theorem QT {n:Nat}:∀ k:Nat,FA 1 (bH n k)
 | 0=>by
  intro l hl v l' h
  rw [bH] at h
  split at h
  ·simp only [bad] at h;cases h
  ·exact QO v l' h
 | k+1=>by
  intro l hl v l' h
  rw [bH] at h
  split at h
  ·rename_i q
   have h0:=eZ (l:=l) (by omega)
   unfold DZ at h
   split at h
   ·cases h
   ·rename_i z l1 e
    obtain ⟨k1,h1,h2⟩:=FO (n:=n) (ky k) (QT k) l.tail hl.tail _ _ e
    split at h
    ·rename_i q2
     have h3:=eZ (l:=l1) (by omega)
     cases h
     exact ⟨k1,by omega,h2⟩
    ·simp only [bad] at h;cases h
  ·exact QO v l' h
theorem TL {s:ByteArray} {q:Pt} (h:aZ s=.ok q):vI q/\zP q<=120:=by
 unfold aZ at h
 split at h
 ·cases h
 ·rename_i hs
  unfold nR at h
  split at h
  ·cases h
  ·rename_i z l e
   obtain ⟨k,h1,h2⟩:=FO (n:=s.size) (ky 8) (QT 8) _ (kQ s 0) _ _ e
   split at h
   ·split at h
    ·cases h
    ·rename_i hz
     cases h
     have hlen:(af s 0).length<=s.size - 0:=uN s _ _
     obtain ⟨a1,a2⟩:=h2.2 (by omega) (by omega)
     exact ⟨a1,by omega⟩
   ·cases h
end Go.Proofs.YtfolanohokflkaaGreatDoor
namespace Go.Proofs.YtfolanohokflkaaGreatDoor
open Tm (eps)
inductive SP (B:List Int):Pt->Prop where
 | set {l:ah}:cu B l->SP B (.set l)
 | row {l:List Pt}:(∀ p∈l,SP B p)->SP B (.row l)
 | aW {k:Bool} {l:List Pt}:(∀ p∈l,SP B p)->SP B (.aW k l)
 | not {a:Pt}:SP B a->SP B (.not a)
 | rep {a:Pt} {n:Nat} {m:Option Nat}:SP B a->SP B (.rep a n m)
theorem SP.mono {B B':List Int} {p:Pt} (h:SP B p) (hb:∀ b∈B,b∈B'):SP B' p:=by
 induction h with
 | set h=>exact .set (h.mono hb)
 | row _ ih=>exact .row ih
 | aW _ ih=>exact .aW ih
 | not _ ih=>exact .not ih
 | rep _ ih=>exact .rep ih
def QN (k:Nat) (p:Pn):Prop:=∃ B:List Int,B.length<=8*k/\SP B p.1
abbrev acY (l:List Sy) (r:bn Pn):Prop:=∀ v l',r=.ok (v,l')->∃ k,l'.length+k<=l.length/\QN k v
abbrev QA (a:List Sy->bn Pn):Prop:=∀ l,bz l->acY l (a l)
theorem QU {n:Nat} {l:List Sy} (ha:bz l):acY l (kY (eB n l)):=by
 intro v l' h
 unfold kY at h
 split at h
 ·cases h
 ·rename_i s l1 e
  obtain ⟨k,h1,B,b1,b2⟩:=Zv ha e
  cases h
  exact ⟨k,h1,B,b1,SP.set b2⟩
theorem QV {n:Nat}:∀ (f:Nat) {z:Pn} {l:List Sy} {k:Nat},u7 z->bz l->QN k z->∀ v l',gY n f z l=.ok (v,l')->∃ k',l'.length+k'<=l.length+k/\QN k' v
 | 0,_,_,_,_,_,_,_,_,h=>by simp only [gY,bad] at h;cases h
 | f+1,z,l,k,hz,ha,hw,v,l',h=>by
  rw [gY] at h
  split at h
  ·rename_i hr
   split at h
   ·cases h
   ·rename_i m l1 e
    obtain ⟨d,ho,hd,_⟩:=yn hr e
    have ha1:=(oH (n:=n) ha _ _ e).2
    obtain ⟨B,b1,b2⟩:=hw
    obtain ⟨k',h1,h2⟩:=QV f (z:=x9 z m) (by show oZ (.rep z.1 m.1 m.2.1);rw [oZ];exact hz) ha1 (k:=k) ⟨B,b1,SP.rep b2⟩ v l' h
    exact ⟨k',by omega,h2⟩
  ·cases h;exact ⟨k,Nat.le_refl _,hw⟩
theorem Hy {n:Nat} {a:List Sy->bn Pn} (ha:fI a) (hw:QA a):∀ (f:Nat) (l:List Sy),bz l->acY l (cO n a f l)
 | 0,_,_=>by intro v l' h;simp only [cO,bad] at h;cases h
 | f+1,l,hl=>by
  intro v l' h
  rw [cO] at h
  split at h
  ·split at h
   ·cases h
   ·rename_i z l1 e
    obtain ⟨k,h1,B,b1,b2⟩:=Hy ha hw f l.tail hl.tail _ _ e
    cases h
    exact ⟨k,by have:=di l;omega,B,b1,SP.not b2⟩
  ·split at h
   ·cases h
   ·rename_i z l1 e
    obtain ⟨k,h1,h2⟩:=hw l hl _ _ e
    obtain ⟨hz,hl1⟩:=ha l hl _ _ e
    obtain ⟨k',h3,h4⟩:=QV _ hz hl1 h2 v l' h
    exact ⟨k',by omega,h4⟩
def QL (k:Nat) (z:List Pn):Prop:=∃ B:List Int,B.length<=8*k/\∀ p∈z,SP B p.1
theorem QW {k:Nat} {y:Pn} (h:QN k y):QL k [y]:=by
 obtain ⟨B,b1,b2⟩:=h
 exact ⟨B,b1,by simpa using b2⟩
theorem LQ {k k':Nat} {z:List Pn} {y:Pn} (h:QL k z) (h':QN k' y):QL (k+k') (z++[y]):=by
 obtain ⟨B,b1,b2⟩:=h
 obtain ⟨B',c1,c2⟩:=h'
 refine ⟨B++B',by rw [List.length_append];omega,fun t ht=>?_⟩
 rcases List.mem_append.1 ht with ht | ht
 ·exact (b2 t ht).mono fun b hb=>List.mem_append_left _ hb
 ·rw [List.mem_singleton.1 ht]
  exact c2.mono fun b hb=>List.mem_append_right _ hb
theorem LU {k:Nat} {z:List Pn} (h:QL k z):QN k (eU z):=by
 obtain ⟨B,b1,b2⟩:=h
 refine ⟨B,b1,?_⟩
 unfold eU
 split
 ·exact b2 _ (by simp)
 ·exact .row fun p hp=>by
   obtain ⟨q,hq,rfl⟩:=List.mem_map.1 hp
   exact b2 q hq
theorem XR {b:Bool} {k:Nat} {z:List Pn} (h:QL k z):QN k (jB b z):=by
 obtain ⟨B,b1,b2⟩:=h
 refine ⟨B,b1,?_⟩
 unfold jB
 split
 ·exact b2 _ (by simp)
 ·exact .aW fun p hp=>by
   obtain ⟨q,hq,rfl⟩:=List.mem_map.1 hp
   exact b2 q hq
theorem Dv {n:Nat} {a:List Sy->bn Pn} (ha:fI a) (hw:QA a):∀ (f:Nat) {z:List Pn} {l:List Sy} {k:Nat},bz l->QL k z->∀ v l',aR n a f z l=.ok (v,l')->∃ k',l'.length+k'<=l.length+k/\QL k' v
 | 0,_,_,_,_,_,_,_,h=>by simp only [aR,bad] at h;cases h
 | f+1,z,l,k,hl,hz,v,l',h=>by
  rw [aR] at h
  split at h
  ·cases h;exact ⟨k,Nat.le_refl _,hz⟩
  ·split at h
   ·cases h
   ·rename_i y l1 e
    obtain ⟨k1,h1,h2⟩:=Hy (n:=n) ha hw _ l hl _ _ e
    have hl1:=(jo (n:=n) ha (l.length+1) hl _ _ e).2
    obtain ⟨k',h3,h4⟩:=Dv ha hw f hl1 (LQ hz h2) v l' h
    exact ⟨k',by omega,h4⟩
theorem acZ {n:Nat} {a:List Sy->bn Pn} (ha:fI a) (hw:QA a):QA (rowP n a):=by
 intro l hl v l' h
 unfold rowP at h
 split at h
 ·cases h
  exact ⟨0,Nat.le_refl _,LU ⟨[],by simp,by simp⟩⟩
 ·split at h
  ·cases h
  ·rename_i y l1 e
   obtain ⟨k1,h1,h2⟩:=Hy (n:=n) ha hw _ l hl _ _ e
   obtain ⟨-,hl1⟩:=jo (n:=n) ha (l.length+1) hl _ _ e
   cases e2:aR n a (l1.length+1) [y] l1 with
   | error x=>rw [e2] at h;cases h
   | ok r=>
    obtain ⟨v2,l2⟩:=r
    rw [e2] at h
    cases h
    obtain ⟨k',h3,h4⟩:=Dv ha hw _ hl1 (QW h2) _ _ e2
    exact ⟨k',by omega,LU h4⟩
theorem Dw {n:Nat} {a:List Sy->bn Pn} (ha:fI a) (hw:QA a) (sg:Int):∀ (f:Nat) {z:List Pn} {l:List Sy} {k:Nat},bz l->QL k z->∀ v l',aX n a sg f z l=.ok (v,l')->∃ k',l'.length+k'<=l.length+k/\QL k' v
 | 0,_,_,_,_,_,_,_,h=>by simp only [aX,bad] at h;cases h
 | f+1,z,l,k,hl,hz,v,l',h=>by
  rw [aX] at h
  split at h
  ·split at h
   ·cases h
   ·rename_i y l1 e
    have ht:=di l
    obtain ⟨k1,h1,h2⟩:=hw l.tail hl.tail _ _ e
    have hl1:=(ha l.tail hl.tail _ _ e).2
    obtain ⟨k',h3,h4⟩:=Dw ha hw sg f hl1 (LQ hz h2) v l' h
    exact ⟨k',by omega,h4⟩
  ·cases h;exact ⟨k,Nat.le_refl _,hz⟩
theorem XT {n:Nat} {a:List Sy->bn Pn} (ha:fI a) (hw:QA a) (sg:Int) (b:Bool):QA (ma n a sg (jB b)):=by
 intro l hl v l' h
 unfold ma at h
 split at h
 ·cases h
 ·rename_i y l1 e
  obtain ⟨k1,h1,h2⟩:=hw l hl _ _ e
  obtain ⟨-,hl1⟩:=ha l hl _ _ e
  cases e2:aX n a sg (l1.length+1) [y] l1 with
  | error x=>rw [e2] at h;cases h
  | ok r=>
   obtain ⟨v2,l2⟩:=r
   rw [e2] at h
   cases h
   obtain ⟨k',h3,h4⟩:=Dw ha hw sg _ hl1 (QW h2) _ _ e2
   exact ⟨k',by omega,XR h4⟩
theorem FP {n:Nat} {a:List Sy->bn Pn} (ha:fI a) (hw:QA a):QA (bU n a):=
 XT (tT ha) (XT (good_row ha) (acZ ha hw) 38 true) 124 false
theorem QX {n:Nat}:∀ k:Nat,QA (bH n k)
 | 0=>by
  intro l hl v l' h
  rw [bH] at h
  split at h
  ·simp only [bad] at h;cases h
  ·exact QU hl v l' h
 | k+1=>by
  intro l hl v l' h
  rw [bH] at h
  split at h
  ·unfold DZ at h
   split at h
   ·cases h
   ·rename_i z l1 e
    obtain ⟨k1,h1,h2⟩:=FP (n:=n) (ky k) (QX k) l.tail hl.tail _ _ e
    split at h
    ·cases h
     exact ⟨k1,by have:=di l;have:=di l1;omega,h2⟩
    ·simp only [bad] at h;cases h
  ·exact QU hl v l' h
theorem zx {s:ByteArray} {q:Pt} (h:aZ s=.ok q):∃ B:List Int,B.length<=480/\SP B q:=by
 unfold aZ at h
 split at h
 ·cases h
 ·rename_i hs
  unfold nR at h
  split at h
  ·cases h
  ·rename_i z l e
   obtain ⟨k,h1,B,b1,b2⟩:=FP (n:=s.size) (ky 8) (QX 8) _ (kQ s 0) _ _ e
   split at h
   ·split at h
    ·cases h
    ·cases h
     have hlen:=qo s 0
     exact ⟨B,by omega,b2⟩
   ·cases h
end Go.Proofs.YtfolanohokflkaaGreatDoor
