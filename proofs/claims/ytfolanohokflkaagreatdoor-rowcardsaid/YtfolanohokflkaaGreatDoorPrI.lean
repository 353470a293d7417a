import Derived.Test.YtfolanohokflkaaGreatDoorPrD
namespace Go.Proofs.YtfolanohokflkaaGreatDoor
def Rd (p:ByteArray) (z:Pn):Prop:=∃ lp,bU p.size (bH p.size 8) (af p 0)=.ok (z,lp)/\hd lp<0
theorem PM {p:ByteArray} {P:Pt} (h:aZ p=.ok P):∃ z,Rd p z/\z.1=P:=by
 unfold aZ at h
 split at h
 ·cases h
 ·unfold nR at h
  split at h
  ·cases h
  ·rename_i z l e
   split at h
   ·rename_i hl
    split at h
    ·cases h
    ·cases h;exact ⟨z,⟨l,e,hl⟩,rfl⟩
   ·cases h
theorem ab6 {l:List Sy} (h:hd l<0):l=[]:=by
 cases l with
 | nil=>rfl
 | cons x l=>exact absurd h (by show ¬ ((x.c:Int)<0);omega)
def hdV:List Int->Int
 | []=>-1
 | c::_=>c
theorem GQ (l:List Sy):hd l=hdV (vals l):=by cases l<;>rfl
section
variable {p:ByteArray} {n:Nat} {z:Pn} {r:List Int} {L:List Sy}
theorem J8 (hp:Rd p z) (vL:hd L=40) (hv:vals L.tail=vals (af p 0)++41::r) {y:Pn} {l2:List Sy} (hx:bH n 8 L=.ok (y,l2)):y=z/\vals l2=r:=by
 obtain ⟨lp,e,hlp⟩:=hp
 have hlp:=ab6 hlp
 subst hlp
 obtain ⟨l1,e1,h1⟩:=Fg (n':=n) (ZC (r:=r) (n':=n) 8) (l':=L.tail) hv e
 rw [bH,if_pos vL] at hx
 cases e2:bU n (bH n 7) L.tail with
 | error x=>rw [e2] at hx;cases hx
 | ok w=>
  have e3:=Fh (PK 7) _ _ e2
  rw [e1] at e3
  cases e3
  rw [e2] at hx
  change (if hd l1=41 then (Except.ok (z,l1.tail):bn Pn) else bad 2 n l1)=_ at hx
  rw [if_pos h1.at0] at hx
  cases hx
  refine ⟨rfl,?_⟩
  cases l1 with
  | nil=>simp [Ex] at h1
  | cons a l1=>simp [Ex] at h1;exact h1.2
theorem J9 (hp:Rd p z) (vL:hd L=40) (hv:vals L.tail=vals (af p 0)++41::r) (hr:kH (hdV r)=false) {f:Nat} {y:Pn} {l2:List Sy} (hx:cO n (bH n 8) (f+1) L=.ok (y,l2)):y=z/\vals l2=r:=by
 rw [cO,if_neg (by rw [vL];decide)] at hx
 split at hx
 ·cases hx
 ·rename_i y0 l0 e
  obtain ⟨e1,e2⟩:=J8 hp vL hv e
  subst e1
  rw [gY,if_neg (by rw [GQ,e2,hr];decide)] at hx
  cases hx
  exact ⟨rfl,e2⟩
theorem J_ {y:Pn} {l2:List Sy} {y0:Pn} (hn:iE (hd L)=false) (hi:∀ f y l2,cO n (bH n 8) (f+1) L=.ok (y,l2)->y=y0/\vals l2=r) (hr:iE (hdV r)=true) (hx:rowP n (bH n 8) L=.ok (y,l2)):y=y0/\vals l2=r:=by
 unfold rowP at hx
 rw [if_neg (by rw [hn];decide)] at hx
 split at hx
 ·cases hx
 ·rename_i y1 l1 e
  obtain ⟨e1,e2⟩:=hi _ _ _ e
  subst e1
  rw [aR,if_pos (by rw [GQ,e2];exact hr)] at hx
  cases hx
  exact ⟨rfl,e2⟩
theorem w_ {sub:List Sy->bn Pn} {sg:Int} {g:List Pn->Pn} {y0:Pn} (hs:∀ y l2,sub L=.ok (y,l2)->y=y0/\vals l2=r) (h1:hdV r≠sg) {y:Pn} {l2:List Sy} (hx:ma n sub sg g L=.ok (y,l2)):y=g [y0]/\vals l2=r:=by
 unfold ma at hx
 split at hx
 ·cases hx
 ·rename_i y1 l1 e
  obtain ⟨e1,e2⟩:=hs _ _ e
  subst e1
  rw [aX,if_neg (by rw [GQ,e2];exact h1)] at hx
  cases hx
  exact ⟨rfl,e2⟩
end
theorem xc {L:List Sy} {c:Int} {r:List Int} (h:vals L=c::r):hd L=c/\vals L.tail=r:=by
 cases L with
 | nil=>simp [vals] at h
 | cons x L=>simp [vals] at h ⊢;exact h
section
variable {p q:ByteArray} {n:Nat} {zp zq:Pn} {L:List Sy}
end
theorem Ka {S:ByteArray} {T:Pt} {z:Pn} (h:aZ S=.ok T) (hc:∀ y l2,bU S.size (bH S.size 8) (af S 0)=.ok (y,l2)->y=z/\vals l2=[]):T=z.1:=by
 obtain ⟨y,⟨l,e,_⟩,q⟩:=PM h
 rw [<-q,(hc _ _ e).1]
section
variable {p q S:ByteArray} {P Q T:Pt}
end
def qZ (P:Pt) (cs:List Int):Bool:=bZ (aI (dL P) cs)
theorem mr {P:Pt} (h:oZ P) {cs:List Int} (hc:dU cs):qZ P cs=true↔wd (dL P) cs:=OZ cs (qA h).ok hc
end Go.Proofs.YtfolanohokflkaaGreatDoor
namespace Go.Proofs.YtfolanohokflkaaGreatDoor
def uG {a:Type} (r:bn a):Prop:=∀ x,r=.error x->x.1≠0
section
variable {n:Nat} {l:List Sy}
theorem gU {a:Type} (v:a×List Sy):uG (.ok v:bn a):=fun _ h=>by cases h
theorem jf {a:Type} {e:Int} (h:e≠0):uG (bad e n l:bn a):=fun x hx=>by unfold bad at hx;cases hx;exact h
theorem jH {a b:Type} {r:bn a} {x:Int×Int} (h:uG r) (e:r=.error x):uG (.error x:bn b):=fun _ hy=>by cases hy;exact h _ e
theorem VN (least:Int):uG (bP n least l):=by
 unfold bP
 split
 ·split
  ·exact jf (by decide)
  ·exact gU _
 ·exact jf (by decide)
theorem Kb (m:jc):uG (fK n m l):=by
 unfold fK
 split
 ·exact gU _
 ·exact jf (by decide)
theorem Sm:uG (gI n l):=by
 unfold gI
 split
 ·rename_i e;exact jH (VN _) e
 ·split
  ·split
   ·exact gU _
   ·split
    ·rename_i e;exact jH (VN _) e
    ·exact Kb _
  ·exact Kb _
theorem Sn:uG (dM n l):=by
 unfold dM
 split
 ·exact Sm
 ·split
  ·exact gU _
  ·split
   ·exact gU _
   ·exact gU _
theorem ZF:uG (mM n l):=by
 unfold mM
 split
 ·unfold kI
  split
  ·exact jf (by decide)
  ·split
   ·exact gU _
   ·exact jf (by decide)
 ·exact jf (by decide)
theorem Fj:uG (dJ n l):=by
 unfold dJ
 split
 ·exact ZF
 ·split
  ·exact gU _
  ·split
   ·exact gU _
   ·exact jf (by decide)
theorem Kc:uG (fe n l):=by
 unfold fe
 split
 ·exact Fj
 ·split
  ·exact jf (by decide)
  ·exact gU _
theorem ZG:uG (jA n l):=by
 unfold jA
 split
 ·exact gU _
 ·split
  ·rename_i e;exact jH Kc e
  ·split
   ·split
    ·rename_i e;exact jH Kc e
    ·split
     ·exact jf (by decide)
     ·exact gU _
   ·exact gU _
theorem qJ:∀ (f:Nat) (s:ah) (l:List Sy),uG (bB n f s l)
 | 0,_,_=>jf (by decide)
 | f+1,s,l=>by
  rw [bB]
  split
  ·exact gU _
  ·split
   ·rename_i e;exact jH ZG e
   ·exact qJ f _ _
theorem VO:uG (iG n l):=by
 unfold iG
 split
 ·unfold Bv
  split
  ·rename_i e;exact jH (qJ _ _ _) e
  ·exact gU _
 ·exact qJ _ _ _
theorem ZH:uG (eB n l):=by
 unfold eB
 split
 ·exact VO
 ·split
  ·split
   ·exact gU _
   ·unfold RB
    split
    ·rename_i e;exact jH Fj e
    ·exact gU _
  ·split
   ·exact gU _
   ·split
    ·exact jf (by decide)
    ·exact gU _
theorem PN:uG (kY (eB n l)):=by
 unfold kY
 split
 ·rename_i e;exact jH ZH e
 ·exact gU _
theorem PO:∀ (f:Nat) (z:Pn) (l:List Sy),uG (gY n f z l)
 | 0,_,_=>jf (by decide)
 | f+1,z,l=>by
  rw [gY]
  split
  ·split
   ·rename_i e;exact jH Sn e
   ·exact PO f _ _
  ·exact gU _
variable {a:List Sy->bn Pn}
theorem GR (ha:∀ l,uG (a l)):∀ (f:Nat) (l:List Sy),uG (cO n a f l)
 | 0,_=>jf (by decide)
 | f+1,l=>by
  rw [cO]
  split
  ·split
   ·rename_i e;exact jH (GR ha f _) e
   ·exact gU _
  ·split
   ·rename_i e;exact jH (ha _) e
   ·exact PO _ _ _
theorem Cz (ha:∀ l,uG (a l)):∀ (f:Nat) (z:List Pn) (l:List Sy),uG (aR n a f z l)
 | 0,_,_=>jf (by decide)
 | f+1,z,l=>by
  rw [aR]
  split
  ·exact gU _
  ·split
   ·rename_i e;exact jH (GR ha _ _) e
   ·exact Cz ha f _ _
theorem VP {b c:Type} {g:b->c} {r:bn b} (h:uG r):uG (o5 g r):=by
 unfold o5
 split
 ·exact fun _ hy=>by cases hy;exact h _ rfl
 ·exact gU _
theorem ab7 (ha:∀ l,uG (a l)) (l:List Sy):uG (rowP n a l):=by
 unfold rowP
 split
 ·exact gU _
 ·split
  ·rename_i e;exact jH (GR ha _ _) e
  ·exact VP (Cz ha _ _ _)
theorem CB (ha:∀ l,uG (a l)) (sg:Int):∀ (f:Nat) (z:List Pn) (l:List Sy),uG (aX n a sg f z l)
 | 0,_,_=>jf (by decide)
 | f+1,z,l=>by
  rw [aX]
  split
  ·split
   ·rename_i e;exact jH (ha _) e
   ·exact CB ha sg f _ _
  ·exact gU _
theorem VQ (ha:∀ l,uG (a l)) (sg:Int) (g:List Pn->Pn) (l:List Sy):uG (ma n a sg g l):=by
 unfold ma
 split
 ·rename_i e;exact jH (ha _) e
 ·exact VP (CB ha _ _ _ _)
theorem Fp (ha:∀ l,uG (a l)) (l:List Sy):uG (bU n a l):=VQ (VQ (ab7 ha) _ _) _ _ _
theorem PQ:∀ (k:Nat) (l:List Sy),uG (bH n k l)
 | 0,l=>by
  rw [bH]
  split
  ·exact jf (by decide)
  ·exact PN
 | k+1,l=>by
  rw [bH]
  split
  ·unfold DZ
   split
   ·rename_i e;exact jH (Fp (PQ k) _) e
   ·split
    ·exact gU _
    ·exact jf (by decide)
  ·exact PN
end
theorem GU {s:ByteArray} {x:Int×Int} (h:aZ s=.error x):x.1≠0:=by
 unfold aZ at h
 split at h
 ·cases h;decide
 ·unfold nR at h
  split at h
  ·rename_i e
   cases h
   exact Fp (PQ 8) _ _ e
  ·split at h
   ·split at h
    ·cases h;decide
    ·cases h
   ·cases h;exact (by decide:(2:Int)≠0)
end Go.Proofs.YtfolanohokflkaaGreatDoor
namespace Go.Proofs.YtfolanohokflkaaGreatDoor
open Tm (eps)
section
variable {p q S:ByteArray} {n:Nat} {zp zq:Pn} {L:List Sy}
theorem ZI (hp:Rd p zp) (hq:Rd q zq) (hv:vals L=40::(vals (af p 0)++41::40::(vals (af q 0)++[41]))) {y:Pn} {l2:List Sy} (hx:rowP n (bH n 8) L=.ok (y,l2)):y=eU [zp,zq]/\vals l2=[]:=by
 obtain ⟨vL,ht⟩:=xc hv
 unfold rowP at hx
 rw [if_neg (by rw [vL];decide)] at hx
 split at hx
 ·cases hx
 ·rename_i y1 l1 e
  obtain ⟨e1,e2⟩:=J9 hp vL ht (by show kH 40=false;decide) e
  subst e1
  obtain ⟨h40',ht'⟩:=xc e2
  rw [aR,if_neg (by rw [h40'];decide)] at hx
  cases l1 with
  | nil=>simp [vals] at e2
  | cons x l1=>
   split at hx
   ·cases hx
   ·rename_i y2 l2' e3
    obtain ⟨e4,e5⟩:=J9 hq h40' ht' (by decide) e3
    subst e4
    have hl:l2'=[]:=by simpa [vals] using e5
    subst hl
    simp only [List.length_cons] at hx
    rw [aR,if_pos (by decide)] at hx
    cases hx
    exact ⟨rfl,rfl⟩
theorem Nk (hp:Rd p zp) (hq:Rd q zq) (hv:vals L=40::(vals (af p 0)++41::40::(vals (af q 0)++[41]))) {y:Pn} {l2:List Sy} (hx:bU n (bH n 8) L=.ok (y,l2)):y=eU [zp,zq]/\vals l2=[]:=by
 refine w_ (y0:=eU [zp,zq]) (r:=[]) (fun y l2 e=>?_) (by decide) hx
 exact w_ (y0:=eU [zp,zq]) (r:=[]) (fun y l2 e=>ZI hp hq hv e) (by decide) e
theorem Sq {f:Nat} (hp:Rd p zp) (hv:vals L=40::(vals (af p 0)++[41,42])) {y:Pn} {l2:List Sy} (hx:cO n (bH n 8) (f+1) L=.ok (y,l2)):y=x9 zp (0,none,2)/\vals l2=[]:=by
 obtain ⟨vL,ht⟩:=xc hv
 rw [cO,if_neg (by rw [vL];decide)] at hx
 split at hx
 ·cases hx
 ·rename_i y0 l0 e
  obtain ⟨e1,e2⟩:=J8 (r:=[42]) hp vL ht e
  subst e1
  obtain ⟨O_,ht2⟩:=xc e2
  cases l0 with
  | nil=>simp [vals] at e2
  | cons x l0=>
   have hl:l0=[]:=by simpa [vals] using ht2
   subst hl
   simp only [List.length_cons,List.length_nil] at hx
   rw [gY,if_pos (by rw [O_];decide)] at hx
   have e3:dM n [x]=.ok ((0,none,2),[]):=by
    unfold dM
    rw [O_,if_neg (by decide),if_pos rfl]
    rfl
   rw [e3] at hx
   dsimp only at hx
   rw [gY,if_neg (by decide)] at hx
   cases hx
   exact ⟨rfl,rfl⟩
theorem Ke (hp:Rd p zp) (hv:vals L=40::(vals (af p 0)++[41,42])) {y:Pn} {l2:List Sy} (hx:bU n (bH n 8) L=.ok (y,l2)):y=x9 zp (0,none,2)/\vals l2=[]:=by
 obtain ⟨vL,_⟩:=xc hv
 refine w_ (y0:=x9 zp (0,none,2)) (r:=[]) (fun y l2 e=>?_) (by decide) hx
 refine w_ (y0:=x9 zp (0,none,2)) (r:=[]) (fun y l2 e=>?_) (by decide) e
 exact J_ (by rw [vL];decide) (fun f _ _ e=>Sq hp hv e) (by decide) e
end
section
variable {p q S:ByteArray} {P Q T:Pt}
theorem VR (hS:S.data.toList=40::(p.data.toList++41::40::(q.data.toList++[41]))):vals (af S 0)=40::(vals (af p 0)++41::40::(vals (af q 0)++[41])):=by
 have s0:=lL (S:=S) (X:=[]) (b:=40) (by rw [hS];rfl) (by decide)
 have s1:=yz (S:=S) (B:=p) (X:=[40]) (b:=41) (Y:=40::(q.data.toList++[41])) (by rw [hS];rfl) (by decide)
 have s2:=lL (S:=S) (X:=[40]++p.data.toList) (b:=41) (Y:=40::(q.data.toList++[41])) (by rw [hS];simp) (by decide)
 have s4:=lL (S:=S) (X:=[40]++p.data.toList++[41]) (b:=40) (Y:=q.data.toList++[41]) (by rw [hS];simp) (by decide)
 have s5:=yz (S:=S) (B:=q) (X:=[40]++p.data.toList++[41]++[40]) (b:=41) (Y:=[]) (by rw [hS];simp) (by decide)
 have s6:=lL (S:=S) (X:=[40]++p.data.toList++[41]++[40]++q.data.toList) (b:=41) (Y:=[]) (by rw [hS];simp) (by decide)
 have s7:=J7 (S:=S) (X:=[40]++p.data.toList++[41]++[40]++q.data.toList++[41]) (by rw [hS];simp)
 rw [show (0:Nat)=([]:List UInt8).length from rfl,s0]
 rw [List.nil_append,s1,s2,s4,s5,s6,s7]
 rfl
theorem Sr (hS:S.data.toList=40::(p.data.toList++[41,42])):vals (af S 0)=40::(vals (af p 0)++[41,42]):=by
 have s0:=lL (S:=S) (X:=[]) (b:=40) (by rw [hS];rfl) (by decide)
 have s1:=yz (S:=S) (B:=p) (X:=[40]) (b:=41) (Y:=[42]) (by rw [hS];rfl) (by decide)
 have s2:=lL (S:=S) (X:=[40]++p.data.toList) (b:=41) (Y:=[42]) (by rw [hS];simp) (by decide)
 have s3:=lL (S:=S) (X:=[40]++p.data.toList++[41]) (b:=42) (Y:=[]) (by rw [hS];simp) (by decide)
 have s4:=J7 (S:=S) (X:=[40]++p.data.toList++[41]++[42]) (by rw [hS];simp)
 rw [show (0:Nat)=([]:List UInt8).length from rfl,s0]
 rw [List.nil_append,s1,s2,s3,s4]
 rfl
theorem VS (hp:aZ p=.ok P) (hq:aZ q=.ok Q) (hS:S.data.toList=40::(p.data.toList++41::40::(q.data.toList++[41]))) (h:aZ S=.ok T):T=.row [P,Q]:=by
 obtain ⟨zp,rp,ep⟩:=PM hp
 obtain ⟨zq,rq,eq⟩:=PM hq
 rw [Ka (z:=eU [zp,zq]) h fun y l2 e=>Nk rp rq (VR hS) e,<-ep,<-eq]
 rfl
theorem Sv (hp:aZ p=.ok P) (hS:S.data.toList=40::(p.data.toList++[41,42])) (h:aZ S=.ok T):T=.rep P 0 none:=by
 obtain ⟨zp,rp,ep⟩:=PM hp
 rw [Ka (z:=x9 zp (0,none,2)) h fun y l2 e=>Ke rp (Sr hS) e,<-ep]
 rfl
end
theorem VT {P Q:Pt} (hp:oZ P) (hq:oZ Q) {cs:List Int} (hc:dU cs):qZ (.row [P,Q]) cs=true↔∃ u v,cs=u++v/\qZ P u=true/\qZ Q v=true:=by
 have h:oZ (.row [P,Q]):=by simp [oZ,Br,hp,hq]
 rw [mr h hc,dL,wB]
 show wd (au (dL P) (au (dL Q) eps)) cs↔_
 rw [ai,ku]
 constructor
 ·rintro ⟨u,v,e,h1,h2⟩
  subst e
  exact ⟨u,v,rfl,(mr hp hc.left).2 h1,(mr hq hc.right).2 h2⟩
 ·rintro ⟨u,v,e,h1,h2⟩
  subst e
  exact ⟨u,v,rfl,(mr hp hc.left).1 h1,(mr hq hc.right).1 h2⟩
theorem SA {P:Pt} (hp:oZ P) {cs:List Int} (hc:dU cs):qZ (.rep P 0 none) cs=true↔Star (wd (dL P)) cs:=by
 have h:oZ (.rep P 0 none):=by simp [oZ,hp]
 rw [mr h hc,dL]
 rw [abK (qA hp).ok 0 none hc,Bu]
 constructor
 ·rintro ⟨j,_,_,h⟩;exact ⟨j,h⟩
 ·rintro ⟨j,h⟩;exact ⟨j,Nat.zero_le _,(fun k e=>by cases e),h⟩
end Go.Proofs.YtfolanohokflkaaGreatDoor
namespace Go.Proofs.YtfolanohokflkaaGreatDoor
theorem PR {s:ByteArray} {a y k:Nat} (hy:y<=s.size) (hk:a+k<y):(s.extract a y).get! k=s.get! (a+k):=by
 have h1:k<(s.extract a y).size:=by rw [ByteArray.size_extract];omega
 rw [pz _ _ h1,pz _ _ (by omega:a+k<s.size)]
 simp [ByteArray.getElem_extract]
section
variable {s:ByteArray} {a x y:Nat}
theorem Af (hy:y<=s.size):(s.extract a y).size=y - a:=by rw [ByteArray.size_extract];omega
theorem xg (hy:y<=s.size) (ha:a<=x):∀ (m k:Nat) (n:Int),eD (s.extract a y) (x - a) m k n=eD s x m k n\/(eD (s.extract a y) (x - a) m k n=none/\y<x+k+m)
 | 0,_,_=>.inl rfl
 | m+1,k,n=>by
  by_cases h:x+k<y
  ·have e:nG (s.extract a y) (x - a+k)=nG s (x+k):=by
    unfold nG
    rw [PR hy (by omega),Af hy,show a+(x - a+k)=x+k from by omega]
    by_cases q:(s.get! (x+k)).toNat / 64=2
    ·rw [if_pos ⟨by omega,q⟩,if_pos ⟨by omega,q⟩]
    ·rw [if_neg fun z=>q z.2,if_neg fun z=>q z.2]
   rw [eD,eD,e]
   split
   ·exact .inl rfl
   ·rcases xg hy ha m (k+1) (64*n+nG s (x+k)) with h1 | ⟨h1,h2⟩
    ·exact .inl h1
    ·exact .inr ⟨h1,by omega⟩
  ·refine .inr ⟨jX (jK ?_),by omega⟩
   rw [Af hy]
   omega
theorem GV {size:Nat} {least:Int} {o o':Option Int} (h:o=o'\/(o=none/\y<x+size)) (hw:(x:Int)+(jE size least o').2<=(y:Int)):jE size least o=jE size least o':=by
 rcases h with h | ⟨h,h2⟩
 ·rw [h]
 ·subst h
  cases o' with
  | none=>rfl
  | some n=>
   rw [jE] at hw ⊢
   rw [jE]
   by_cases q1:n<least
   ·rw [if_pos q1]
   ·rw [if_neg q1] at hw ⊢
    by_cases q2:aD n=true
    ·rw [if_pos q2] at hw
     exact absurd hw (by dsimp only;omega)
    ·rw [if_neg q2]
theorem Nl (hy:y<=s.size) (ha:a<=x) (hx:x<y) (hw:x+(Utf8.decode s x).2<=y):Utf8.decode (s.extract a y) (x - a)=Utf8.decode s x:=by
 have hw':(x:Int)+(rA s x).2<=(y:Int):=by rw [jh];dsimp only;omega
 have g0:(s.extract a y).get! (x - a)=s.get! x:=by rw [PR hy (by omega),show a+(x - a)=x from by omega]
 have e:rA (s.extract a y) (x - a)=rA s x:=by
  unfold rA at hw' ⊢
  rw [g0]
  simp only [] at hw' ⊢
  split
  ·rfl
  ·rename_i q1
   rw [if_neg q1] at hw'
   split
   ·rename_i q2
    rw [if_pos q2] at hw'
    exact GV ((xg hy ha 1 1 _).imp_right fun h=>⟨h.1,by omega⟩) hw'
   ·rename_i q2
    rw [if_neg q2] at hw'
    split
    ·rename_i q3
     rw [if_pos q3] at hw'
     exact GV ((xg hy ha 2 1 _).imp_right fun h=>⟨h.1,by omega⟩) hw'
    ·rename_i q3
     rw [if_neg q3] at hw'
     split
     ·rename_i q4
      rw [if_pos q4] at hw'
      exact GV ((xg hy ha 3 1 _).imp_right fun h=>⟨h.1,by omega⟩) hw'
     ·rfl
 rw [jh,jh] at e
 exact Prod.ext (Int.ofNat.inj (congrArg Prod.fst e)) (Int.ofNat.inj (congrArg Prod.snd e))
end
inductive D9 (s:ByteArray):Nat->Nat->Nat->Prop where
 | here (x:Nat):D9 s x x 0
 | more {x y k:Nat}:x<s.size->D9 s (x+(Utf8.decode s x).2) y k->D9 s x y (k+1)
theorem D9.le {s:ByteArray} {x y k:Nat} (h:D9 s x y k):x<=y:=by
 induction h with
 | here x=>exact Nat.le_refl _
 | more hx _ ih=>have:=dz s _ hx;omega
theorem D9.fits {s:ByteArray} {x y k:Nat} (h:D9 s x y k) (hx:x<=s.size):y<=s.size:=by
 induction h with
 | here x=>exact hx
 | more hlt _ ih=>exact ih (dz s _ hlt).2
theorem D9.piece {s:ByteArray} {x y k:Nat} (h:D9 s x y k) (hx:x<=s.size):∀ a,a<=x->∃ V,V.length=k/\vals (af s x)=V++vals (af s y)/\vals (af (s.extract a y) (x - a))=V:=by
 induction h with
 | here x=>exact fun a ha=>⟨[],rfl,rfl,by rw [dA _ _ (by rw [Af hx];exact Nat.le_refl _)];rfl⟩
 | more hlt hc ih=>
  rename_i x y k
  intro a ha
  have hw:=dz s x hlt
  have hle:=hc.le
  have hfit:=hc.fits hw.2
  obtain ⟨V,h1,h2,h3⟩:=ih hw.2 a (by omega)
  refine ⟨((Utf8.decode s x).1:Int)::V,by simp [h1],?_,?_⟩
  ·rw [dn s x hlt]
   show ((Utf8.decode s x).1:Int)::vals (af s (x+(Utf8.decode s x).2))=_
   rw [h2];rfl
  ·rw [dn _ (x - a) (by rw [Af hfit];omega),Nl hfit ha (by omega) hle]
   show ((Utf8.decode s x).1:Int)::vals (af (s.extract a y) (x - a+(Utf8.decode s x).2))=_
   rw [show x - a+(Utf8.decode s x).2=x+(Utf8.decode s x).2 - a from by omega,h3]
def ry (s:ByteArray) (x:Nat):List Nat:=(af s x).map (·.fr)++[s.size]
def Me (s:ByteArray) (x k:Nat):Nat:=(ry s x).getD k s.size
theorem qb {s:ByteArray} {x:Nat} (h:x<s.size):ry s x=x::ry s (x+(Utf8.decode s x).2):=by
 unfold ry
 rw [dn s x h]
 rfl
theorem qc {s:ByteArray} {x:Nat} (h:s.size<=x):ry s x=[s.size]:=by
 unfold ry
 rw [dA s x h]
 rfl
theorem xh {s:ByteArray} {x:Nat} (h:x<=s.size):Me s x 0=x:=by
 unfold Me
 by_cases q:x<s.size
 ·rw [qb q];rfl
 ·rw [qc (by omega)];show s.size=x;omega
theorem CE {s:ByteArray} {x k:Nat} (h:x<s.size):Me s x (k+1)=Me s (x+(Utf8.decode s x).2) k:=by
 unfold Me
 rw [qb h]
 rfl
theorem Ag {s:ByteArray}:∀ (k x:Nat),x<=s.size->k<=(af s x).length->D9 s x (Me s x k) k
 | 0,x,hx,_=>by rw [xh hx];exact .here _
 | k+1,x,hx,hk=>by
  have hlt:x<s.size:=by
   refine Classical.byContradiction fun q=>?_
   rw [dA s x (by omega)] at hk
   simp at hk
  rw [CE hlt]
  rw [dn s x hlt] at hk
  exact .more hlt (Ag k _ (dz s x hlt).2 (by simpa using hk))
theorem abd {s:ByteArray}:∀ (i x j:Nat),x<=s.size->i<=(af s x).length->Me s x (i+j)=Me s (Me s x i) j/\(af s x).length=i+(af s (Me s x i)).length
 | 0,x,j,hx,_=>by rw [xh hx,Nat.zero_add,Nat.zero_add];exact ⟨rfl,rfl⟩
 | i+1,x,j,hx,hk=>by
  have hlt:x<s.size:=by
   refine Classical.byContradiction fun q=>?_
   rw [dA s x (by omega)] at hk
   simp at hk
  rw [dn s x hlt] at hk ⊢
  rw [show i+1+j=i+j+1 from by omega,CE hlt,CE hlt]
  obtain ⟨h1,h2⟩:=abd i (x+(Utf8.decode s x).2) j (dz s x hlt).2 (by simpa using hk)
  exact ⟨h1,by simp only [List.length_cons];omega⟩
def pt (s:ByteArray) (k:Nat):Nat:=Me s 0 k
theorem abe {s:ByteArray} {i:Nat} (h:i<=(af s 0).length):pt s i<=s.size:=(Ag i 0 (Nat.zero_le _) h).fits (Nat.zero_le _)
theorem Nn {s:ByteArray} {i j:Nat} (hij:i<=j) (hj:j<=(af s 0).length):vals (af (s.extract (pt s i) (pt s j)) 0)=((vals (af s 0)).take j).drop i:=by
 obtain ⟨V0,a1,a2,_⟩:=(Ag i 0 (Nat.zero_le s.size) (by omega)).piece (Nat.zero_le _) 0 (Nat.le_refl _)
 obtain ⟨e1,e2⟩:=abd (s:=s) i 0 (j - i) (Nat.zero_le _) (by omega)
 have hp:=abe (s:=s) (i:=i) (by omega)
 obtain ⟨V,b1,b2,b3⟩:=(Ag (s:=s) (j - i) (pt s i) hp (by unfold pt;omega)).piece hp (pt s i) (Nat.le_refl _)
 have e3:Me s (pt s i) (j - i)=pt s j:=by
  show Me s (Me s 0 i) (j - i)=Me s 0 j
  rw [<-e1,show i+(j - i)=j from by omega]
 rw [e3] at b2 b3
 rw [Nat.sub_self] at b3
 rw [b3,a2]
 show V=((V0++vals (af s (pt s i))).take j).drop i
 rw [b2]
 rw [<-List.append_assoc,show j=(V0++V).length from by rw [List.length_append];omega,List.take_left,<-a1,List.drop_left]
theorem VU (l:List Sy):(vals l).length=l.length:=by simp [vals]
theorem SB {P:List Int->Prop} {cs:List Int} {R:Nat->Prop} (hR:∀ i j,i<j->j<=cs.length->R i->P ((cs.take j).drop i)->R j) {w:List Int} (hs:Star P w):∀ i j,i<=j->j<=cs.length->R i->w=(cs.take j).drop i->R j:=by
 induction hs with
 | nil=>
  intro i j hij hj hi e
  have:((cs.take j).drop i).length=0:=by rw [<-e];rfl
  rw [List.length_drop,List.length_take] at this
  have:i=j:=by omega
  exact this▸hi
 | more hu hv ih=>
  rename_i u v
  intro i j hij hj hi e
  have hl:u.length+v.length=j - i:=by
   have:=congrArg List.length e
   rw [List.length_append,List.length_drop,List.length_take] at this
   omega
  have eu:u=(cs.take (i+u.length)).drop i:=by
   have:u=((cs.take j).drop i).take u.length:=by rw [<-e,List.take_left]
   conv=>lhs;rw [this]
   rw [List.drop_take,List.take_take,List.drop_take]
   congr 1
   omega
  have ev:v=(cs.take j).drop (i+u.length):=by
   have:v=((cs.take j).drop i).drop u.length:=by rw [<-e,List.drop_left]
   conv=>lhs;rw [this]
   rw [List.drop_drop]
  refine ih (i+u.length) j (by omega) hj ?_ ev
  by_cases h0:u.length=0
  ·rw [h0];exact hi
  ·exact hR i _ (by omega) (by omega) hi (eu▸hu)
theorem Np {P:List Int->Prop} {cs:List Int} {R:Nat->Prop} (h0:R 0) (hR:∀ j,0<j->j<=cs.length->(R j↔∃ i,i<j/\R i/\P ((cs.take j).drop i))):R cs.length↔Star P cs:=by
 constructor
 ·intro h
  have key:∀ j,j<=cs.length->R j->Star P (cs.take j):=by
   intro j
   induction j using Nat.strongRecOn with
   | ind j ih=>
    intro hj hr
    by_cases q:j=0
    ·subst q;rw [List.take_zero];exact .nil
    ·obtain ⟨i,hi,hri,hp⟩:=(hR j (by omega) hj).1 hr
     have hs:=ih i hi (by omega) hri
     have e:cs.take j=cs.take i++(cs.take j).drop i:=by
      conv=>lhs;rw [<-List.take_append_drop i (cs.take j)]
      rw [List.take_take,Nat.min_eq_left (by omega)]
     rw [e]
     have h1:Star P ((cs.take j).drop i):=by
      have:=Star.more hp (Star.nil (P:=P))
      rwa [List.append_nil] at this
     exact hs.append h1
  have:=key cs.length (Nat.le_refl _) h
  rwa [List.take_length] at this
 ·intro h
  exact SB (fun i j hij hj hi hp=>(hR j (by omega) hj).2 ⟨i,hij,hi,hp⟩) h 0 cs.length (Nat.zero_le _) (Nat.le_refl _) h0 (by rw [List.take_length,List.drop_zero])
end Go.Proofs.YtfolanohokflkaaGreatDoor
namespace Go.Proofs.YtfolanohokflkaaGreatDoor
theorem Nq {s:ByteArray}:∀ (d x:Nat),s.size - x<=d->x<=s.size->∀ y∈ry s x,x<=y/\y<=s.size
 | 0,x,hd,hx,y,hy=>by
  rw [qc (by omega)] at hy
  simp at hy
  omega
 | d+1,x,hd,hx,y,hy=>by
  by_cases h:x<s.size
  ·have hw:=dz s x h
   rw [qb h] at hy
   rcases List.mem_cons.1 hy with e | e
   ·omega
   ·have:=Nq d _ (by omega) hw.2 y e
    omega
  ·rw [qc (by omega)] at hy
   simp at hy
   omega
theorem vC {s:ByteArray}:∀ (d x:Nat),s.size - x<=d->x<=s.size->(ry s x).Pairwise (· < ·)
 | 0,x,hd,hx=>by rw [qc (by omega)];simp
 | d+1,x,hd,hx=>by
  by_cases h:x<s.size
  ·have hw:=dz s x h
   rw [qb h,List.pairwise_cons]
   refine ⟨fun y hy=>?_,vC d _ (by omega) hw.2⟩
   have:=Nq d _ (by omega) hw.2 y hy
   omega
  ·rw [qc (by omega)];simp
def pts (s:ByteArray):List Nat:=ry s 0
theorem xn (s:ByteArray):(pts s).length=(af s 0).length+1:=by simp [pts,ry]
theorem ZJ (s:ByteArray) (k:Nat):(pts s).getD k s.size=pt s k:=rfl
theorem D_:∀ {l:List Nat} (n:Nat),l.Pairwise (· < ·)->(∀ y∈l,y<n)->(List.range n).filter (fun i=>decide (i∈l))=l:=by
 intro l n
 induction n generalizing l with
 | zero=>
  intro _ h
  cases l with
  | nil=>rfl
  | cons a l=>exact absurd (h a (by simp)) (by omega)
 | succ n ih=>
  intro hp h
  rw [List.range_succ,List.filter_append]
  by_cases hm:n∈l
  ·have hl:l=l.filter (fun i=>decide (i<n))++[n]:=by
    obtain ⟨a,b,rfl⟩:=List.append_of_mem hm
    rw [List.pairwise_append] at hp
    have hb:b=[]:=by
     cases b with
     | nil=>rfl
     | cons x b=>
      have h1:=(List.pairwise_cons.1 hp.2.1).1 x (by simp)
      have h2:=h x (by simp)
      omega
    subst hb
    have ha:∀ x∈a,x<n:=fun x hx=>hp.2.2 x hx n (by simp)
    rw [List.filter_append,List.filter_eq_self.2 (by simpa using ha)]
    simp
   have hp':(l.filter (fun i=>decide (i<n))).Pairwise (· < ·):=hp.filter _
   have ih':=ih (l:=l.filter (fun i=>decide (i<n))) hp' (fun y hy=>by simpa using (List.mem_filter.1 hy).2)
   have e1:(List.range n).filter (fun i=>decide (i∈l))=(List.range n).filter (fun i=>decide (i∈l.filter (fun i=>decide (i<n)))):=by
    apply List.filter_congr
    intro x hx
    have:=List.mem_range.1 hx
    simp [this]
   rw [e1,ih']
   conv=>rhs;rw [hl]
   simp [hm]
  ·have h':∀ y∈l,y<n:=fun y hy=>by
    have:=h y hy
    have:y≠n:=fun e=>hm (e▸hy)
    omega
   rw [ih hp h']
   simp [hm]
def lM (s:ByteArray) (i:Nat):List Nat:=(List.range i).filter (fun i=>decide (i∈pts s))
theorem ZK (s:ByteArray):lM s (s.size+1)=pts s:=D_ _ (vC s.size 0 (by omega) (by omega)) fun y hy=>by
 have:=Nq s.size 0 (by omega) (by omega) y hy
 omega
theorem ZL {s:ByteArray} {i:Nat} (h:i∈pts s):lM s (i+1)=lM s i++[i]:=by
 unfold lM
 rw [List.range_succ,List.filter_append]
 simp [h]
theorem ab8 {s:ByteArray} {i:Nat} (h:i∉pts s):lM s (i+1)=lM s i:=by
 unfold lM
 rw [List.range_succ,List.filter_append]
 simp [h]
theorem ZM (s:ByteArray) (i:Nat):(lM s i).length<=i:=by
 have:=List.length_filter_le (fun i=>decide (i∈pts s)) (List.range i)
 rw [List.length_range] at this
 exact this
theorem uj (s:ByteArray):0<(pts s).length:=by rw [xn];omega
theorem SC (s:ByteArray):(pts s)[0]'(uj s)=0:=by
 have h:=xh (s:=s) (x:=0) (Nat.zero_le _)
 unfold Me at h
 have hp:=uj s
 unfold pts at hp
 have e:(ry s 0).getD 0 s.size=(ry s 0)[0]:=by simp [List.getD,hp]
 exact e.symm.trans h
theorem Kg (s:ByteArray):(pts s)[(pts s).length - 1]'(by have:=uj s;omega)=s.size:=by
 unfold pts ry
 simp
end Go.Proofs.YtfolanohokflkaaGreatDoor
