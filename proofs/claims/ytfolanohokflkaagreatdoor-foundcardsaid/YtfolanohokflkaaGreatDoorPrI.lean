import Derived.Test.YtfolanohokflkaaGreatDoorPSpec
namespace Go.Proofs.YtfolanohokflkaaGreatDoor
def vals (l:List Sy):List Int:=l.map fun x=>(x.c:Int)
end Go.Proofs.YtfolanohokflkaaGreatDoor
namespace Go.Proofs.YtfolanohokflkaaGreatDoor
section
variable {p:ByteArray} {n:Nat} {z:Pn} {r:List Int} {L:List Sy}
end
section
variable {p q:ByteArray} {n:Nat} {zp zq:Pn} {L:List Sy}
end
section
variable {p q S:ByteArray} {P Q T:Pt}
end
def WC (P:Pt) (cs:List Int):Bool:=cB (aJ (dE P) cs)
end Go.Proofs.YtfolanohokflkaaGreatDoor
namespace Go.Proofs.YtfolanohokflkaaGreatDoor
def uj {a:Type} (r:bu a):Prop:=∀ x,r=.error x->x.1≠0
section
variable {n:Nat} {l:List Sy}
theorem gM {a:Type} (v:a×List Sy):uj (.ok v:bu a):=fun _ h=>by cases h
theorem iX {a:Type} {e:Int} (h:e≠0):uj (bad e n l:bu a):=fun x hx=>by unfold bad at hx;cases hx;exact h
theorem jw {a b:Type} {r:bu a} {x:Int×Int} (h:uj r) (e:r=.error x):uj (.error x:bu b):=fun _ hy=>by cases hy;exact h _ e
theorem WE (least:Int):uj (bU n least l):=by
 unfold bU
 split
 ·split
  ·exact iX (by decide)
  ·exact gM _
 ·exact iX (by decide)
theorem Lg (m:jY):uj (gT n m l):=by
 unfold gT
 split
 ·exact gM _
 ·exact iX (by decide)
theorem Sj:uj (jc n l):=by
 unfold jc
 split
 ·rename_i e;exact jw (WE _) e
 ·split
  ·split
   ·exact gM _
   ·split
    ·rename_i e;exact jw (WE _) e
    ·exact Lg _
  ·exact Lg _
theorem Sk:uj (eU n l):=by
 unfold eU
 split
 ·exact Sj
 ·split
  ·exact gM _
  ·split
   ·exact gM _
   ·exact gM _
theorem Zv:uj (oO n l):=by
 unfold oO
 split
 ·unfold lK
  split
  ·exact iX (by decide)
  ·split
   ·exact gM _
   ·exact iX (by decide)
 ·exact iX (by decide)
theorem FD:uj (fE n l):=by
 unfold fE
 split
 ·exact Zv
 ·split
  ·exact gM _
  ·split
   ·exact gM _
   ·exact iX (by decide)
theorem Lh:uj (fu n l):=by
 unfold fu
 split
 ·exact FD
 ·split
  ·exact iX (by decide)
  ·exact gM _
theorem Zw:uj (kH n l):=by
 unfold kH
 split
 ·exact gM _
 ·split
  ·rename_i e;exact jw Lh e
  ·split
   ·split
    ·rename_i e;exact jw Lh e
    ·split
     ·exact iX (by decide)
     ·exact gM _
   ·exact gM _
theorem qy:∀ (f:Nat) (s:af) (l:List Sy),uj (bR n f s l)
 | 0,_,_=>iX (by decide)
 | f+1,s,l=>by
  rw [bR]
  split
  ·exact gM _
  ·split
   ·rename_i e;exact jw Zw e
   ·exact qy f _ _
theorem WG:uj (jP n l):=by
 unfold jP
 split
 ·unfold Be
  split
  ·rename_i e;exact jw (qy _ _ _) e
  ·exact gM _
 ·exact qy _ _ _
theorem Zx:uj (gp n l):=by
 unfold gp
 split
 ·exact WG
 ·split
  ·split
   ·exact gM _
   ·unfold QS
    split
    ·rename_i e;exact jw FD e
    ·exact gM _
  ·split
   ·exact gM _
   ·split
    ·exact iX (by decide)
    ·exact gM _
theorem Qe:uj (og (gp n l)):=by
 unfold og
 split
 ·rename_i e;exact jw Zx e
 ·exact gM _
theorem Qf:∀ (f:Nat) (z:Pn) (l:List Sy),uj (kI n f z l)
 | 0,_,_=>iX (by decide)
 | f+1,z,l=>by
  rw [kI]
  split
  ·split
   ·rename_i e;exact jw Sk e
   ·exact Qf f _ _
  ·exact gM _
variable {a:List Sy->bu Pn}
theorem Hf (ha:∀ l,uj (a l)):∀ (f:Nat) (l:List Sy),uj (dZ n a f l)
 | 0,_=>iX (by decide)
 | f+1,l=>by
  rw [dZ]
  split
  ·split
   ·rename_i e;exact jw (Hf ha f _) e
   ·exact gM _
  ·split
   ·rename_i e;exact jw (ha _) e
   ·exact Qf _ _ _
theorem Dg (ha:∀ l,uj (a l)):∀ (f:Nat) (z:List Pn) (l:List Sy),uj (bM n a f z l)
 | 0,_,_=>iX (by decide)
 | f+1,z,l=>by
  rw [bM]
  split
  ·exact gM _
  ·split
   ·rename_i e;exact jw (Hf ha _ _) e
   ·exact Dg ha f _ _
theorem WH {b c:Type} {g:b->c} {r:bu b} (h:uj r):uj (oI g r):=by
 unfold oI
 split
 ·exact fun _ hy=>by cases hy;exact h _ rfl
 ·exact gM _
theorem abS (ha:∀ l,uj (a l)) (l:List Sy):uj (rowP n a l):=by
 unfold rowP
 split
 ·exact gM _
 ·split
  ·rename_i e;exact jw (Hf ha _ _) e
  ·exact WH (Dg ha _ _ _)
theorem Dh (ha:∀ l,uj (a l)) (sg:Int):∀ (f:Nat) (z:List Pn) (l:List Sy),uj (bO n a sg f z l)
 | 0,_,_=>iX (by decide)
 | f+1,z,l=>by
  rw [bO]
  split
  ·split
   ·rename_i e;exact jw (ha _) e
   ·exact Dh ha sg f _ _
  ·exact gM _
theorem WI (ha:∀ l,uj (a l)) (sg:Int) (g:List Pn->Pn) (l:List Sy):uj (qI n a sg g l):=by
 unfold qI
 split
 ·rename_i e;exact jw (ha _) e
 ·exact WH (Dh ha _ _ _ _)
theorem FE (ha:∀ l,uj (a l)) (l:List Sy):uj (fO n a l):=WI (WI (abS ha) _ _) _ _ _
theorem Qg:∀ (k:Nat) (l:List Sy),uj (eD n k l)
 | 0,l=>by
  rw [eD]
  split
  ·exact iX (by decide)
  ·exact Qe
 | k+1,l=>by
  rw [eD]
  split
  ·unfold I6
   split
   ·rename_i e;exact jw (FE (Qg k) _) e
   ·split
    ·exact gM _
    ·exact iX (by decide)
  ·exact Qe
end
theorem Qh {s:ByteArray} {x:Int×Int} (h:bP s=.error x):x.1≠0:=by
 unfold bP at h
 split at h
 ·cases h;decide
 ·unfold pq at h
  split at h
  ·rename_i e
   cases h
   exact FE (Qg 8) _ _ e
  ·split at h
   ·split at h
    ·cases h;decide
    ·cases h
   ·cases h;exact (by decide:(2:Int)≠0)
end Go.Proofs.YtfolanohokflkaaGreatDoor
namespace Go.Proofs.YtfolanohokflkaaGreatDoor
theorem Qi {s:ByteArray} {a y k:Nat} (hy:y<=s.size) (hk:a+k<y):(s.extract a y).get! k=s.get! (a+k):=by
 have h1:k<(s.extract a y).size:=by rw [ByteArray.size_extract];omega
 rw [qP _ _ h1,qP _ _ (by omega:a+k<s.size)]
 simp [ByteArray.getElem_extract]
section
variable {s:ByteArray} {a x y:Nat}
theorem Ad (hy:y<=s.size):(s.extract a y).size=y - a:=by rw [ByteArray.size_extract];omega
theorem w_ (hy:y<=s.size) (ha:a<=x):∀ (m k:Nat) (n:Int),fC (s.extract a y) (x - a) m k n=fC s x m k n\/(fC (s.extract a y) (x - a) m k n=none/\y<x+k+m)
 | 0,_,_=>.inl rfl
 | m+1,k,n=>by
  by_cases h:x+k<y
  ·have e:tX (s.extract a y) (x - a+k)=tX s (x+k):=by
    unfold tX
    rw [Qi hy (by omega),Ad hy,show a+(x - a+k)=x+k from by omega]
    by_cases q:(s.get! (x+k)).toNat / 64=2
    ·rw [if_pos ⟨by omega,q⟩,if_pos ⟨by omega,q⟩]
    ·rw [if_neg fun z=>q z.2,if_neg fun z=>q z.2]
   rw [fC,fC,e]
   split
   ·exact .inl rfl
   ·rcases w_ hy ha m (k+1) (64*n+tX s (x+k)) with h1 | ⟨h1,h2⟩
    ·exact .inl h1
    ·exact .inr ⟨h1,by omega⟩
  ·refine .inr ⟨jL (mZ ?_),by omega⟩
   rw [Ad hy]
   omega
theorem Hg {size:Nat} {least:Int} {o o':Option Int} (h:o=o'\/(o=none/\y<x+size)) (hw:(x:Int)+(jq size least o').2<=(y:Int)):jq size least o=jq size least o':=by
 rcases h with h | ⟨h,h2⟩
 ·rw [h]
 ·subst h
  cases o' with
  | none=>rfl
  | some n=>
   rw [jq] at hw ⊢
   rw [jq]
   by_cases q1:n<least
   ·rw [if_pos q1]
   ·rw [if_neg q1] at hw ⊢
    by_cases q2:aG n=true
    ·rw [if_pos q2] at hw
     exact absurd hw (by dsimp only;omega)
    ·rw [if_neg q2]
theorem NH (hy:y<=s.size) (ha:a<=x) (hx:x<y) (hw:x+(Utf8.decode s x).2<=y):Utf8.decode (s.extract a y) (x - a)=Utf8.decode s x:=by
 have hw':(x:Int)+(yB s x).2<=(y:Int):=by rw [mF];dsimp only;omega
 have g0:(s.extract a y).get! (x - a)=s.get! x:=by rw [Qi hy (by omega),show a+(x - a)=x from by omega]
 have e:yB (s.extract a y) (x - a)=yB s x:=by
  unfold yB at hw' ⊢
  rw [g0]
  simp only [] at hw' ⊢
  split
  ·rfl
  ·rename_i q1
   rw [if_neg q1] at hw'
   split
   ·rename_i q2
    rw [if_pos q2] at hw'
    exact Hg ((w_ hy ha 1 1 _).imp_right fun h=>⟨h.1,by omega⟩) hw'
   ·rename_i q2
    rw [if_neg q2] at hw'
    split
    ·rename_i q3
     rw [if_pos q3] at hw'
     exact Hg ((w_ hy ha 2 1 _).imp_right fun h=>⟨h.1,by omega⟩) hw'
    ·rename_i q3
     rw [if_neg q3] at hw'
     split
     ·rename_i q4
      rw [if_pos q4] at hw'
      exact Hg ((w_ hy ha 3 1 _).imp_right fun h=>⟨h.1,by omega⟩) hw'
     ·rfl
 rw [mF,mF] at e
 exact Prod.ext (Int.ofNat.inj (congrArg Prod.fst e)) (Int.ofNat.inj (congrArg Prod.snd e))
end
inductive DZ (s:ByteArray):Nat->Nat->Nat->Prop where
 | here (x:Nat):DZ s x x 0
 | more {x y k:Nat}:x<s.size->DZ s (x+(Utf8.decode s x).2) y k->DZ s x y (k+1)
theorem DZ.le {s:ByteArray} {x y k:Nat} (h:DZ s x y k):x<=y:=by
 induction h with
 | here x=>exact Nat.le_refl _
 | more hx _ ih=>have:=dA s _ hx;omega
theorem DZ.fits {s:ByteArray} {x y k:Nat} (h:DZ s x y k) (hx:x<=s.size):y<=s.size:=by
 induction h with
 | here x=>exact hx
 | more hlt _ ih=>exact ih (dA s _ hlt).2
theorem DZ.piece {s:ByteArray} {x y k:Nat} (h:DZ s x y k) (hx:x<=s.size):∀ a,a<=x->∃ V,V.length=k/\vals (ah s x)=V++vals (ah s y)/\vals (ah (s.extract a y) (x - a))=V:=by
 induction h with
 | here x=>exact fun a ha=>⟨[],rfl,rfl,by rw [dW _ _ (by rw [Ad hx];exact Nat.le_refl _)];rfl⟩
 | more hlt hc ih=>
  rename_i x y k
  intro a ha
  have hw:=dA s x hlt
  have hle:=hc.le
  have hfit:=hc.fits hw.2
  obtain ⟨V,h1,h2,h3⟩:=ih hw.2 a (by omega)
  refine ⟨((Utf8.decode s x).1:Int)::V,by simp [h1],?_,?_⟩
  ·rw [dV s x hlt]
   show ((Utf8.decode s x).1:Int)::vals (ah s (x+(Utf8.decode s x).2))=_
   rw [h2];rfl
  ·rw [dV _ (x - a) (by rw [Ad hfit];omega),NH hfit ha (by omega) hle]
   show ((Utf8.decode s x).1:Int)::vals (ah (s.extract a y) (x - a+(Utf8.decode s x).2))=_
   rw [show x - a+(Utf8.decode s x).2=x+(Utf8.decode s x).2 - a from by omega,h3]
def qM (s:ByteArray) (x:Nat):List Nat:=(ah s x).map (·.fr)++[s.size]
def LD (s:ByteArray) (x k:Nat):Nat:=(qM s x).getD k s.size
theorem pO {s:ByteArray} {x:Nat} (h:x<s.size):qM s x=x::qM s (x+(Utf8.decode s x).2):=by
 unfold qM
 rw [dV s x h]
 rfl
theorem pQ {s:ByteArray} {x:Nat} (h:s.size<=x):qM s x=[s.size]:=by
 unfold qM
 rw [dW s x h]
 rfl
theorem Di {s:ByteArray} {x:Nat} (h:x<=s.size):LD s x 0=x:=by
 unfold LD
 by_cases q:x<s.size
 ·rw [pO q];rfl
 ·rw [pQ (by omega)];show s.size=x;omega
theorem Dj {s:ByteArray} {x k:Nat} (h:x<s.size):LD s x (k+1)=LD s (x+(Utf8.decode s x).2) k:=by
 unfold LD
 rw [pO h]
 rfl
theorem Ae {s:ByteArray}:∀ (k x:Nat),x<=s.size->k<=(ah s x).length->DZ s x (LD s x k) k
 | 0,x,hx,_=>by rw [Di hx];exact .here _
 | k+1,x,hx,hk=>by
  have hlt:x<s.size:=by
   refine Classical.byContradiction fun q=>?_
   rw [dW s x (by omega)] at hk
   simp at hk
  rw [Dj hlt]
  rw [dV s x hlt] at hk
  exact .more hlt (Ae k _ (dA s x hlt).2 (by simpa using hk))
theorem aak {s:ByteArray}:∀ (i x j:Nat),x<=s.size->i<=(ah s x).length->LD s x (i+j)=LD s (LD s x i) j/\(ah s x).length=i+(ah s (LD s x i)).length
 | 0,x,j,hx,_=>by rw [Di hx,Nat.zero_add,Nat.zero_add];exact ⟨rfl,rfl⟩
 | i+1,x,j,hx,hk=>by
  have hlt:x<s.size:=by
   refine Classical.byContradiction fun q=>?_
   rw [dW s x (by omega)] at hk
   simp at hk
  rw [dV s x hlt] at hk ⊢
  rw [show i+1+j=i+j+1 from by omega,Dj hlt,Dj hlt]
  obtain ⟨h1,h2⟩:=aak i (x+(Utf8.decode s x).2) j (dA s x hlt).2 (by simpa using hk)
  exact ⟨h1,by simp only [List.length_cons];omega⟩
def pt (s:ByteArray) (k:Nat):Nat:=LD s 0 k
theorem aal {s:ByteArray} {i:Nat} (h:i<=(ah s 0).length):pt s i<=s.size:=(Ae i 0 (Nat.zero_le _) h).fits (Nat.zero_le _)
theorem NI {s:ByteArray} {i j:Nat} (hij:i<=j) (hj:j<=(ah s 0).length):vals (ah (s.extract (pt s i) (pt s j)) 0)=((vals (ah s 0)).take j).drop i:=by
 obtain ⟨V0,a1,a2,_⟩:=(Ae i 0 (Nat.zero_le s.size) (by omega)).piece (Nat.zero_le _) 0 (Nat.le_refl _)
 obtain ⟨e1,e2⟩:=aak (s:=s) i 0 (j - i) (Nat.zero_le _) (by omega)
 have hp:=aal (s:=s) (i:=i) (by omega)
 obtain ⟨V,b1,b2,b3⟩:=(Ae (s:=s) (j - i) (pt s i) hp (by unfold pt;omega)).piece hp (pt s i) (Nat.le_refl _)
 have e3:LD s (pt s i) (j - i)=pt s j:=by
  show LD s (LD s 0 i) (j - i)=LD s 0 j
  rw [<-e1,show i+(j - i)=j from by omega]
 rw [e3] at b2 b3
 rw [Nat.sub_self] at b3
 rw [b3,a2]
 show V=((V0++vals (ah s (pt s i))).take j).drop i
 rw [b2]
 rw [<-List.append_assoc,show j=(V0++V).length from by rw [List.length_append];omega,List.take_left,<-a1,List.drop_left]
theorem WJ (l:List Sy):(vals l).length=l.length:=by simp [vals]
end Go.Proofs.YtfolanohokflkaaGreatDoor
namespace Go.Proofs.YtfolanohokflkaaGreatDoor
theorem NJ {s:ByteArray}:∀ (d x:Nat),s.size - x<=d->x<=s.size->∀ y∈qM s x,x<=y/\y<=s.size
 | 0,x,hd,hx,y,hy=>by
  rw [pQ (by omega)] at hy
  simp at hy
  omega
 | d+1,x,hd,hx,y,hy=>by
  by_cases h:x<s.size
  ·have hw:=dA s x h
   rw [pO h] at hy
   rcases List.mem_cons.1 hy with e | e
   ·omega
   ·have:=NJ d _ (by omega) hw.2 y e
    omega
  ·rw [pQ (by omega)] at hy
   simp at hy
   omega
theorem ve {s:ByteArray}:∀ (d x:Nat),s.size - x<=d->x<=s.size->(qM s x).Pairwise (· < ·)
 | 0,x,hd,hx=>by rw [pQ (by omega)];simp
 | d+1,x,hd,hx=>by
  by_cases h:x<s.size
  ·have hw:=dA s x h
   rw [pO h,List.pairwise_cons]
   refine ⟨fun y hy=>?_,ve d _ (by omega) hw.2⟩
   have:=NJ d _ (by omega) hw.2 y hy
   omega
  ·rw [pQ (by omega)];simp
def pts (s:ByteArray):List Nat:=qM s 0
theorem xc (s:ByteArray):(pts s).length=(ah s 0).length+1:=by simp [pts,qM]
theorem Zy (s:ByteArray) (k:Nat):(pts s).getD k s.size=pt s k:=rfl
theorem D5:∀ {l:List Nat} (n:Nat),l.Pairwise (· < ·)->(∀ y∈l,y<n)->(List.range n).filter (fun i=>decide (i∈l))=l:=by
 intro l n
 induction n generalizing l with
 | zero=>
  intro _ h
  cases l with
  | nil=>rfl
  | cons a l=>exact absurd (h a (by simp)) (by omega)
 | succ n ih=>
  intro hp h
  rw [List.range_succ,List.filter_append]
  by_cases hm:n∈l
  ·have hl:l=l.filter (fun i=>decide (i<n))++[n]:=by
    obtain ⟨a,b,rfl⟩:=List.append_of_mem hm
    rw [List.pairwise_append] at hp
    have hb:b=[]:=by
     cases b with
     | nil=>rfl
     | cons x b=>
      have h1:=(List.pairwise_cons.1 hp.2.1).1 x (by simp)
      have h2:=h x (by simp)
      omega
    subst hb
    have ha:∀ x∈a,x<n:=fun x hx=>hp.2.2 x hx n (by simp)
    rw [List.filter_append,List.filter_eq_self.2 (by simpa using ha)]
    simp
   have hp':(l.filter (fun i=>decide (i<n))).Pairwise (· < ·):=hp.filter _
   have ih':=ih (l:=l.filter (fun i=>decide (i<n))) hp' (fun y hy=>by simpa using (List.mem_filter.1 hy).2)
   have e1:(List.range n).filter (fun i=>decide (i∈l))=(List.range n).filter (fun i=>decide (i∈l.filter (fun i=>decide (i<n)))):=by
    apply List.filter_congr
    intro x hx
    have:=List.mem_range.1 hx
    simp [this]
   rw [e1,ih']
   conv=>rhs;rw [hl]
   simp [hm]
  ·have h':∀ y∈l,y<n:=fun y hy=>by
    have:=h y hy
    have:y≠n:=fun e=>hm (e▸hy)
    omega
   rw [ih hp h']
   simp [hm]
def lJ (s:ByteArray) (i:Nat):List Nat:=(List.range i).filter (fun i=>decide (i∈pts s))
theorem Zz (s:ByteArray):lJ s (s.size+1)=pts s:=D5 _ (ve s.size 0 (by omega) (by omega)) fun y hy=>by
 have:=NJ s.size 0 (by omega) (by omega) y hy
 omega
theorem ZA {s:ByteArray} {i:Nat} (h:i∈pts s):lJ s (i+1)=lJ s i++[i]:=by
 unfold lJ
 rw [List.range_succ,List.filter_append]
 simp [h]
theorem abT {s:ByteArray} {i:Nat} (h:i∉pts s):lJ s (i+1)=lJ s i:=by
 unfold lJ
 rw [List.range_succ,List.filter_append]
 simp [h]
theorem ZB (s:ByteArray) (i:Nat):(lJ s i).length<=i:=by
 have:=List.length_filter_le (fun i=>decide (i∈pts s)) (List.range i)
 rw [List.length_range] at this
 exact this
theorem xg (s:ByteArray):0<(pts s).length:=by rw [xc];omega
theorem Sl (s:ByteArray):(pts s)[0]'(xg s)=0:=by
 have h:=Di (s:=s) (x:=0) (Nat.zero_le _)
 unfold LD at h
 have hp:=xg s
 unfold pts at hp
 have e:(qM s 0).getD 0 s.size=(qM s 0)[0]:=by simp [List.getD,hp]
 exact e.symm.trans h
theorem WK (s:ByteArray):(pts s)[(pts s).length - 1]'(by have:=xg s;omega)=s.size:=by
 unfold pts qM
 simp
end Go.Proofs.YtfolanohokflkaaGreatDoor
