import Derived.Test.YtfolanohokflkaaGreatDoorPSpec
namespace Go.Proofs.YtfolanohokflkaaGreatDoor
def vals (l:List Sy):List Int:=l.map fun x=>(x.c:Int)
section
variable {p:ByteArray} {n:Nat} {z:Pn} {r:List Int} {L:List Sy}
end
section
variable {p q:ByteArray} {n:Nat} {zp zq:Pn} {L:List Sy}
end
section
variable {p q S:ByteArray} {P Q T:Pt}
end
def adZ (P:Pt) (cs:List Int):Bool:=di (aI (cZ P) cs)
def uB {a:Type} (r:bn a):Prop:=∀ x,r=.error x->x.1≠0
section
variable {n:Nat} {l:List Sy}
theorem gH {a:Type} (v:a×List Sy):uB (.ok v:bn a):=fun _ h=>by cases h
theorem iV {a:Type} {e:Int} (h:e≠0):uB (bad e n l:bn a):=fun x hx=>by unfold bad at hx;cases hx;exact h
theorem jq {a b:Type} {r:bn a} {x:Int×Int} (h:uB r) (e:r=.error x):uB (.error x:bn b):=fun _ hy=>by cases hy;exact h _ e
theorem Xb (least:Int):uB (bQ n least l):=by
 unfold bQ
 split
 ·split
  ·exact iV (by decide)
  ·exact gH _
 ·exact iV (by decide)
theorem Li (m:jX):uB (gN n m l):=by
 unfold gN
 split
 ·exact gH _
 ·exact iV (by decide)
theorem SN:uB (ja n l):=by
 unfold ja
 split
 ·rename_i e;exact jq (Xb _) e
 ·split
  ·split
   ·exact gH _
   ·split
    ·rename_i e;exact jq (Xb _) e
    ·exact Li _
  ·exact Li _
theorem SQ:uB (eQ n l):=by
 unfold eQ
 split
 ·exact SN
 ·split
  ·exact gH _
  ·split
   ·exact gH _
   ·exact gH _
theorem Z6:uB (oV n l):=by
 unfold oV
 split
 ·unfold lL
  split
  ·exact iV (by decide)
  ·split
   ·exact gH _
   ·exact iV (by decide)
 ·exact iV (by decide)
theorem Fy:uB (fC n l):=by
 unfold fC
 split
 ·exact Z6
 ·split
  ·exact gH _
  ·split
   ·exact gH _
   ·exact iV (by decide)
theorem Lj:uB (eZ n l):=by
 unfold eZ
 split
 ·exact Fy
 ·split
  ·exact iV (by decide)
  ·exact gH _
theorem Z7:uB (kJ n l):=by
 unfold kJ
 split
 ·exact gH _
 ·split
  ·rename_i e;exact jq Lj e
  ·split
   ·split
    ·rename_i e;exact jq Lj e
    ·split
     ·exact iV (by decide)
     ·exact gH _
   ·exact gH _
theorem qG:∀ (f:Nat) (s:af) (l:List Sy),uB (bP n f s l)
 | 0,_,_=>iV (by decide)
 | f+1,s,l=>by
  rw [bP]
  split
  ·exact gH _
  ·split
   ·rename_i e;exact jq Z7 e
   ·exact qG f _ _
theorem Xc:uB (jO n l):=by
 unfold jO
 split
 ·unfold Br
  split
  ·rename_i e;exact jq (qG _ _ _) e
  ·exact gH _
 ·exact qG _ _ _
theorem Z8:uB (fZ n l):=by
 unfold fZ
 split
 ·exact Xc
 ·split
  ·split
   ·exact gH _
   ·unfold Rb
    split
    ·rename_i e;exact jq Fy e
    ·exact gH _
  ·split
   ·exact gH _
   ·split
    ·exact iV (by decide)
    ·exact gH _
theorem Qw:uB (oo (fZ n l)):=by
 unfold oo
 split
 ·rename_i e;exact jq Z8 e
 ·exact gH _
theorem Qx:∀ (f:Nat) (z:Pn) (l:List Sy),uB (kK n f z l)
 | 0,_,_=>iV (by decide)
 | f+1,z,l=>by
  rw [kK]
  split
  ·split
   ·rename_i e;exact jq SQ e
   ·exact Qx f _ _
  ·exact gH _
variable {a:List Sy->bn Pn}
theorem Hf (ha:∀ l,uB (a l)):∀ (f:Nat) (l:List Sy),uB (dW n a f l)
 | 0,_=>iV (by decide)
 | f+1,l=>by
  rw [dW]
  split
  ·split
   ·rename_i e;exact jq (Hf ha f _) e
   ·exact gH _
  ·split
   ·rename_i e;exact jq (ha _) e
   ·exact Qx _ _ _
theorem Dr (ha:∀ l,uB (a l)):∀ (f:Nat) (z:List Pn) (l:List Sy),uB (bL n a f z l)
 | 0,_,_=>iV (by decide)
 | f+1,z,l=>by
  rw [bL]
  split
  ·exact gH _
  ·split
   ·rename_i e;exact jq (Hf ha _ _) e
   ·exact Dr ha f _ _
theorem Xd {b c:Type} {g:b->c} {r:bn b} (h:uB r):uB (oK g r):=by
 unfold oK
 split
 ·exact fun _ hy=>by cases hy;exact h _ rfl
 ·exact gH _
theorem acu (ha:∀ l,uB (a l)) (l:List Sy):uB (rowP n a l):=by
 unfold rowP
 split
 ·exact gH _
 ·split
  ·rename_i e;exact jq (Hf ha _ _) e
  ·exact Xd (Dr ha _ _ _)
theorem Dt (ha:∀ l,uB (a l)) (sg:Int):∀ (f:Nat) (z:List Pn) (l:List Sy),uB (bM n a sg f z l)
 | 0,_,_=>iV (by decide)
 | f+1,z,l=>by
  rw [bM]
  split
  ·split
   ·rename_i e;exact jq (ha _) e
   ·exact Dt ha sg f _ _
  ·exact gH _
theorem Xe (ha:∀ l,uB (a l)) (sg:Int) (g:List Pn->Pn) (l:List Sy):uB (qU n a sg g l):=by
 unfold qU
 split
 ·rename_i e;exact jq (ha _) e
 ·exact Xd (Dt ha _ _ _ _)
theorem Fz (ha:∀ l,uB (a l)) (l:List Sy):uB (fJ n a l):=Xe (Xe (acu ha) _ _) _ _ _
theorem Qy:∀ (k:Nat) (l:List Sy),uB (ek n k l)
 | 0,l=>by
  rw [ek]
  split
  ·exact iV (by decide)
  ·exact Qw
 | k+1,l=>by
  rw [ek]
  split
  ·unfold I5
   split
   ·rename_i e;exact jq (Fz (Qy k) _) e
   ·split
    ·exact gH _
    ·exact iV (by decide)
  ·exact Qw
end
theorem Qz {s:ByteArray} {x:Int×Int} (h:bG s=.error x):x.1≠0:=by
 unfold bG at h
 split at h
 ·cases h;decide
 ·unfold pG at h
  split at h
  ·rename_i e
   cases h
   exact Fz (Qy 8) _ _ e
  ·split at h
   ·split at h
    ·cases h;decide
    ·cases h
   ·cases h;exact (by decide:(2:Int)≠0)
section
variable {s:ByteArray} {a x y:Nat}
end
inductive SV (s:ByteArray):Nat->Nat->Nat->Prop where
 | here (x:Nat):SV s x x 0
 | more {x y k:Nat}:x<s.size->SV s (x+(Utf8.decode s x).2) y k->SV s x y (k+1)
theorem SV.fits {s:ByteArray} {x y k:Nat} (h:SV s x y k) (hx:x<=s.size):y<=s.size:=by
 induction h with
 | here x=>exact hx
 | more hlt _ ih=>exact ih (eG s _ hlt).2
def qX (s:ByteArray) (x:Nat):List Nat:=(ai s x).map (·.fr)++[s.size]
def ptF (s:ByteArray) (x k:Nat):Nat:=(qX s x).getD k s.size
theorem pX {s:ByteArray} {x:Nat} (h:x<s.size):qX s x=x::qX s (x+(Utf8.decode s x).2):=by
 unfold qX
 rw [ib s x h]
 rfl
theorem pY {s:ByteArray} {x:Nat} (h:s.size<=x):qX s x=[s.size]:=by
 unfold qX
 rw [fB s x h]
 rfl
theorem Ll {s:ByteArray} {x:Nat} (h:x<=s.size):ptF s x 0=x:=by
 unfold ptF
 by_cases q:x<s.size
 ·rw [pX q];rfl
 ·rw [pY (by omega)];show s.size=x;omega
theorem Xf {s:ByteArray} {x k:Nat} (h:x<s.size):ptF s x (k+1)=ptF s (x+(Utf8.decode s x).2) k:=by
 unfold ptF
 rw [pX h]
 rfl
theorem QB {s:ByteArray}:∀ (k x:Nat),x<=s.size->k<=(ai s x).length->SV s x (ptF s x k) k
 | 0,x,hx,_=>by rw [Ll hx];exact .here _
 | k+1,x,hx,hk=>by
  have hlt:x<s.size:=by
   refine Classical.byContradiction fun q=>?_
   rw [fB s x (by omega)] at hk
   simp at hk
  rw [Xf hlt]
  rw [ib s x hlt] at hk
  exact .more hlt (QB k _ (eG s x hlt).2 (by simpa using hk))
def pt (s:ByteArray) (k:Nat):Nat:=ptF s 0 k
theorem ad1 {s:ByteArray} {i:Nat} (h:i<=(ai s 0).length):pt s i<=s.size:=(QB i 0 (Nat.zero_le _) h).fits (Nat.zero_le _)
theorem Xg (l:List Sy):(vals l).length=l.length:=by simp [vals]
theorem N8 {s:ByteArray}:∀ (d x:Nat),s.size - x<=d->x<=s.size->∀ y∈qX s x,x<=y/\y<=s.size
 | 0,x,hd,hx,y,hy=>by
  rw [pY (by omega)] at hy
  simp at hy
  omega
 | d+1,x,hd,hx,y,hy=>by
  by_cases h:x<s.size
  ·have hw:=eG s x h
   rw [pX h] at hy
   rcases List.mem_cons.1 hy with e | e
   ·omega
   ·have:=N8 d _ (by omega) hw.2 y e
    omega
  ·rw [pY (by omega)] at hy
   simp at hy
   omega
theorem vC {s:ByteArray}:∀ (d x:Nat),s.size - x<=d->x<=s.size->(qX s x).Pairwise (· < ·)
 | 0,x,hd,hx=>by rw [pY (by omega)];simp
 | d+1,x,hd,hx=>by
  by_cases h:x<s.size
  ·have hw:=eG s x h
   rw [pX h,List.pairwise_cons]
   refine ⟨fun y hy=>?_,vC d _ (by omega) hw.2⟩
   have:=N8 d _ (by omega) hw.2 y hy
   omega
  ·rw [pY (by omega)];simp
def pts (s:ByteArray):List Nat:=qX s 0
theorem Ap (s:ByteArray):(pts s).length=(ai s 0).length+1:=by simp [pts,qX]
theorem Z9 (s:ByteArray) (k:Nat):(pts s).getD k s.size=pt s k:=rfl
theorem D_:∀ {l:List Nat} (n:Nat),l.Pairwise (· < ·)->(∀ y∈l,y<n)->(List.range n).filter (fun i=>decide (i∈l))=l:=by
 intro l n
 induction n generalizing l with
 | zero=>
  intro _ h
  cases l with
  | nil=>rfl
  | cons a l=>exact absurd (h a (by simp)) (by omega)
 | succ n ih=>
  intro hp h
  rw [List.range_succ,List.filter_append]
  by_cases hm:n∈l
  ·have hl:l=l.filter (fun i=>decide (i<n))++[n]:=by
    obtain ⟨a,b,rfl⟩:=List.append_of_mem hm
    rw [List.pairwise_append] at hp
    have hb:b=[]:=by
     cases b with
     | nil=>rfl
     | cons x b=>
      have h1:=(List.pairwise_cons.1 hp.2.1).1 x (by simp)
      have h2:=h x (by simp)
      omega
    subst hb
    have ha:∀ x∈a,x<n:=fun x hx=>hp.2.2 x hx n (by simp)
    rw [List.filter_append,List.filter_eq_self.2 (by simpa using ha)]
    simp
   have hp':(l.filter (fun i=>decide (i<n))).Pairwise (· < ·):=hp.filter _
   have ih':=ih (l:=l.filter (fun i=>decide (i<n))) hp' (fun y hy=>by simpa using (List.mem_filter.1 hy).2)
   have e1:(List.range n).filter (fun i=>decide (i∈l))=(List.range n).filter (fun i=>decide (i∈l.filter (fun i=>decide (i<n)))):=by
    apply List.filter_congr
    intro x hx
    have:=List.mem_range.1 hx
    simp [this]
   rw [e1,ih']
   conv=>rhs;rw [hl]
   simp [hm]
  ·have h':∀ y∈l,y<n:=fun y hy=>by
    have:=h y hy
    have:y≠n:=fun e=>hm (e▸hy)
    omega
   rw [ih hp h']
   simp [hm]
def lJ (s:ByteArray) (i:Nat):List Nat:=(List.range i).filter (fun i=>decide (i∈pts s))
theorem Z_ (s:ByteArray):lJ s (s.size+1)=pts s:=D_ _ (vC s.size 0 (by omega) (by omega)) fun y hy=>by
 have:=N8 s.size 0 (by omega) (by omega) y hy
 omega
theorem aaa {s:ByteArray} {i:Nat} (h:i∈pts s):lJ s (i+1)=lJ s i++[i]:=by
 unfold lJ
 rw [List.range_succ,List.filter_append]
 simp [h]
theorem acv {s:ByteArray} {i:Nat} (h:i∉pts s):lJ s (i+1)=lJ s i:=by
 unfold lJ
 rw [List.range_succ,List.filter_append]
 simp [h]
theorem aab (s:ByteArray) (i:Nat):(lJ s i).length<=i:=by
 have:=List.length_filter_le (fun i=>decide (i∈pts s)) (List.range i)
 rw [List.length_range] at this
 exact this
theorem oG (s:ByteArray):0<(pts s).length:=by rw [Ap];omega
theorem FB (s:ByteArray):(pts s)[0]'(oG s)=0:=by
 have h:=Ll (s:=s) (x:=0) (Nat.zero_le _)
 unfold ptF at h
 have hp:=oG s
 unfold pts at hp
 have e:(qX s 0).getD 0 s.size=(qX s 0)[0]:=by simp [List.getD,hp]
 exact e.symm.trans h
theorem Xh (s:ByteArray):(pts s)[(pts s).length - 1]'(by have:=oG s;omega)=s.size:=by
 unfold pts qX
 simp
end Go.Proofs.YtfolanohokflkaaGreatDoor
