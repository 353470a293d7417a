import Derived.Test.YtfolanohokflkaaGreatDoorPSpec
namespace Go.Proofs.YtfolanohokflkaaGreatDoor
def Ex (r:List Int) (l l':List Sy):Prop:=l'.map (fun x=>(x.c:Int))=l.map (fun x=>(x.c:Int))++41::r
section
variable {r:List Int} {l l':List Sy}
theorem Ex.at (h:Ex r l l') (h0:l≠[]):hd l'=hd l:=by
 cases l with
 | nil=>exact absurd rfl h0
 | cons x l=>cases l' with
  | nil=>simp [Ex] at h
  | cons y l'=>simp [Ex] at h;exact h.1
theorem Ex.at0 (h:Ex r [] l'):hd l'=41:=by
 cases l' with
 | nil=>simp [Ex] at h
 | cons y l'=>simp [Ex] at h;exact h.1
theorem Ex.tail (h:Ex r l l') (h0:l≠[]):Ex r l.tail l'.tail:=by
 cases l with
 | nil=>exact absurd rfl h0
 | cons x l=>cases l' with
  | nil=>simp [Ex] at h
  | cons y l'=>simp [Ex] at h ⊢;exact h.2
theorem eZ (h:hd l≠-1):l≠[]:=by rintro rfl;exact h rfl
theorem Ex.len (h:Ex r l l'):l.length<=l'.length:=by
 have:=congrArg List.length h
 simp at this
 omega
theorem Ex.eq (h:Ex r l l') {c:Int} (h1:c≠-1) (h2:c≠41):hd l'=c↔hd l=c:=by
 by_cases h0:l=[]
 ·subst h0
  rw [h.at0]
  constructor
  ·intro e;exact absurd e.symm h2
  ·intro e;exact absurd e.symm h1
 ·rw [h.at h0]
theorem Ex.fn (h:Ex r l l') {f:Int->Bool} (h1:f (-1)=f 41):f (hd l')=f (hd l):=by
 by_cases h0:l=[]
 ·subst h0
  rw [h.at0]
  exact h1.symm
 ·rw [h.at h0]
theorem Vq {n n':Nat} {least v:Int} {l1:List Sy} (h:Ex r l l') (hx:bL n least l=.ok (v,l1)):∃ l1',bL n' least l'=.ok (v,l1')/\Ex r l1 l1':=by
 unfold bL at hx ⊢
 have hd0:fF (hd l')=fF (hd l):=h.fn (f:=fF) (by decide)
 rw [hd0]
 split at hx
 ·rename_i hdg
  have hne:l≠[]:=by rintro rfl;revert hdg;decide
  have ht:=h.tail hne
  have hd1:fF (hd l'.tail)=fF (hd l.tail):=ht.fn (f:=fF) (by decide)
  have e0:=h.at hne
  rw [if_pos hdg]
  have ev:(iL l').1=(iL l).1/\Ex r (iL l).2 (iL l').2:=by
   unfold iL
   rw [hd1,e0]
   split
   ·rename_i hq
    have hne1:l.tail≠[]:=by rintro e;rw [e] at hq;exact absurd hq.2 (by decide)
    exact ⟨by rw [ht.at hne1],ht.tail hne1⟩
   ·exact ⟨rfl,ht⟩
  rw [ev.1]
  split at hx
  ·cases hx
  ·rename_i hq
   rw [if_neg hq]
   have e1:iL l=(v,l1):=by injection hx
   rw [e1] at ev
   exact ⟨(iL l').2,congrArg Except.ok (Prod.ext ev.1 rfl),ev.2⟩
 ·cases hx
theorem Kb {n n':Nat} {m o:iW} {l1:List Sy} (h:Ex r l l') (hx:fC n m l=.ok (o,l1)):∃ l1',fC n' m l'=.ok (o,l1')/\Ex r l1 l1':=by
 unfold fC at hx ⊢
 split at hx
 ·rename_i hq
  rw [if_pos ((h.eq (by decide) (by decide)).2 hq)]
  cases hx
  exact ⟨_,rfl,h.tail (eZ (by rw [hq];decide))⟩
 ·cases hx
theorem Q8 {n n':Nat} {o:iW} {l1:List Sy} (h:Ex r l l') (hx:gu n l=.ok (o,l1)):∃ l1',gu n' l'=.ok (o,l1')/\Ex r l1 l1':=by
 unfold gu at hx ⊢
 split at hx
 ·cases hx
 ·rename_i a la e
  obtain ⟨la',e',ha⟩:=Vq (n':=n') h e
  rw [e']
  dsimp only
  split at hx
  ·rename_i hq
   rw [if_pos ((ha.eq (by decide) (by decide)).2 hq)]
   have hne:la≠[]:=eZ (by rw [hq];decide)
   have ht:=ha.tail hne
   split at hx
   ·rename_i hq2
    rw [if_pos ((ht.eq (by decide) (by decide)).2 hq2)]
    cases hx
    exact ⟨_,rfl,ht.tail (eZ (by rw [hq2];decide))⟩
   ·rename_i hq2
    rw [if_neg (fun q=>hq2 ((ht.eq (by decide) (by decide)).1 q))]
    split at hx
    ·cases hx
    ·rename_i m lm em
     obtain ⟨lm',em',hm⟩:=Vq (n':=n') ht em
     rw [em']
     exact Kb hm hx
  ·rename_i hq
   rw [if_neg (fun q=>hq ((ha.eq (by decide) (by decide)).1 q))]
   exact Kb ha hx
theorem Q9 {n n':Nat} {o:iW} {l1:List Sy} (h:Ex r l l') (hne:l≠[]) (hx:dX n l=.ok (o,l1)):∃ l1',dX n' l'=.ok (o,l1')/\Ex r l1 l1':=by
 unfold dX at hx ⊢
 have ht:=h.tail hne
 rw [h.at hne]
 split at hx
 ·rename_i hq
  rw [if_pos hq]
  exact Q8 ht hx
 ·rename_i hq
  rw [if_neg hq]
  split at hx
  ·rename_i h2
   rw [if_pos h2];cases hx;exact ⟨_,rfl,ht⟩
  ·rename_i h2
   rw [if_neg h2]
   split at hx
   ·rename_i h3
    rw [if_pos h3];cases hx;exact ⟨_,rfl,ht⟩
   ·rename_i h3
    rw [if_neg h3];cases hx;exact ⟨_,rfl,ht⟩
theorem Vr:∀ (f:Nat) (v:Int) (k:Nat) {l l':List Sy},Ex r l l'->(mi f v k l').1=(mi f v k l).1/\(mi f v k l').2.1=(mi f v k l).2.1/\Ex r (mi f v k l).2.2 (mi f v k l').2.2
 | 0,v,k,l,l',h=>⟨rfl,rfl,h⟩
 | f+1,v,k,l,l',h=>by
  unfold mi
  by_cases h0:l=[]
  ·subst h0
   rw [h.at0,if_neg (by decide),if_neg (by decide)]
   exact ⟨rfl,rfl,h⟩
  ·rw [h.at h0]
   split
   ·exact Vr f _ _ (h.tail h0)
   ·exact ⟨rfl,rfl,h⟩
theorem Yo {n n':Nat} {c:Int} {l1:List Sy} (h:Ex r l l') (hx:ma n l=.ok (c,l1)):∃ l1',ma n' l'=.ok (c,l1')/\Ex r l1 l1':=by
 unfold ma at hx ⊢
 split at hx
 ·rename_i hq
  rw [if_pos ((h.eq (by decide) (by decide)).2 hq)]
  obtain ⟨e1,e2,e3⟩:=Vr 6 0 0 (h.tail (eZ (by rw [hq];decide)))
  unfold kg at hx ⊢
  rw [e1,e2]
  split at hx
  ·cases hx
  ·rename_i hq2
   have hh:hd (mi 6 0 0 l.tail).2.2=125:=by
    by_cases q:hd (mi 6 0 0 l.tail).2.2=125
    ·exact q
    ·exact absurd (.inr q) hq2
   have hh':=(e3.eq (c:=125) (by decide) (by decide)).2 hh
   rw [if_neg (by rintro (q | q);exact hq2 (.inl q);exact q hh')]
   split at hx
   ·rename_i hs
    rw [if_pos hs]
    cases hx
    exact ⟨_,rfl,e3.tail (eZ (by rw [hh];decide))⟩
   ·cases hx
 ·cases hx
theorem Ew {n n':Nat} {c:Int} {l1:List Sy} (h:Ex r l l') (hne:l≠[]) (hx:dD n l=.ok (c,l1)):∃ l1',dD n' l'=.ok (c,l1')/\Ex r l1 l1':=by
 unfold dD at hx ⊢
 have ht:=h.tail hne
 rw [h.at hne]
 split at hx
 ·rename_i hq
  rw [if_pos hq];exact Yo ht hx
 ·rename_i hq
  rw [if_neg hq]
  split at hx
  ·rename_i h2
   rw [if_pos h2];cases hx;exact ⟨_,rfl,ht⟩
  ·rename_i h2
   rw [if_neg h2]
   split at hx
   ·rename_i h3
    rw [if_pos h3];cases hx;exact ⟨_,rfl,ht⟩
   ·cases hx
theorem Vs {n:Nat} {c:Int} {l1:List Sy} (hx:dD n l=.ok (c,l1)):l≠[]:=by
 rintro rfl
 revert hx
 simp [dD,hd,ql,l7,bad]
theorem Kc {n n':Nat} {c:Int} {l1:List Sy} (h:Ex r l l') (hx:eD n l=.ok (c,l1)):∃ l1',eD n' l'=.ok (c,l1')/\Ex r l1 l1':=by
 unfold eD at hx ⊢
 split at hx
 ·rename_i hq
  have hne:l≠[]:=eZ (by rw [hq];decide)
  rw [if_pos ((h.eq (by decide) (by decide)).2 hq)]
  exact Ew (h.tail hne) (Vs hx) hx
 ·rename_i hq
  split at hx
  ·cases hx
  ·rename_i h2
   have hne:l≠[]:=by rintro rfl;exact h2 (.inl (by decide))
   rw [h.at hne,if_neg hq,if_neg h2]
   cases hx
   exact ⟨_,rfl,h.tail hne⟩
theorem Ke (h:Ex r l l'):isSet l'=isSet l:=by
 unfold isSet
 by_cases h0:l=[]
 ·subst h0
  rw [h.at0];rfl
 ·have ht:=h.tail h0
  rw [h.at h0]
  have e1:=ht.eq (c:=100) (by decide) (by decide)
  have e2:=ht.eq (c:=119) (by decide) (by decide)
  simp only [e1,e2]
theorem Vt (h:isSet l=true):l≠[]/\l.tail≠[]:=by
 unfold isSet at h
 have h:=of_decide_eq_true h
 refine ⟨eZ (by rw [h.1];decide),eZ ?_⟩
 rcases h.2 with q | q<;>rw [q]<;>decide
theorem Ey (h:Ex r l l') (hs:isSet l=true):iA l'=iA l/\Ex r l.tail.tail l'.tail.tail:=by
 obtain ⟨h1,h2⟩:=Vt hs
 have ht:=h.tail h1
 unfold iA
 rw [ht.at h2]
 exact ⟨rfl,ht.tail h2⟩
theorem Yp {n n':Nat} {s:ah} {l1:List Sy} (h:Ex r l l') (hx:jq n l=.ok (s,l1)):∃ l1',jq n' l'=.ok (s,l1')/\Ex r l1 l1':=by
 unfold jq at hx ⊢
 rw [Ke h]
 split at hx
 ·rename_i hs
  rw [if_pos hs]
  obtain ⟨e1,e2⟩:=Ey h hs
  cases hx
  exact ⟨_,by rw [e1],e2⟩
 ·rename_i hs
  rw [if_neg hs]
  split at hx
  ·cases hx
  ·rename_i a la e
   obtain ⟨la',e',ha⟩:=Kc (n':=n') h e
   rw [e']
   dsimp only
   split at hx
   ·rename_i hq
    rw [if_pos ((ha.eq (by decide) (by decide)).2 hq)]
    split at hx
    ·cases hx
    ·rename_i b lb eb
     obtain ⟨lb',eb',hb⟩:=Kc (n':=n') (ha.tail (eZ (by rw [hq];decide))) eb
     rw [eb']
     dsimp only
     split at hx
     ·cases hx
     ·rename_i h2
      rw [if_neg h2];cases hx;exact ⟨_,rfl,hb⟩
   ·rename_i hq
    rw [if_neg (fun q=>hq ((ha.eq (by decide) (by decide)).1 q))]
    cases hx
    exact ⟨_,rfl,ha⟩
theorem qh {n n':Nat}:∀ (f f':Nat) {s s':ah} {l l' l1:List Sy},f<=f'->Ex r l l'->bA n f s l=.ok (s',l1)->∃ l1',bA n' f' s l'=.ok (s',l1')/\Ex r l1 l1'
 | 0,_,_,_,_,_,_,_,_,hx=>by simp only [bA,bad] at hx;cases hx
 | f+1,0,_,_,_,_,_,hf,_,_=>by omega
 | f+1,f'+1,s,s',l,l',l1,hf,h,hx=>by
  rw [bA] at hx ⊢
  split at hx
  ·rename_i hq
   rw [if_pos ((h.eq (by decide) (by decide)).2 hq)]
   cases hx
   exact ⟨_,rfl,h.tail (eZ (by rw [hq];decide))⟩
  ·rename_i hq
   rw [if_neg (fun q=>hq ((h.eq (by decide) (by decide)).1 q))]
   split at hx
   ·cases hx
   ·rename_i p lp e
    obtain ⟨lp',e',hp⟩:=Yp (n':=n') h e
    rw [e']
    exact qh f f' (by omega) hp hx
theorem Vu {n n':Nat} {s:ah} {l1:List Sy} (h:Ex r l l') (hx:iB n l=.ok (s,l1)):∃ l1',iB n' l'=.ok (s,l1')/\Ex r l1 l1':=by
 unfold iB at hx ⊢
 have hl:=h.len
 split at hx
 ·rename_i hq
  rw [if_pos ((h.eq (by decide) (by decide)).2 hq)]
  cases e:bA n (l.length+1) [] l.tail with
  | error x=>rw [e] at hx;cases hx
  | ok v=>
   obtain ⟨s0,l0⟩:=v
   rw [e] at hx
   obtain ⟨l0',e',h0⟩:=qh (n':=n') _ (l'.length+1) (by omega) (h.tail (eZ (by rw [hq];decide))) e
   rw [e']
   cases hx
   exact ⟨_,rfl,h0⟩
 ·rename_i hq
  rw [if_neg (fun q=>hq ((h.eq (by decide) (by decide)).1 q))]
  exact qh _ _ (by omega) h hx
theorem Yq {n n':Nat} {s:ah} {l1:List Sy} (h:Ex r l l') (hx:dV n l=.ok (s,l1)):∃ l1',dV n' l'=.ok (s,l1')/\Ex r l1 l1':=by
 unfold dV at hx ⊢
 by_cases h0:l=[]
 ·subst h0
  exfalso
  revert hx
  simp [hd,bad]
 ·have ht:=h.tail h0
  rw [h.at h0,Ke h]
  split at hx
  ·rename_i hq
   rw [if_pos hq];exact Vu ht hx
  ·rename_i hq
   rw [if_neg hq]
   split at hx
   ·rename_i h2
    rw [if_pos h2]
    split at hx
    ·rename_i hs
     rw [if_pos hs]
     obtain ⟨e1,e2⟩:=Ey h hs
     cases hx
     exact ⟨_,by rw [e1],e2⟩
    ·rename_i hs
     rw [if_neg hs]
     cases e:dD n l.tail with
     | error x=>rw [e] at hx;cases hx
     | ok v=>
      obtain ⟨c,l0⟩:=v
      rw [e] at hx
      obtain ⟨l0',e',h3⟩:=Ew (n':=n') ht (Vs e) e
      rw [e']
      cases hx
      exact ⟨_,rfl,h3⟩
   ·rename_i h2
    rw [if_neg h2]
    split at hx
    ·rename_i h3
     rw [if_pos h3];cases hx;exact ⟨_,rfl,ht⟩
    ·rename_i h3
     rw [if_neg h3]
     split at hx
     ·cases hx
     ·rename_i h4
      rw [if_neg h4];cases hx;exact ⟨_,rfl,ht⟩
theorem O1 {n n':Nat} {z:Pn} {l1:List Sy} (h:Ex r l l') (hx:kN (dV n l)=.ok (z,l1)):∃ l1',kN (dV n' l')=.ok (z,l1')/\Ex r l1 l1':=by
 cases e:dV n l with
 | error x=>rw [e] at hx;cases hx
 | ok v=>
  obtain ⟨s,l0⟩:=v
  rw [e] at hx
  obtain ⟨l0',e',h0⟩:=Yq (n':=n') h e
  rw [e']
  cases hx
  exact ⟨_,rfl,h0⟩
theorem O3 {n n':Nat}:∀ (f f':Nat) {z v:Pn} {l l' l1:List Sy},f<=f'->Ex r l l'->iH n f z l=.ok (v,l1)->∃ l1',iH n' f' z l'=.ok (v,l1')/\Ex r l1 l1'
 | 0,_,_,_,_,_,_,_,_,hx=>by simp only [iH,bad] at hx;cases hx
 | f+1,0,_,_,_,_,_,hf,_,_=>by omega
 | f+1,f'+1,z,v,l,l',l1,hf,h,hx=>by
  rw [iH] at hx ⊢
  rw [h.fn (f:=jV) (by decide)]
  split at hx
  ·rename_i hq
   rw [if_pos hq]
   have hne:l≠[]:=by rintro rfl;revert hq;decide
   split at hx
   ·cases hx
   ·rename_i m lm e
    obtain ⟨lm',e',hm⟩:=Q9 (n':=n') h hne e
    rw [e']
    exact O3 f f' (by omega) hm hx
  ·rename_i hq
   rw [if_neg hq];cases hx;exact ⟨_,rfl,h⟩
end
end Go.Proofs.YtfolanohokflkaaGreatDoor
namespace Go.Proofs.YtfolanohokflkaaGreatDoor
abbrev EA (r:List Int) (a a':List Sy->bf Pn):Prop:=∀ {l l' l1:List Sy} {v:Pn},Ex r l l'->a l=.ok (v,l1)->∃ l1',a' l'=.ok (v,l1')/\Ex r l1 l1'
section
variable {r:List Int} {n n':Nat} {a a':List Sy->bf Pn}
theorem Gb (ha:EA r a a'):∀ (f f':Nat) {l l' l1:List Sy} {v:Pn},f<=f'->Ex r l l'->b_ n a f l=.ok (v,l1)->∃ l1',b_ n' a' f' l'=.ok (v,l1')/\Ex r l1 l1'
 | 0,_,_,_,_,_,_,_,hx=>by simp only [b_,bad] at hx;cases hx
 | f+1,0,_,_,_,_,hf,_,_=>by omega
 | f+1,f'+1,l,l',l1,v,hf,h,hx=>by
  rw [b_] at hx ⊢
  split at hx
  ·rename_i hq
   rw [if_pos ((h.eq (by decide) (by decide)).2 hq)]
   split at hx
   ·cases hx
   ·rename_i z lz e
    obtain ⟨lz',e',hz⟩:=Gb ha f f' (by omega) (h.tail (eZ (by rw [hq];decide))) e
    rw [e']
    cases hx
    exact ⟨_,rfl,hz⟩
  ·rename_i hq
   rw [if_neg (fun q=>hq ((h.eq (by decide) (by decide)).1 q))]
   split at hx
   ·cases hx
   ·rename_i z lz e
    obtain ⟨lz',e',hz⟩:=ha h e
    rw [e']
    exact O3 _ _ (by have:=hz.len;omega) hz hx
theorem Ct (ha:EA r a a'):∀ (f f':Nat) {z v:List Pn} {l l' l1:List Sy},f<=f'->Ex r l l'->aW n a f z l=.ok (v,l1)->∃ l1',aW n' a' f' z l'=.ok (v,l1')/\Ex r l1 l1'
 | 0,_,_,_,_,_,_,_,_,hx=>by simp only [aW,bad] at hx;cases hx
 | f+1,0,_,_,_,_,_,hf,_,_=>by omega
 | f+1,f'+1,z,v,l,l',l1,hf,h,hx=>by
  rw [aW] at hx ⊢
  rw [h.fn (f:=eT) (by decide)]
  split at hx
  ·rename_i hq
   rw [if_pos hq];cases hx;exact ⟨_,rfl,h⟩
  ·rename_i hq
   rw [if_neg hq]
   split at hx
   ·cases hx
   ·rename_i y ly e
    obtain ⟨ly',e',hy⟩:=Gb (n':=n') ha _ (l'.length+1) (by have:=h.len;omega) h e
    rw [e']
    exact Ct ha f f' (by omega) hy hx
theorem aa0 (ha:EA r a a'):EA r (rowP n a) (rowP n' a'):=by
 intro l l' l1 v h hx
 unfold rowP at hx ⊢
 rw [h.fn (f:=eT) (by decide)]
 split at hx
 ·rename_i hq
  rw [if_pos hq];cases hx;exact ⟨_,rfl,h⟩
 ·rename_i hq
  rw [if_neg hq]
  split at hx
  ·cases hx
  ·rename_i y ly e
   obtain ⟨ly',e',hy⟩:=Gb (n':=n') ha _ (l'.length+1) (by have:=h.len;omega) h e
   rw [e']
   dsimp only
   cases e2:aW n a (ly.length+1) [y] ly with
   | error x=>rw [e2] at hx;cases hx
   | ok w=>
    obtain ⟨z,lz⟩:=w
    rw [e2] at hx
    obtain ⟨lz',e3,hz⟩:=Ct (n':=n') ha _ (ly'.length+1) (by have:=hy.len;omega) hy e2
    rw [e3]
    cases hx
    exact ⟨_,rfl,hz⟩
theorem Cu {sg:Int} (h1:sg≠-1) (h2:sg≠41) (ha:EA r a a'):∀ (f f':Nat) {z v:List Pn} {l l' l1:List Sy},f<=f'->Ex r l l'->aR n a sg f z l=.ok (v,l1)->∃ l1',aR n' a' sg f' z l'=.ok (v,l1')/\Ex r l1 l1'
 | 0,_,_,_,_,_,_,_,_,hx=>by simp only [aR,bad] at hx;cases hx
 | f+1,0,_,_,_,_,_,hf,_,_=>by omega
 | f+1,f'+1,z,v,l,l',l1,hf,h,hx=>by
  rw [aR] at hx ⊢
  split at hx
  ·rename_i hq
   rw [if_pos ((h.eq h1 h2).2 hq)]
   split at hx
   ·cases hx
   ·rename_i y ly e
    obtain ⟨ly',e',hy⟩:=ha (h.tail (eZ (by rw [hq];exact h1))) e
    rw [e']
    exact Cu h1 h2 ha f f' (by omega) hy hx
  ·rename_i hq
   rw [if_neg (fun q=>hq ((h.eq h1 h2).1 q))];cases hx;exact ⟨_,rfl,h⟩
theorem Vv {sg:Int} (h1:sg≠-1) (h2:sg≠41) (ha:EA r a a') (g:List Pn->Pn):EA r (kM n a sg g) (kM n' a' sg g):=by
 intro l l' l1 v h hx
 unfold kM at hx ⊢
 split at hx
 ·cases hx
 ·rename_i y ly e
  obtain ⟨ly',e',hy⟩:=ha h e
  rw [e']
  dsimp only
  cases e2:aR n a sg (ly.length+1) [y] ly with
  | error x=>rw [e2] at hx;cases hx
  | ok w=>
   obtain ⟨z,lz⟩:=w
   rw [e2] at hx
   obtain ⟨lz',e3,hz⟩:=Cu (n':=n') h1 h2 ha _ (ly'.length+1) (by have:=hy.len;omega) hy e2
   rw [e3]
   cases hx
   exact ⟨_,rfl,hz⟩
theorem Ez (ha:EA r a a'):EA r (bM n a) (bM n' a'):=Vv (by decide) (by decide) (Vv (by decide) (by decide) (aa0 ha) _) _
theorem Yr (k:Nat):EA r (bF n k) (bF n' k):=by
 induction k with
 | zero=>
  intro l l' l1 v h hx
  rw [bF] at hx ⊢
  split at hx
  ·simp only [bad] at hx;cases hx
  ·rename_i hq
   rw [if_neg (fun q=>hq ((h.eq (by decide) (by decide)).1 q))]
   exact O1 h hx
 | succ k ih=>
  intro l l' l1 v h hx
  rw [bF] at hx ⊢
  split at hx
  ·rename_i hq
   rw [if_pos ((h.eq (by decide) (by decide)).2 hq)]
   cases e:bM n (bF n k) l.tail with
   | error x=>rw [e] at hx;cases hx
   | ok w=>
    obtain ⟨z,lz⟩:=w
    rw [e] at hx
    obtain ⟨lz',e',hz⟩:=Ez (n':=n') ih (h.tail (eZ (by rw [hq];decide))) e
    rw [e']
    change (if hd lz=41 then (Except.ok (z,lz.tail):bf Pn) else bad 2 n lz)=_ at hx
    show ∃ l1',(if hd lz'=41 then (Except.ok (z,lz'.tail):bf Pn) else bad 2 n' lz')=_/\_
    split at hx
    ·rename_i hq2
     have hne:lz≠[]:=eZ (by rw [hq2];decide)
     rw [if_pos (by rw [hz.at hne];exact hq2)]
     cases hx
     exact ⟨_,rfl,hz.tail hne⟩
    ·simp only [bad] at hx;cases hx
  ·rename_i hq
   rw [if_neg (fun q=>hq ((h.eq (by decide) (by decide)).1 q))]
   exact O1 h hx
end
end Go.Proofs.YtfolanohokflkaaGreatDoor
namespace Go.Proofs.YtfolanohokflkaaGreatDoor
abbrev V5 (a a':List Sy->bf Pn):Prop:=∀ l v,a l=.ok v->a' l=.ok v
section
variable {n:Nat} {a a':List Sy->bf Pn}
theorem Gc (ha:V5 a a'):∀ (f:Nat) (l:List Sy) (v:Pn×List Sy),b_ n a f l=.ok v->b_ n a' f l=.ok v
 | 0,_,_,hx=>by simp only [b_,bad] at hx;cases hx
 | f+1,l,v,hx=>by
  rw [b_] at hx ⊢
  split at hx
  ·rename_i hq
   rw [if_pos hq]
   split at hx
   ·cases hx
   ·rename_i z lz e
    rw [Gc ha f _ _ e]
    exact hx
  ·rename_i hq
   rw [if_neg hq]
   split at hx
   ·cases hx
   ·rename_i z lz e
    rw [ha _ _ e]
    exact hx
theorem Cv (ha:V5 a a'):∀ (f:Nat) (z:List Pn) (l:List Sy) (v:List Pn×List Sy),aW n a f z l=.ok v->aW n a' f z l=.ok v
 | 0,_,_,_,hx=>by simp only [aW,bad] at hx;cases hx
 | f+1,z,l,v,hx=>by
  rw [aW] at hx ⊢
  split at hx
  ·rename_i hq
   rw [if_pos hq];exact hx
  ·rename_i hq
   rw [if_neg hq]
   split at hx
   ·cases hx
   ·rename_i y ly e
    rw [Gc ha _ _ _ e]
    exact Cv ha f _ _ _ hx
theorem aa1 (ha:V5 a a'):V5 (rowP n a) (rowP n a'):=by
 intro l v hx
 unfold rowP at hx ⊢
 split at hx
 ·rename_i hq
  rw [if_pos hq];exact hx
 ·rename_i hq
  rw [if_neg hq]
  split at hx
  ·cases hx
  ·rename_i y ly e
   rw [Gc ha _ _ _ e]
   dsimp only
   cases e2:aW n a (ly.length+1) [y] ly with
   | error x=>rw [e2] at hx;cases hx
   | ok w=>rw [e2] at hx;rw [Cv ha _ _ _ _ e2];exact hx
theorem Cw {sg:Int} (ha:V5 a a'):∀ (f:Nat) (z:List Pn) (l:List Sy) (v:List Pn×List Sy),aR n a sg f z l=.ok v->aR n a' sg f z l=.ok v
 | 0,_,_,_,hx=>by simp only [aR,bad] at hx;cases hx
 | f+1,z,l,v,hx=>by
  rw [aR] at hx ⊢
  split at hx
  ·rename_i hq
   rw [if_pos hq]
   split at hx
   ·cases hx
   ·rename_i y ly e
    rw [ha _ _ e]
    exact Cw ha f _ _ _ hx
  ·rename_i hq
   rw [if_neg hq];exact hx
theorem Vw {sg:Int} (ha:V5 a a') (g:List Pn->Pn):V5 (kM n a sg g) (kM n a' sg g):=by
 intro l v hx
 unfold kM at hx ⊢
 split at hx
 ·cases hx
 ·rename_i y ly e
  rw [ha _ _ e]
  dsimp only
  cases e2:aR n a sg (ly.length+1) [y] ly with
  | error x=>rw [e2] at hx;cases hx
  | ok w=>rw [e2] at hx;rw [Cw ha _ _ _ _ e2];exact hx
theorem EB (ha:V5 a a'):V5 (bM n a) (bM n a'):=Vw (Vw (aa1 ha) _) _
theorem O4:∀ k:Nat,V5 (bF n k) (bF n (k+1))
 | 0=>by
  intro l v hx
  rw [bF] at hx
  show (if hd l=40 then CW n (bM n (bF n 0) l.tail) else kN (dV n l))=_
  split at hx
  ·simp only [bad] at hx;cases hx
  ·rename_i hq
   rw [if_neg hq];exact hx
 | k+1=>by
  intro l v hx
  rw [bF] at hx
  show (if hd l=40 then CW n (bM n (bF n (k+1)) l.tail) else kN (dV n l))=_
  split at hx
  ·rename_i hq
   rw [if_pos hq]
   cases e:bM n (bF n k) l.tail with
   | error x=>rw [e] at hx;cases hx
   | ok w=>rw [e] at hx;rw [EB (O4 k) _ _ e];exact hx
  ·rename_i hq
   rw [if_neg hq];exact hx
end
end Go.Proofs.YtfolanohokflkaaGreatDoor
namespace Go.Proofs.YtfolanohokflkaaGreatDoor
theorem Vx {S B:ByteArray} {a j:Nat} (hs:a+B.size<=S.size) (hg:∀ k,k<B.size->S.get! (a+k)=B.get! k) (he:a+B.size=S.size\/(S.get! (a+B.size)).toNat<128) (hj:j<=B.size):qF S (a+j)=qF B j:=by
 by_cases h:j<B.size
 ·unfold qF
  rw [hg j h]
  by_cases q:(B.get! j).toNat / 64=2
  ·rw [if_pos ⟨by omega,q⟩,if_pos ⟨h,q⟩]
  ·rw [if_neg fun x=>q x.2,if_neg fun x=>q x.2]
 ·have e:j=B.size:=by omega
  subst e
  rw [j_ (s:=B) (fun x=>h x.1),j_]
  rintro ⟨x,y⟩
  rcases he with he | he<;>omega
theorem qi {S B:ByteArray} {a i:Nat} (hs:a+B.size<=S.size) (hg:∀ k,k<B.size->S.get! (a+k)=B.get! k) (he:a+B.size=S.size\/(S.get! (a+B.size)).toNat<128):∀ (m k:Nat) (n:Int),i+k<=B.size->gp S (a+i) m k n=gp B i m k n
 | 0,_,_,_=>rfl
 | m+1,k,n,h=>by
  have e:qF S (a+i+k)=qF B (i+k):=by rw [Nat.add_assoc];exact Vx hs hg he h
  rw [gp,gp,e]
  split
  ·rfl
  ·rename_i q
   refine qi hs hg he m (k+1) _ ?_
   have:i+k<B.size:=by
    refine Classical.byContradiction fun x=>q ?_
    rw [j_ (fun y=>x y.1)];decide
   omega
theorem Q_ {S B:ByteArray} {a i:Nat} (hs:a+B.size<=S.size) (hg:∀ k,k<B.size->S.get! (a+k)=B.get! k) (he:a+B.size=S.size\/(S.get! (a+B.size)).toNat<128) (hi:i<B.size):Utf8.decode S (a+i)=Utf8.decode B i:=by
 have e:zJ S (a+i)=zJ B i:=by
  unfold zJ
  rw [hg i hi]
  simp only []
  rw [qi hs hg he _ _ _ (by omega),qi hs hg he _ _ _ (by omega),qi hs hg he _ _ _ (by omega)]
 rw [pK,pK] at e
 have e1:=congrArg Prod.fst e
 have e2:=congrArg Prod.snd e
 exact Prod.ext (Int.ofNat.inj e1) (Int.ofNat.inj e2)
theorem ML {S:ByteArray} {a:Nat} (h:(S.get! a).toNat<128):Utf8.decode S a=((S.get! a).toNat,1):=by
 unfold Utf8.decode
 simp only [Nat.add_zero]
 rw [if_pos h]
def vals (l:List Sy):List Int:=l.map fun x=>(x.c:Int)
theorem Kg {S B:ByteArray} {a:Nat} (hs:a+B.size<=S.size) (hg:∀ k,k<B.size->S.get! (a+k)=B.get! k) (he:a+B.size=S.size\/(S.get! (a+B.size)).toNat<128):∀ (d i:Nat),B.size - i<=d->i<=B.size->vals (af S (a+i))=vals (af B i)++vals (af S (a+B.size))
 | 0,i,h,hi=>by
  have:i=B.size:=by omega
  subst this
  rw [gP B _ (Nat.le_refl _)]
  rfl
 | d+1,i,h,hi=>by
  by_cases e:i=B.size
  ·subst e
   rw [gP B _ (Nat.le_refl _)]
   rfl
  ·have hlt:i<B.size:=by omega
   have hw:=mh B i hlt
   rw [iq S (a+i) (by omega),iq B i hlt,Q_ hs hg he hlt]
   show ((Utf8.decode B i).1:Int)::vals (af S (a+i+(Utf8.decode B i).2))=((Utf8.decode B i).1:Int)::(vals (af B (i+(Utf8.decode B i).2))++_)
   rw [Nat.add_assoc,Kg hs hg he d _ (by omega) hw.2]
theorem Vy {S:ByteArray} {a:Nat} (ha:a<S.size) (h:(S.get! a).toNat<128):vals (af S a)=((S.get! a).toNat:Int)::vals (af S (a+1)):=by
 rw [iq S a ha,ML h]
 rfl
theorem Yt {S:ByteArray} {X Y:List UInt8} {b:UInt8} (h:S.data.toList=X++b::Y):S.get! X.length=b:=by
 have hl:X.length<S.size:=by
  have:=congrArg List.length h
  simp at this
  rw [this];omega
 rw [uT S _ hl]
 have e:S.data.toList[X.length]? = some b:=by rw [h];simp
 have e2:S.data.toList[X.length]? = some S[X.length]:=by
  rw [List.getElem?_eq_getElem (by simpa using hl)];rfl
 rw [e2] at e
 exact Option.some.inj e
theorem mR (S:ByteArray):S.size=S.data.toList.length:=by simp
theorem j3 {S:ByteArray} {X Y:List UInt8} {b:UInt8} (h:S.data.toList=X++b::Y) (hb:b.toNat<128):vals (af S X.length)=(b.toNat:Int)::vals (af S (X++[b]).length):=by
 have hg:=Yt h
 have hl:X.length<S.size:=by rw [mR,h];simp
 rw [Vy hl (by rw [hg];exact hb),hg]
 simp
theorem xR {S B:ByteArray} {X Y:List UInt8} {b:UInt8} (h:S.data.toList=X++(B.data.toList++b::Y)) (hb:b.toNat<128):vals (af S X.length)=vals (af B 0)++vals (af S (X++B.data.toList).length):=by
 have e:(X++B.data.toList).length=X.length+B.size:=by rw [List.length_append,mR]
 rw [e]
 have hsz:S.size=X.length+(B.size+(1+Y.length)):=by rw [mR,h,mR B];simp;omega
 refine Kg (S:=S) (B:=B) (a:=X.length) (by omega) (fun k hk=>?_) (.inr ?_) B.size 0 (by omega) (by omega)
 ·have hk':k<B.data.toList.length:=by rw [<-mR];exact hk
  have hs:B.data.toList=B.data.toList.take k++B.data.toList[k]::B.data.toList.drop (k+1):=by
   rw [List.getElem_cons_drop,List.take_append_drop]
  have h2:S.data.toList=(X++B.data.toList.take k)++B.data.toList[k]::(B.data.toList.drop (k+1)++b::Y):=by
   rw [h]
   conv=>lhs;rw [hs]
   simp only [List.append_assoc,List.cons_append]
  have g1:=Yt h2
  have g2:=Yt (S:=B) hs
  have e1:(X++B.data.toList.take k).length=X.length+k:=by rw [List.length_append,List.length_take];omega
  have e2:(B.data.toList.take k).length=k:=by rw [List.length_take];omega
  rw [e1] at g1
  rw [e2] at g2
  rw [g1,g2]
 ·have h2:S.data.toList=(X++B.data.toList)++b::Y:=by rw [h];simp
  have g:=Yt h2
  rw [e] at g
  rw [g];exact hb
theorem Kh {S:ByteArray} {X:List UInt8} (h:S.data.toList=X):vals (af S X.length)=[]:=by
 rw [gP S _ (by rw [mR,h];exact Nat.le_refl _)];rfl
end Go.Proofs.YtfolanohokflkaaGreatDoor
namespace Go.Proofs.YtfolanohokflkaaGreatDoor
def Rd (p:ByteArray) (z:Pn):Prop:=∃ lp,bM p.size (bF p.size 8) (af p 0)=.ok (z,lp)/\hd lp<0
theorem EC {p:ByteArray} {P:Pt} (h:bn p=.ok P):∃ z,Rd p z/\z.1=P:=by
 unfold bn at h
 split at h
 ·cases h
 ·unfold nA at h
  split at h
  ·cases h
  ·rename_i z l e
   split at h
   ·rename_i hl
    split at h
    ·cases h
    ·cases h;exact ⟨z,⟨l,e,hl⟩,rfl⟩
   ·cases h
theorem aa2 {l:List Sy} (h:hd l<0):l=[]:=by
 cases l with
 | nil=>rfl
 | cons x l=>exact absurd h (by show ¬ ((x.c:Int)<0);omega)
def hdV:List Int->Int
 | []=>-1
 | c::_=>c
theorem wI (l:List Sy):hd l=hdV (vals l):=by cases l<;>rfl
section
variable {p:ByteArray} {n:Nat} {z:Pn} {r:List Int} {L:List Sy}
theorem Vz (hp:Rd p z) (sW:hd L=40) (hv:vals L.tail=vals (af p 0)++41::r) {y:Pn} {l2:List Sy} (hx:bF n 8 L=.ok (y,l2)):y=z/\vals l2=r:=by
 obtain ⟨lp,e,hlp⟩:=hp
 have hlp:=aa2 hlp
 subst hlp
 obtain ⟨l1,e1,h1⟩:=Ez (n':=n) (Yr (r:=r) (n':=n) 8) (l':=L.tail) hv e
 rw [bF,if_pos sW] at hx
 cases e2:bM n (bF n 7) L.tail with
 | error x=>rw [e2] at hx;cases hx
 | ok w=>
  have e3:=EB (O4 7) _ _ e2
  rw [e1] at e3
  cases e3
  rw [e2] at hx
  change (if hd l1=41 then (Except.ok (z,l1.tail):bf Pn) else bad 2 n l1)=_ at hx
  rw [if_pos h1.at0] at hx
  cases hx
  refine ⟨rfl,?_⟩
  cases l1 with
  | nil=>simp [Ex] at h1
  | cons a l1=>simp [Ex] at h1;exact h1.2
theorem Ki (hp:Rd p z) (sW:hd L=40) (hv:vals L.tail=vals (af p 0)++41::r) (hr:jV (hdV r)=false) {f:Nat} {y:Pn} {l2:List Sy} (hx:b_ n (bF n 8) (f+1) L=.ok (y,l2)):y=z/\vals l2=r:=by
 rw [b_,if_neg (by rw [sW];decide)] at hx
 split at hx
 ·cases hx
 ·rename_i y0 l0 e
  obtain ⟨e1,e2⟩:=Vz hp sW hv e
  subst e1
  rw [iH,if_neg (by rw [wI,e2,hr];decide)] at hx
  cases hx
  exact ⟨rfl,e2⟩
theorem O5 {c:Int} (h:eT c=true):jV c=false:=by
 unfold eT at h
 have h:=of_decide_eq_true h
 unfold jV
 exact decide_eq_false (by omega)
theorem yG {y:Pn} {l2:List Sy} {y0:Pn} (hn:eT (hd L)=false) (hi:∀ f y l2,b_ n (bF n 8) (f+1) L=.ok (y,l2)->y=y0/\vals l2=r) (hr:eT (hdV r)=true) (hx:rowP n (bF n 8) L=.ok (y,l2)):y=y0/\vals l2=r:=by
 unfold rowP at hx
 rw [if_neg (by rw [hn];decide)] at hx
 split at hx
 ·cases hx
 ·rename_i y1 l1 e
  obtain ⟨e1,e2⟩:=hi _ _ _ e
  subst e1
  rw [aW,if_pos (by rw [wI,e2];exact hr)] at hx
  cases hx
  exact ⟨rfl,e2⟩
theorem zH (hp:Rd p z) (sW:hd L=40) (hv:vals L.tail=vals (af p 0)++41::r) (hr:eT (hdV r)=true) {y:Pn} {l2:List Sy} (hx:rowP n (bF n 8) L=.ok (y,l2)):y=z/\vals l2=r:=
 yG (by rw [sW];decide) (fun _ _ _ e=>Ki hp sW hv (O5 hr) e) hr hx
theorem Yu (hp:Rd p z) (Yv:hd L=126) (sW:hd L.tail=40) (hv:vals L.tail.tail=vals (af p 0)++41::r) (hr:eT (hdV r)=true) {y:Pn} {l2:List Sy} (hx:rowP n (bF n 8) L=.ok (y,l2)):y=w_ z/\vals l2=r:=by
 refine yG (by rw [Yv];decide) (fun f y l2 e=>?_) hr hx
 rw [b_,if_pos Yv] at e
 cases f with
 | zero=>simp only [b_,bad] at e;cases e
 | succ f=>
  split at e
  ·cases e
  ·rename_i y1 l1 e1
   obtain ⟨q1,q2⟩:=Ki hp sW hv (O5 hr) e1
   subst q1
   cases e
   exact ⟨rfl,q2⟩
theorem rU {sub:List Sy->bf Pn} {sg:Int} {g:List Pn->Pn} {y0:Pn} (hs:∀ y l2,sub L=.ok (y,l2)->y=y0/\vals l2=r) (h1:hdV r≠sg) {y:Pn} {l2:List Sy} (hx:kM n sub sg g L=.ok (y,l2)):y=g [y0]/\vals l2=r:=by
 unfold kM at hx
 split at hx
 ·cases hx
 ·rename_i y1 l1 e
  obtain ⟨e1,e2⟩:=hs _ _ e
  subst e1
  rw [aR,if_neg (by rw [wI,e2];exact h1)] at hx
  cases hx
  exact ⟨rfl,e2⟩
theorem O6 {sub:List Sy->bf Pn} {sg:Int} {g:List Pn->Pn} {y0 y1:Pn} {r1:List Int} (hs:∀ y l2,sub L=.ok (y,l2)->y=y0/\vals l2=sg::r) (ht:∀ L',vals L'=r->∀ y l2,sub L'=.ok (y,l2)->y=y1/\vals l2=r1) (h1:hdV r1≠sg) {y:Pn} {l2:List Sy} (hx:kM n sub sg g L=.ok (y,l2)):y=g [y0,y1]/\vals l2=r1:=by
 unfold kM at hx
 split at hx
 ·cases hx
 ·rename_i ya la e
  obtain ⟨e1,e2⟩:=hs _ _ e
  subst e1
  cases la with
  | nil=>simp [vals] at e2
  | cons x la=>
   have hx0:hd (x::la)=sg:=by rw [wI,e2];rfl
   rw [aR,if_pos hx0] at hx
   have e3:vals la=r:=by simp [vals] at e2 ⊢;exact e2.2
   change nY g (match sub la with | .error x=>.error x | .ok (y,l1)=>aR n sub sg (la.length+1) ([ya]++[y]) l1)=_ at hx
   split at hx
   ·cases hx
   ·rename_i yb lb e4
    obtain ⟨q1,q2⟩:=ht la e3 _ _ e4
    subst q1
    rw [aR,if_neg (by rw [wI,q2];exact h1)] at hx
    cases hx
    exact ⟨rfl,q2⟩
end
theorem sO {L:List Sy} {c:Int} {r:List Int} (h:vals L=c::r):hd L=c/\vals L.tail=r:=by
 cases L with
 | nil=>simp [vals] at h
 | cons x L=>simp [vals] at h ⊢;exact h
section
variable {p q:ByteArray} {n:Nat} {zp zq:Pn} {L:List Sy}
theorem MM (hp:Rd p zp) (hq:Rd q zq) (hv:vals L=40::(vals (af p 0)++41::38::40::(vals (af q 0)++[41]))) {y:Pn} {l2:List Sy} (hx:bM n (bF n 8) L=.ok (y,l2)):y=gB true [zp,zq]/\vals l2=[]:=by
 obtain ⟨sW,ht⟩:=sO hv
 refine rU (y0:=gB true [zp,zq]) (r:=[]) (fun y l2 e=>?_) (by decide) hx
 refine O6 (y0:=zp) (y1:=zq) (r:=40::(vals (af q 0)++[41])) (r1:=[]) (fun y l2 e=>zH hp sW ht (by show eT 38=true;decide) e) (fun L' hv' y l2 e=>?_) (by decide) e
 obtain ⟨h40',ht'⟩:=sO hv'
 exact zH hq h40' ht' (by decide) e
theorem Ra (hp:Rd p zp) (hq:Rd q zq) (hv:vals L=40::(vals (af p 0)++41::124::40::(vals (af q 0)++[41]))) {y:Pn} {l2:List Sy} (hx:bM n (bF n 8) L=.ok (y,l2)):y=gB false [zp,zq]/\vals l2=[]:=by
 obtain ⟨sW,ht⟩:=sO hv
 refine O6 (y0:=zp) (y1:=zq) (r:=40::(vals (af q 0)++[41])) (r1:=[]) (fun y l2 e=>?_) (fun L' hv' y l2 e=>?_) (by decide) hx
 ·exact rU (y0:=zp) (r:=124::40::(vals (af q 0)++[41])) (fun y l2 e=>zH hp sW ht (by show eT 124=true;decide) e) (by show (124:Int)≠38;decide) e
 ·obtain ⟨h40',ht'⟩:=sO hv'
  exact rU (y0:=zq) (r:=[]) (fun y l2 e=>zH hq h40' ht' (by decide) e) (by decide) e
theorem MN (hp:Rd p zp) (hv:vals L=126::40::(vals (af p 0)++[41])) {y:Pn} {l2:List Sy} (hx:bM n (bF n 8) L=.ok (y,l2)):y=w_ zp/\vals l2=[]:=by
 obtain ⟨Yv,ht⟩:=sO hv
 obtain ⟨sW,ht⟩:=sO ht
 refine rU (y0:=w_ zp) (r:=[]) (fun y l2 e=>?_) (by decide) hx
 exact rU (y0:=w_ zp) (r:=[]) (fun y l2 e=>Yu hp Yv sW ht (by decide) e) (by decide) e
end
theorem Cx {S:ByteArray} {T:Pt} {z:Pn} (h:bn S=.ok T) (hc:∀ y l2,bM S.size (bF S.size 8) (af S 0)=.ok (y,l2)->y=z/\vals l2=[]):T=z.1:=by
 obtain ⟨y,⟨l,e,_⟩,q⟩:=EC h
 rw [<-q,(hc _ _ e).1]
section
variable {p q S:ByteArray} {P Q T:Pt}
theorem Kj {c:UInt8} (hc:c.toNat<128) (hS:S.data.toList=40::(p.data.toList++41::c::40::(q.data.toList++[41]))):vals (af S 0)=40::(vals (af p 0)++41::(c.toNat:Int)::40::(vals (af q 0)++[41])):=by
 have s0:=j3 (S:=S) (X:=[]) (b:=40) (by rw [hS];rfl) (by decide)
 have s1:=xR (S:=S) (B:=p) (X:=[40]) (b:=41) (Y:=c::40::(q.data.toList++[41])) (by rw [hS];rfl) (by decide)
 have s2:=j3 (S:=S) (X:=[40]++p.data.toList) (b:=41) (Y:=c::40::(q.data.toList++[41])) (by rw [hS];simp) (by decide)
 have s3:=j3 (S:=S) (X:=[40]++p.data.toList++[41]) (b:=c) (Y:=40::(q.data.toList++[41])) (by rw [hS];simp) hc
 have s4:=j3 (S:=S) (X:=[40]++p.data.toList++[41]++[c]) (b:=40) (Y:=q.data.toList++[41]) (by rw [hS];simp) (by decide)
 have s5:=xR (S:=S) (B:=q) (X:=[40]++p.data.toList++[41]++[c]++[40]) (b:=41) (Y:=[]) (by rw [hS];simp) (by decide)
 have s6:=j3 (S:=S) (X:=[40]++p.data.toList++[41]++[c]++[40]++q.data.toList) (b:=41) (Y:=[]) (by rw [hS];simp) (by decide)
 have s7:=Kh (S:=S) (X:=[40]++p.data.toList++[41]++[c]++[40]++q.data.toList++[41]) (by rw [hS];simp)
 rw [show (0:Nat)=([]:List UInt8).length from rfl,s0]
 rw [List.nil_append,s1,s2,s3,s4,s5,s6,s7]
 rfl
theorem VA (hS:S.data.toList=126::40::(p.data.toList++[41])):vals (af S 0)=126::40::(vals (af p 0)++[41]):=by
 have s0:=j3 (S:=S) (X:=[]) (b:=126) (by rw [hS];rfl) (by decide)
 have s0':=j3 (S:=S) (X:=[126]) (b:=40) (Y:=p.data.toList++[41]) (by rw [hS];rfl) (by decide)
 have s1:=xR (S:=S) (B:=p) (X:=[126]++[40]) (b:=41) (Y:=[]) (by rw [hS];rfl) (by decide)
 have s2:=j3 (S:=S) (X:=[126]++[40]++p.data.toList) (b:=41) (Y:=[]) (by rw [hS];simp) (by decide)
 have s3:=Kh (S:=S) (X:=[126]++[40]++p.data.toList++[41]) (by rw [hS];simp)
 rw [show (0:Nat)=([]:List UInt8).length from rfl,s0]
 rw [List.nil_append,s0',s1,s2,s3]
 rfl
theorem VB (hp:bn p=.ok P) (hq:bn q=.ok Q) (hS:S.data.toList=40::(p.data.toList++41::38::40::(q.data.toList++[41]))) (h:bn S=.ok T):T=.aT true [P,Q]:=by
 obtain ⟨zp,rp,ep⟩:=EC hp
 obtain ⟨zq,rq,eq⟩:=EC hq
 rw [Cx (z:=gB true [zp,zq]) h fun y l2 e=>MM rp rq (Kj (c:=38) (by decide) hS) e,<-ep,<-eq]
 rfl
theorem Yw (hp:bn p=.ok P) (hq:bn q=.ok Q) (hS:S.data.toList=40::(p.data.toList++41::124::40::(q.data.toList++[41]))) (h:bn S=.ok T):T=.aT false [P,Q]:=by
 obtain ⟨zp,rp,ep⟩:=EC hp
 obtain ⟨zq,rq,eq⟩:=EC hq
 rw [Cx (z:=gB false [zp,zq]) h fun y l2 e=>Ra rp rq (Kj (c:=124) (by decide) hS) e,<-ep,<-eq]
 rfl
theorem VC (hp:bn p=.ok P) (hS:S.data.toList=126::40::(p.data.toList++[41])) (h:bn S=.ok T):T=.not P:=by
 obtain ⟨zp,rp,ep⟩:=EC hp
 rw [Cx (z:=w_ zp) h fun y l2 e=>MN rp (VA hS) e,<-ep]
 rfl
end
def lZ (P:Pt) (cs:List Int):Bool:=cO (aO (eH P) cs)
theorem l6 {P:Pt} (h:nU P) {cs:List Int} (hc:fB cs):lZ P cs=true↔wd (eH P) cs:=M_ cs (ny h).ok hc
theorem VD {P Q:Pt} (hp:nU P) (hq:nU Q) {cs:List Int} (hc:fB cs):lZ (.aT true [P,Q]) cs=(lZ P cs&&lZ Q cs):=by
 have h:nU (.aT true [P,Q]):=by simp [nU,yS,hp,hq]
 rw [Bool.eq_iff_iff,Bool.and_eq_true,l6 h hc,l6 hp hc,l6 hq hc]
 rw [eH,qU,o7 (fun t ht=>by simp at ht;rcases ht with rfl | rfl;exact (ny hp).ok;exact (ny hq).ok) hc]
 simp [nT]
theorem Yx {P Q:Pt} (hp:nU P) (hq:nU Q) {cs:List Int} (hc:fB cs):lZ (.aT false [P,Q]) cs=(lZ P cs||lZ Q cs):=by
 have h:nU (.aT false [P,Q]):=by simp [nU,yS,hp,hq]
 rw [Bool.eq_iff_iff,Bool.or_eq_true,l6 h hc,l6 hp hc,l6 hq hc]
 rw [eH,qU,o7 (fun t ht=>by simp at ht;rcases ht with rfl | rfl;exact (ny hp).ok;exact (ny hq).ok) hc]
 simp [nT]
theorem VE {P:Pt} (hp:nU P) {cs:List Int} (hc:fB cs):lZ (.not P) cs=!lZ P cs:=by
 have h:nU (.not P):=by simp [nU,hp]
 rw [Bool.eq_iff_iff,l6 h hc]
 rw [eH,M7,<-l6 hp hc]
 simp
end Go.Proofs.YtfolanohokflkaaGreatDoor
namespace Go.Proofs.YtfolanohokflkaaGreatDoor
def tK {a:Type} (r:bf a):Prop:=∀ x,r=.error x->x.1≠0
section
variable {n:Nat} {l:List Sy}
theorem gI {a:Type} (v:a×List Sy):tK (.ok v:bf a):=fun _ h=>by cases h
theorem ja {a:Type} {e:Int} (h:e≠0):tK (bad e n l:bf a):=fun x hx=>by unfold bad at hx;cases hx;exact h
theorem jB {a b:Type} {r:bf a} {x:Int×Int} (h:tK r) (e:r=.error x):tK (.error x:bf b):=fun _ hy=>by cases hy;exact h _ e
theorem VF (least:Int):tK (bL n least l):=by
 unfold bL
 split
 ·split
  ·exact ja (by decide)
  ·exact gI _
 ·exact ja (by decide)
theorem Kk (m:iW):tK (fC n m l):=by
 unfold fC
 split
 ·exact gI _
 ·exact ja (by decide)
theorem Rb:tK (gu n l):=by
 unfold gu
 split
 ·rename_i e;exact jB (VF _) e
 ·split
  ·split
   ·exact gI _
   ·split
    ·rename_i e;exact jB (VF _) e
    ·exact Kk _
  ·exact Kk _
theorem Rc:tK (dX n l):=by
 unfold dX
 split
 ·exact Rb
 ·split
  ·exact gI _
  ·split
   ·exact gI _
   ·exact gI _
theorem Yy:tK (ma n l):=by
 unfold ma
 split
 ·unfold kg
  split
  ·exact ja (by decide)
  ·split
   ·exact gI _
   ·exact ja (by decide)
 ·exact ja (by decide)
theorem ED:tK (dD n l):=by
 unfold dD
 split
 ·exact Yy
 ·split
  ·exact gI _
  ·split
   ·exact gI _
   ·exact ja (by decide)
theorem Kl:tK (eD n l):=by
 unfold eD
 split
 ·exact ED
 ·split
  ·exact ja (by decide)
  ·exact gI _
theorem Yz:tK (jq n l):=by
 unfold jq
 split
 ·exact gI _
 ·split
  ·rename_i e;exact jB Kl e
  ·split
   ·split
    ·rename_i e;exact jB Kl e
    ·split
     ·exact ja (by decide)
     ·exact gI _
   ·exact gI _
theorem qj:∀ (f:Nat) (s:ah) (l:List Sy),tK (bA n f s l)
 | 0,_,_=>ja (by decide)
 | f+1,s,l=>by
  rw [bA]
  split
  ·exact gI _
  ·split
   ·rename_i e;exact jB Yz e
   ·exact qj f _ _
theorem VG:tK (iB n l):=by
 unfold iB
 split
 ·unfold Ak
  split
  ·rename_i e;exact jB (qj _ _ _) e
  ·exact gI _
 ·exact qj _ _ _
theorem YA:tK (dV n l):=by
 unfold dV
 split
 ·exact VG
 ·split
  ·split
   ·exact gI _
   ·unfold PN
    split
    ·rename_i e;exact jB ED e
    ·exact gI _
  ·split
   ·exact gI _
   ·split
    ·exact ja (by decide)
    ·exact gI _
theorem O7:tK (kN (dV n l)):=by
 unfold kN
 split
 ·rename_i e;exact jB YA e
 ·exact gI _
theorem O8:∀ (f:Nat) (z:Pn) (l:List Sy),tK (iH n f z l)
 | 0,_,_=>ja (by decide)
 | f+1,z,l=>by
  rw [iH]
  split
  ·split
   ·rename_i e;exact jB Rc e
   ·exact O8 f _ _
  ·exact gI _
variable {a:List Sy->bf Pn}
theorem Gd (ha:∀ l,tK (a l)):∀ (f:Nat) (l:List Sy),tK (b_ n a f l)
 | 0,_=>ja (by decide)
 | f+1,l=>by
  rw [b_]
  split
  ·split
   ·rename_i e;exact jB (Gd ha f _) e
   ·exact gI _
  ·split
   ·rename_i e;exact jB (ha _) e
   ·exact O8 _ _ _
theorem Cy (ha:∀ l,tK (a l)):∀ (f:Nat) (z:List Pn) (l:List Sy),tK (aW n a f z l)
 | 0,_,_=>ja (by decide)
 | f+1,z,l=>by
  rw [aW]
  split
  ·exact gI _
  ·split
   ·rename_i e;exact jB (Gd ha _ _) e
   ·exact Cy ha f _ _
theorem VH {b c:Type} {g:b->c} {r:bf b} (h:tK r):tK (nY g r):=by
 unfold nY
 split
 ·exact fun _ hy=>by cases hy;exact h _ rfl
 ·exact gI _
theorem aa3 (ha:∀ l,tK (a l)) (l:List Sy):tK (rowP n a l):=by
 unfold rowP
 split
 ·exact gI _
 ·split
  ·rename_i e;exact jB (Gd ha _ _) e
  ·exact VH (Cy ha _ _ _)
theorem Cz (ha:∀ l,tK (a l)) (sg:Int):∀ (f:Nat) (z:List Pn) (l:List Sy),tK (aR n a sg f z l)
 | 0,_,_=>ja (by decide)
 | f+1,z,l=>by
  rw [aR]
  split
  ·split
   ·rename_i e;exact jB (ha _) e
   ·exact Cz ha sg f _ _
  ·exact gI _
theorem VI (ha:∀ l,tK (a l)) (sg:Int) (g:List Pn->Pn) (l:List Sy):tK (kM n a sg g l):=by
 unfold kM
 split
 ·rename_i e;exact jB (ha _) e
 ·exact VH (Cz ha _ _ _ _)
theorem EE (ha:∀ l,tK (a l)) (l:List Sy):tK (bM n a l):=VI (VI (aa3 ha) _ _) _ _ _
theorem O9:∀ (k:Nat) (l:List Sy),tK (bF n k l)
 | 0,l=>by
  rw [bF]
  split
  ·exact ja (by decide)
  ·exact O7
 | k+1,l=>by
  rw [bF]
  split
  ·unfold CW
   split
   ·rename_i e;exact jB (EE (O9 k) _) e
   ·split
    ·exact gI _
    ·exact ja (by decide)
  ·exact O7
end
theorem Gf {s:ByteArray} {x:Int×Int} (h:bn s=.error x):x.1≠0:=by
 unfold bn at h
 split at h
 ·cases h;decide
 ·unfold nA at h
  split at h
  ·rename_i e
   cases h
   exact EE (O9 8) _ _ e
  ·split at h
   ·split at h
    ·cases h;decide
    ·cases h
   ·cases h;exact (by decide:(2:Int)≠0)
end Go.Proofs.YtfolanohokflkaaGreatDoor
