import Derived.Test.YtfolanohokflkaaGreatDoorPSpec
namespace Go.Proofs.YtfolanohokflkaaGreatDoor
def Ex (r:List Int) (l l':List Sy):Prop:=l'.map (fun x=>(x.c:Int))=l.map (fun x=>(x.c:Int))++41::r
section
variable {r:List Int} {l l':List Sy}
theorem Ex.at (h:Ex r l l') (h0:l≠[]):hd l'=hd l:=by
 cases l with
 | nil=>exact absurd rfl h0
 | cons x l=>cases l' with
  | nil=>simp [Ex] at h
  | cons y l'=>simp [Ex] at h;exact h.1
theorem Ex.at0 (h:Ex r [] l'):hd l'=41:=by
 cases l' with
 | nil=>simp [Ex] at h
 | cons y l'=>simp [Ex] at h;exact h.1
theorem Ex.tail (h:Ex r l l') (h0:l≠[]):Ex r l.tail l'.tail:=by
 cases l with
 | nil=>exact absurd rfl h0
 | cons x l=>cases l' with
  | nil=>simp [Ex] at h
  | cons y l'=>simp [Ex] at h ⊢;exact h.2
theorem fF (h:hd l≠-1):l≠[]:=by rintro rfl;exact h rfl
theorem Ex.len (h:Ex r l l'):l.length<=l'.length:=by
 have:=congrArg List.length h
 simp at this
 omega
theorem Ex.eq (h:Ex r l l') {c:Int} (h1:c≠-1) (h2:c≠41):hd l'=c↔hd l=c:=by
 by_cases h0:l=[]
 ·subst h0
  rw [h.at0]
  constructor
  ·intro e;exact absurd e.symm h2
  ·intro e;exact absurd e.symm h1
 ·rw [h.at h0]
theorem Ex.fn (h:Ex r l l') {f:Int->Bool} (h1:f (-1)=f 41):f (hd l')=f (hd l):=by
 by_cases h0:l=[]
 ·subst h0
  rw [h.at0]
  exact h1.symm
 ·rw [h.at h0]
theorem VE {n n':Nat} {least v:Int} {l1:List Sy} (h:Ex r l l') (hx:bP n least l=.ok (v,l1)):∃ l1',bP n' least l'=.ok (v,l1')/\Ex r l1 l1':=by
 unfold bP at hx ⊢
 have hd0:fP (hd l')=fP (hd l):=h.fn (f:=fP) (by decide)
 rw [hd0]
 split at hx
 ·rename_i hdg
  have hne:l≠[]:=by rintro rfl;revert hdg;decide
  have ht:=h.tail hne
  have hd1:fP (hd l'.tail)=fP (hd l.tail):=ht.fn (f:=fP) (by decide)
  have e0:=h.at hne
  rw [if_pos hdg]
  have ev:(iR l').1=(iR l).1/\Ex r (iR l).2 (iR l').2:=by
   unfold iR
   rw [hd1,e0]
   split
   ·rename_i hq
    have hne1:l.tail≠[]:=by rintro e;rw [e] at hq;exact absurd hq.2 (by decide)
    exact ⟨by rw [ht.at hne1],ht.tail hne1⟩
   ·exact ⟨rfl,ht⟩
  rw [ev.1]
  split at hx
  ·cases hx
  ·rename_i hq
   rw [if_neg hq]
   have e1:iR l=(v,l1):=by injection hx
   rw [e1] at ev
   exact ⟨(iR l').2,congrArg Except.ok (Prod.ext ev.1 rfl),ev.2⟩
 ·cases hx
theorem J3 {n n':Nat} {m o:jc} {l1:List Sy} (h:Ex r l l') (hx:fK n m l=.ok (o,l1)):∃ l1',fK n' m l'=.ok (o,l1')/\Ex r l1 l1':=by
 unfold fK at hx ⊢
 split at hx
 ·rename_i hq
  rw [if_pos ((h.eq (by decide) (by decide)).2 hq)]
  cases hx
  exact ⟨_,rfl,h.tail (fF (by rw [hq];decide))⟩
 ·cases hx
theorem Sj {n n':Nat} {o:jc} {l1:List Sy} (h:Ex r l l') (hx:gI n l=.ok (o,l1)):∃ l1',gI n' l'=.ok (o,l1')/\Ex r l1 l1':=by
 unfold gI at hx ⊢
 split at hx
 ·cases hx
 ·rename_i a la e
  obtain ⟨la',e',ha⟩:=VE (n':=n') h e
  rw [e']
  dsimp only
  split at hx
  ·rename_i hq
   rw [if_pos ((ha.eq (by decide) (by decide)).2 hq)]
   have hne:la≠[]:=fF (by rw [hq];decide)
   have ht:=ha.tail hne
   split at hx
   ·rename_i hq2
    rw [if_pos ((ht.eq (by decide) (by decide)).2 hq2)]
    cases hx
    exact ⟨_,rfl,ht.tail (fF (by rw [hq2];decide))⟩
   ·rename_i hq2
    rw [if_neg (fun q=>hq2 ((ht.eq (by decide) (by decide)).1 q))]
    split at hx
    ·cases hx
    ·rename_i m lm em
     obtain ⟨lm',em',hm⟩:=VE (n':=n') ht em
     rw [em']
     exact J3 hm hx
  ·rename_i hq
   rw [if_neg (fun q=>hq ((ha.eq (by decide) (by decide)).1 q))]
   exact J3 ha hx
theorem Sk {n n':Nat} {o:jc} {l1:List Sy} (h:Ex r l l') (hne:l≠[]) (hx:dM n l=.ok (o,l1)):∃ l1',dM n' l'=.ok (o,l1')/\Ex r l1 l1':=by
 unfold dM at hx ⊢
 have ht:=h.tail hne
 rw [h.at hne]
 split at hx
 ·rename_i hq
  rw [if_pos hq]
  exact Sj ht hx
 ·rename_i hq
  rw [if_neg hq]
  split at hx
  ·rename_i h2
   rw [if_pos h2];cases hx;exact ⟨_,rfl,ht⟩
  ·rename_i h2
   rw [if_neg h2]
   split at hx
   ·rename_i h3
    rw [if_pos h3];cases hx;exact ⟨_,rfl,ht⟩
   ·rename_i h3
    rw [if_neg h3];cases hx;exact ⟨_,rfl,ht⟩
theorem VF:∀ (f:Nat) (v:Int) (k:Nat) {l l':List Sy},Ex r l l'->(mQ f v k l').1=(mQ f v k l).1/\(mQ f v k l').2.1=(mQ f v k l).2.1/\Ex r (mQ f v k l).2.2 (mQ f v k l').2.2
 | 0,v,k,l,l',h=>⟨rfl,rfl,h⟩
 | f+1,v,k,l,l',h=>by
  unfold mQ
  by_cases h0:l=[]
  ·subst h0
   rw [h.at0,if_neg (by decide),if_neg (by decide)]
   exact ⟨rfl,rfl,h⟩
  ·rw [h.at h0]
   split
   ·exact VF f _ _ (h.tail h0)
   ·exact ⟨rfl,rfl,h⟩
theorem Zz {n n':Nat} {c:Int} {l1:List Sy} (h:Ex r l l') (hx:mM n l=.ok (c,l1)):∃ l1',mM n' l'=.ok (c,l1')/\Ex r l1 l1':=by
 unfold mM at hx ⊢
 split at hx
 ·rename_i hq
  rw [if_pos ((h.eq (by decide) (by decide)).2 hq)]
  obtain ⟨e1,e2,e3⟩:=VF 6 0 0 (h.tail (fF (by rw [hq];decide)))
  unfold kI at hx ⊢
  rw [e1,e2]
  split at hx
  ·cases hx
  ·rename_i hq2
   have hh:hd (mQ 6 0 0 l.tail).2.2=125:=by
    by_cases q:hd (mQ 6 0 0 l.tail).2.2=125
    ·exact q
    ·exact absurd (.inr q) hq2
   have hh':=(e3.eq (c:=125) (by decide) (by decide)).2 hh
   rw [if_neg (by rintro (q | q);exact hq2 (.inl q);exact q hh')]
   split at hx
   ·rename_i hs
    rw [if_pos hs]
    cases hx
    exact ⟨_,rfl,e3.tail (fF (by rw [hh];decide))⟩
   ·cases hx
 ·cases hx
theorem Fe {n n':Nat} {c:Int} {l1:List Sy} (h:Ex r l l') (hne:l≠[]) (hx:dJ n l=.ok (c,l1)):∃ l1',dJ n' l'=.ok (c,l1')/\Ex r l1 l1':=by
 unfold dJ at hx ⊢
 have ht:=h.tail hne
 rw [h.at hne]
 split at hx
 ·rename_i hq
  rw [if_pos hq];exact Zz ht hx
 ·rename_i hq
  rw [if_neg hq]
  split at hx
  ·rename_i h2
   rw [if_pos h2];cases hx;exact ⟨_,rfl,ht⟩
  ·rename_i h2
   rw [if_neg h2]
   split at hx
   ·rename_i h3
    rw [if_pos h3];cases hx;exact ⟨_,rfl,ht⟩
   ·cases hx
theorem VG {n:Nat} {c:Int} {l1:List Sy} (hx:dJ n l=.ok (c,l1)):l≠[]:=by
 rintro rfl
 revert hx
 simp [dJ,hd,qR,mG,bad]
theorem J4 {n n':Nat} {c:Int} {l1:List Sy} (h:Ex r l l') (hx:fe n l=.ok (c,l1)):∃ l1',fe n' l'=.ok (c,l1')/\Ex r l1 l1':=by
 unfold fe at hx ⊢
 split at hx
 ·rename_i hq
  have hne:l≠[]:=fF (by rw [hq];decide)
  rw [if_pos ((h.eq (by decide) (by decide)).2 hq)]
  exact Fe (h.tail hne) (VG hx) hx
 ·rename_i hq
  split at hx
  ·cases hx
  ·rename_i h2
   have hne:l≠[]:=by rintro rfl;exact h2 (.inl (by decide))
   rw [h.at hne,if_neg hq,if_neg h2]
   cases hx
   exact ⟨_,rfl,h.tail hne⟩
theorem J5 (h:Ex r l l'):isSet l'=isSet l:=by
 unfold isSet
 by_cases h0:l=[]
 ·subst h0
  rw [h.at0];rfl
 ·have ht:=h.tail h0
  rw [h.at h0]
  have e1:=ht.eq (c:=100) (by decide) (by decide)
  have e2:=ht.eq (c:=119) (by decide) (by decide)
  simp only [e1,e2]
theorem VH (h:isSet l=true):l≠[]/\l.tail≠[]:=by
 unfold isSet at h
 have h:=of_decide_eq_true h
 refine ⟨fF (by rw [h.1];decide),fF ?_⟩
 rcases h.2 with q | q<;>rw [q]<;>decide
theorem Ff (h:Ex r l l') (hs:isSet l=true):iF l'=iF l/\Ex r l.tail.tail l'.tail.tail:=by
 obtain ⟨h1,h2⟩:=VH hs
 have ht:=h.tail h1
 unfold iF
 rw [ht.at h2]
 exact ⟨rfl,ht.tail h2⟩
theorem ZA {n n':Nat} {s:ah} {l1:List Sy} (h:Ex r l l') (hx:jA n l=.ok (s,l1)):∃ l1',jA n' l'=.ok (s,l1')/\Ex r l1 l1':=by
 unfold jA at hx ⊢
 rw [J5 h]
 split at hx
 ·rename_i hs
  rw [if_pos hs]
  obtain ⟨e1,e2⟩:=Ff h hs
  cases hx
  exact ⟨_,by rw [e1],e2⟩
 ·rename_i hs
  rw [if_neg hs]
  split at hx
  ·cases hx
  ·rename_i a la e
   obtain ⟨la',e',ha⟩:=J4 (n':=n') h e
   rw [e']
   dsimp only
   split at hx
   ·rename_i hq
    rw [if_pos ((ha.eq (by decide) (by decide)).2 hq)]
    split at hx
    ·cases hx
    ·rename_i b lb eb
     obtain ⟨lb',eb',hb⟩:=J4 (n':=n') (ha.tail (fF (by rw [hq];decide))) eb
     rw [eb']
     dsimp only
     split at hx
     ·cases hx
     ·rename_i h2
      rw [if_neg h2];cases hx;exact ⟨_,rfl,hb⟩
   ·rename_i hq
    rw [if_neg (fun q=>hq ((ha.eq (by decide) (by decide)).1 q))]
    cases hx
    exact ⟨_,rfl,ha⟩
theorem qH {n n':Nat}:∀ (f f':Nat) {s s':ah} {l l' l1:List Sy},f<=f'->Ex r l l'->bB n f s l=.ok (s',l1)->∃ l1',bB n' f' s l'=.ok (s',l1')/\Ex r l1 l1'
 | 0,_,_,_,_,_,_,_,_,hx=>by simp only [bB,bad] at hx;cases hx
 | f+1,0,_,_,_,_,_,hf,_,_=>by omega
 | f+1,f'+1,s,s',l,l',l1,hf,h,hx=>by
  rw [bB] at hx ⊢
  split at hx
  ·rename_i hq
   rw [if_pos ((h.eq (by decide) (by decide)).2 hq)]
   cases hx
   exact ⟨_,rfl,h.tail (fF (by rw [hq];decide))⟩
  ·rename_i hq
   rw [if_neg (fun q=>hq ((h.eq (by decide) (by decide)).1 q))]
   split at hx
   ·cases hx
   ·rename_i p lp e
    obtain ⟨lp',e',hp⟩:=ZA (n':=n') h e
    rw [e']
    exact qH f f' (by omega) hp hx
theorem VI {n n':Nat} {s:ah} {l1:List Sy} (h:Ex r l l') (hx:iG n l=.ok (s,l1)):∃ l1',iG n' l'=.ok (s,l1')/\Ex r l1 l1':=by
 unfold iG at hx ⊢
 have hl:=h.len
 split at hx
 ·rename_i hq
  rw [if_pos ((h.eq (by decide) (by decide)).2 hq)]
  cases e:bB n (l.length+1) [] l.tail with
  | error x=>rw [e] at hx;cases hx
  | ok v=>
   obtain ⟨s0,l0⟩:=v
   rw [e] at hx
   obtain ⟨l0',e',h0⟩:=qH (n':=n') _ (l'.length+1) (by omega) (h.tail (fF (by rw [hq];decide))) e
   rw [e']
   cases hx
   exact ⟨_,rfl,h0⟩
 ·rename_i hq
  rw [if_neg (fun q=>hq ((h.eq (by decide) (by decide)).1 q))]
  exact qH _ _ (by omega) h hx
theorem ZB {n n':Nat} {s:ah} {l1:List Sy} (h:Ex r l l') (hx:eB n l=.ok (s,l1)):∃ l1',eB n' l'=.ok (s,l1')/\Ex r l1 l1':=by
 unfold eB at hx ⊢
 by_cases h0:l=[]
 ·subst h0
  exfalso
  revert hx
  simp [hd,bad]
 ·have ht:=h.tail h0
  rw [h.at h0,J5 h]
  split at hx
  ·rename_i hq
   rw [if_pos hq];exact VI ht hx
  ·rename_i hq
   rw [if_neg hq]
   split at hx
   ·rename_i h2
    rw [if_pos h2]
    split at hx
    ·rename_i hs
     rw [if_pos hs]
     obtain ⟨e1,e2⟩:=Ff h hs
     cases hx
     exact ⟨_,by rw [e1],e2⟩
    ·rename_i hs
     rw [if_neg hs]
     cases e:dJ n l.tail with
     | error x=>rw [e] at hx;cases hx
     | ok v=>
      obtain ⟨c,l0⟩:=v
      rw [e] at hx
      obtain ⟨l0',e',h3⟩:=Fe (n':=n') ht (VG e) e
      rw [e']
      cases hx
      exact ⟨_,rfl,h3⟩
   ·rename_i h2
    rw [if_neg h2]
    split at hx
    ·rename_i h3
     rw [if_pos h3];cases hx;exact ⟨_,rfl,ht⟩
    ·rename_i h3
     rw [if_neg h3]
     split at hx
     ·cases hx
     ·rename_i h4
      rw [if_neg h4];cases hx;exact ⟨_,rfl,ht⟩
theorem PH {n n':Nat} {z:Pn} {l1:List Sy} (h:Ex r l l') (hx:kY (eB n l)=.ok (z,l1)):∃ l1',kY (eB n' l')=.ok (z,l1')/\Ex r l1 l1':=by
 cases e:eB n l with
 | error x=>rw [e] at hx;cases hx
 | ok v=>
  obtain ⟨s,l0⟩:=v
  rw [e] at hx
  obtain ⟨l0',e',h0⟩:=ZB (n':=n') h e
  rw [e']
  cases hx
  exact ⟨_,rfl,h0⟩
theorem PI {n n':Nat}:∀ (f f':Nat) {z v:Pn} {l l' l1:List Sy},f<=f'->Ex r l l'->gY n f z l=.ok (v,l1)->∃ l1',gY n' f' z l'=.ok (v,l1')/\Ex r l1 l1'
 | 0,_,_,_,_,_,_,_,_,hx=>by simp only [gY,bad] at hx;cases hx
 | f+1,0,_,_,_,_,_,hf,_,_=>by omega
 | f+1,f'+1,z,v,l,l',l1,hf,h,hx=>by
  rw [gY] at hx ⊢
  rw [h.fn (f:=kH) (by decide)]
  split at hx
  ·rename_i hq
   rw [if_pos hq]
   have hne:l≠[]:=by rintro rfl;revert hq;decide
   split at hx
   ·cases hx
   ·rename_i m lm e
    obtain ⟨lm',e',hm⟩:=Sk (n':=n') h hne e
    rw [e']
    exact PI f f' (by omega) hm hx
  ·rename_i hq
   rw [if_neg hq];cases hx;exact ⟨_,rfl,h⟩
end
end Go.Proofs.YtfolanohokflkaaGreatDoor
namespace Go.Proofs.YtfolanohokflkaaGreatDoor
abbrev EA (r:List Int) (a a':List Sy->bn Pn):Prop:=∀ {l l' l1:List Sy} {v:Pn},Ex r l l'->a l=.ok (v,l1)->∃ l1',a' l'=.ok (v,l1')/\Ex r l1 l1'
section
variable {r:List Int} {n n':Nat} {a a':List Sy->bn Pn}
theorem GM (ha:EA r a a'):∀ (f f':Nat) {l l' l1:List Sy} {v:Pn},f<=f'->Ex r l l'->cO n a f l=.ok (v,l1)->∃ l1',cO n' a' f' l'=.ok (v,l1')/\Ex r l1 l1'
 | 0,_,_,_,_,_,_,_,hx=>by simp only [cO,bad] at hx;cases hx
 | f+1,0,_,_,_,_,hf,_,_=>by omega
 | f+1,f'+1,l,l',l1,v,hf,h,hx=>by
  rw [cO] at hx ⊢
  split at hx
  ·rename_i hq
   rw [if_pos ((h.eq (by decide) (by decide)).2 hq)]
   split at hx
   ·cases hx
   ·rename_i z lz e
    obtain ⟨lz',e',hz⟩:=GM ha f f' (by omega) (h.tail (fF (by rw [hq];decide))) e
    rw [e']
    cases hx
    exact ⟨_,rfl,hz⟩
  ·rename_i hq
   rw [if_neg (fun q=>hq ((h.eq (by decide) (by decide)).1 q))]
   split at hx
   ·cases hx
   ·rename_i z lz e
    obtain ⟨lz',e',hz⟩:=ha h e
    rw [e']
    exact PI _ _ (by have:=hz.len;omega) hz hx
theorem Cv (ha:EA r a a'):∀ (f f':Nat) {z v:List Pn} {l l' l1:List Sy},f<=f'->Ex r l l'->aR n a f z l=.ok (v,l1)->∃ l1',aR n' a' f' z l'=.ok (v,l1')/\Ex r l1 l1'
 | 0,_,_,_,_,_,_,_,_,hx=>by simp only [aR,bad] at hx;cases hx
 | f+1,0,_,_,_,_,_,hf,_,_=>by omega
 | f+1,f'+1,z,v,l,l',l1,hf,h,hx=>by
  rw [aR] at hx ⊢
  rw [h.fn (f:=iE) (by decide)]
  split at hx
  ·rename_i hq
   rw [if_pos hq];cases hx;exact ⟨_,rfl,h⟩
  ·rename_i hq
   rw [if_neg hq]
   split at hx
   ·cases hx
   ·rename_i y ly e
    obtain ⟨ly',e',hy⟩:=GM (n':=n') ha _ (l'.length+1) (by have:=h.len;omega) h e
    rw [e']
    exact Cv ha f f' (by omega) hy hx
theorem ab4 (ha:EA r a a'):EA r (rowP n a) (rowP n' a'):=by
 intro l l' l1 v h hx
 unfold rowP at hx ⊢
 rw [h.fn (f:=iE) (by decide)]
 split at hx
 ·rename_i hq
  rw [if_pos hq];cases hx;exact ⟨_,rfl,h⟩
 ·rename_i hq
  rw [if_neg hq]
  split at hx
  ·cases hx
  ·rename_i y ly e
   obtain ⟨ly',e',hy⟩:=GM (n':=n') ha _ (l'.length+1) (by have:=h.len;omega) h e
   rw [e']
   dsimp only
   cases e2:aR n a (ly.length+1) [y] ly with
   | error x=>rw [e2] at hx;cases hx
   | ok w=>
    obtain ⟨z,lz⟩:=w
    rw [e2] at hx
    obtain ⟨lz',e3,hz⟩:=Cv (n':=n') ha _ (ly'.length+1) (by have:=hy.len;omega) hy e2
    rw [e3]
    cases hx
    exact ⟨_,rfl,hz⟩
theorem Cw {sg:Int} (h1:sg≠-1) (h2:sg≠41) (ha:EA r a a'):∀ (f f':Nat) {z v:List Pn} {l l' l1:List Sy},f<=f'->Ex r l l'->aX n a sg f z l=.ok (v,l1)->∃ l1',aX n' a' sg f' z l'=.ok (v,l1')/\Ex r l1 l1'
 | 0,_,_,_,_,_,_,_,_,hx=>by simp only [aX,bad] at hx;cases hx
 | f+1,0,_,_,_,_,_,hf,_,_=>by omega
 | f+1,f'+1,z,v,l,l',l1,hf,h,hx=>by
  rw [aX] at hx ⊢
  split at hx
  ·rename_i hq
   rw [if_pos ((h.eq h1 h2).2 hq)]
   split at hx
   ·cases hx
   ·rename_i y ly e
    obtain ⟨ly',e',hy⟩:=ha (h.tail (fF (by rw [hq];exact h1))) e
    rw [e']
    exact Cw h1 h2 ha f f' (by omega) hy hx
  ·rename_i hq
   rw [if_neg (fun q=>hq ((h.eq h1 h2).1 q))];cases hx;exact ⟨_,rfl,h⟩
theorem VJ {sg:Int} (h1:sg≠-1) (h2:sg≠41) (ha:EA r a a') (g:List Pn->Pn):EA r (ma n a sg g) (ma n' a' sg g):=by
 intro l l' l1 v h hx
 unfold ma at hx ⊢
 split at hx
 ·cases hx
 ·rename_i y ly e
  obtain ⟨ly',e',hy⟩:=ha h e
  rw [e']
  dsimp only
  cases e2:aX n a sg (ly.length+1) [y] ly with
  | error x=>rw [e2] at hx;cases hx
  | ok w=>
   obtain ⟨z,lz⟩:=w
   rw [e2] at hx
   obtain ⟨lz',e3,hz⟩:=Cw (n':=n') h1 h2 ha _ (ly'.length+1) (by have:=hy.len;omega) hy e2
   rw [e3]
   cases hx
   exact ⟨_,rfl,hz⟩
theorem Fg (ha:EA r a a'):EA r (bU n a) (bU n' a'):=VJ (by decide) (by decide) (VJ (by decide) (by decide) (ab4 ha) _) _
theorem ZC (k:Nat):EA r (bH n k) (bH n' k):=by
 induction k with
 | zero=>
  intro l l' l1 v h hx
  rw [bH] at hx ⊢
  split at hx
  ·simp only [bad] at hx;cases hx
  ·rename_i hq
   rw [if_neg (fun q=>hq ((h.eq (by decide) (by decide)).1 q))]
   exact PH h hx
 | succ k ih=>
  intro l l' l1 v h hx
  rw [bH] at hx ⊢
  split at hx
  ·rename_i hq
   rw [if_pos ((h.eq (by decide) (by decide)).2 hq)]
   cases e:bU n (bH n k) l.tail with
   | error x=>rw [e] at hx;cases hx
   | ok w=>
    obtain ⟨z,lz⟩:=w
    rw [e] at hx
    obtain ⟨lz',e',hz⟩:=Fg (n':=n') ih (h.tail (fF (by rw [hq];decide))) e
    rw [e']
    change (if hd lz=41 then (Except.ok (z,lz.tail):bn Pn) else bad 2 n lz)=_ at hx
    show ∃ l1',(if hd lz'=41 then (Except.ok (z,lz'.tail):bn Pn) else bad 2 n' lz')=_/\_
    split at hx
    ·rename_i hq2
     have hne:lz≠[]:=fF (by rw [hq2];decide)
     rw [if_pos (by rw [hz.at hne];exact hq2)]
     cases hx
     exact ⟨_,rfl,hz.tail hne⟩
    ·simp only [bad] at hx;cases hx
  ·rename_i hq
   rw [if_neg (fun q=>hq ((h.eq (by decide) (by decide)).1 q))]
   exact PH h hx
end
end Go.Proofs.YtfolanohokflkaaGreatDoor
namespace Go.Proofs.YtfolanohokflkaaGreatDoor
abbrev Ym (a a':List Sy->bn Pn):Prop:=∀ l v,a l=.ok v->a' l=.ok v
section
variable {n:Nat} {a a':List Sy->bn Pn}
theorem GN (ha:Ym a a'):∀ (f:Nat) (l:List Sy) (v:Pn×List Sy),cO n a f l=.ok v->cO n a' f l=.ok v
 | 0,_,_,hx=>by simp only [cO,bad] at hx;cases hx
 | f+1,l,v,hx=>by
  rw [cO] at hx ⊢
  split at hx
  ·rename_i hq
   rw [if_pos hq]
   split at hx
   ·cases hx
   ·rename_i z lz e
    rw [GN ha f _ _ e]
    exact hx
  ·rename_i hq
   rw [if_neg hq]
   split at hx
   ·cases hx
   ·rename_i z lz e
    rw [ha _ _ e]
    exact hx
theorem Cx (ha:Ym a a'):∀ (f:Nat) (z:List Pn) (l:List Sy) (v:List Pn×List Sy),aR n a f z l=.ok v->aR n a' f z l=.ok v
 | 0,_,_,_,hx=>by simp only [aR,bad] at hx;cases hx
 | f+1,z,l,v,hx=>by
  rw [aR] at hx ⊢
  split at hx
  ·rename_i hq
   rw [if_pos hq];exact hx
  ·rename_i hq
   rw [if_neg hq]
   split at hx
   ·cases hx
   ·rename_i y ly e
    rw [GN ha _ _ _ e]
    exact Cx ha f _ _ _ hx
theorem ab5 (ha:Ym a a'):Ym (rowP n a) (rowP n a'):=by
 intro l v hx
 unfold rowP at hx ⊢
 split at hx
 ·rename_i hq
  rw [if_pos hq];exact hx
 ·rename_i hq
  rw [if_neg hq]
  split at hx
  ·cases hx
  ·rename_i y ly e
   rw [GN ha _ _ _ e]
   dsimp only
   cases e2:aR n a (ly.length+1) [y] ly with
   | error x=>rw [e2] at hx;cases hx
   | ok w=>rw [e2] at hx;rw [Cx ha _ _ _ _ e2];exact hx
theorem Cy {sg:Int} (ha:Ym a a'):∀ (f:Nat) (z:List Pn) (l:List Sy) (v:List Pn×List Sy),aX n a sg f z l=.ok v->aX n a' sg f z l=.ok v
 | 0,_,_,_,hx=>by simp only [aX,bad] at hx;cases hx
 | f+1,z,l,v,hx=>by
  rw [aX] at hx ⊢
  split at hx
  ·rename_i hq
   rw [if_pos hq]
   split at hx
   ·cases hx
   ·rename_i y ly e
    rw [ha _ _ e]
    exact Cy ha f _ _ _ hx
  ·rename_i hq
   rw [if_neg hq];exact hx
theorem VK {sg:Int} (ha:Ym a a') (g:List Pn->Pn):Ym (ma n a sg g) (ma n a' sg g):=by
 intro l v hx
 unfold ma at hx ⊢
 split at hx
 ·cases hx
 ·rename_i y ly e
  rw [ha _ _ e]
  dsimp only
  cases e2:aX n a sg (ly.length+1) [y] ly with
  | error x=>rw [e2] at hx;cases hx
  | ok w=>rw [e2] at hx;rw [Cy ha _ _ _ _ e2];exact hx
theorem Fh (ha:Ym a a'):Ym (bU n a) (bU n a'):=VK (VK (ab5 ha) _) _
theorem PK:∀ k:Nat,Ym (bH n k) (bH n (k+1))
 | 0=>by
  intro l v hx
  rw [bH] at hx
  show (if hd l=40 then DZ n (bU n (bH n 0) l.tail) else kY (eB n l))=_
  split at hx
  ·simp only [bad] at hx;cases hx
  ·rename_i hq
   rw [if_neg hq];exact hx
 | k+1=>by
  intro l v hx
  rw [bH] at hx
  show (if hd l=40 then DZ n (bU n (bH n (k+1)) l.tail) else kY (eB n l))=_
  split at hx
  ·rename_i hq
   rw [if_pos hq]
   cases e:bU n (bH n k) l.tail with
   | error x=>rw [e] at hx;cases hx
   | ok w=>rw [e] at hx;rw [Fh (PK k) _ _ e];exact hx
  ·rename_i hq
   rw [if_neg hq];exact hx
end
end Go.Proofs.YtfolanohokflkaaGreatDoor
namespace Go.Proofs.YtfolanohokflkaaGreatDoor
theorem VL {S B:ByteArray} {a j:Nat} (hs:a+B.size<=S.size) (hg:∀ k,k<B.size->S.get! (a+k)=B.get! k) (he:a+B.size=S.size\/(S.get! (a+B.size)).toNat<128) (hj:j<=B.size):nG S (a+j)=nG B j:=by
 by_cases h:j<B.size
 ·unfold nG
  rw [hg j h]
  by_cases q:(B.get! j).toNat / 64=2
  ·rw [if_pos ⟨by omega,q⟩,if_pos ⟨h,q⟩]
  ·rw [if_neg fun x=>q x.2,if_neg fun x=>q x.2]
 ·have e:j=B.size:=by omega
  subst e
  rw [jK (s:=B) (fun x=>h x.1),jK]
  rintro ⟨x,y⟩
  rcases he with he | he<;>omega
theorem qI {S B:ByteArray} {a i:Nat} (hs:a+B.size<=S.size) (hg:∀ k,k<B.size->S.get! (a+k)=B.get! k) (he:a+B.size=S.size\/(S.get! (a+B.size)).toNat<128):∀ (m k:Nat) (n:Int),i+k<=B.size->eD S (a+i) m k n=eD B i m k n
 | 0,_,_,_=>rfl
 | m+1,k,n,h=>by
  have e:nG S (a+i+k)=nG B (i+k):=by rw [Nat.add_assoc];exact VL hs hg he h
  rw [eD,eD,e]
  split
  ·rfl
  ·rename_i q
   refine qI hs hg he m (k+1) _ ?_
   have:i+k<B.size:=by
    refine Classical.byContradiction fun x=>q ?_
    rw [jK (fun y=>x y.1)];decide
   omega
theorem Sl {S B:ByteArray} {a i:Nat} (hs:a+B.size<=S.size) (hg:∀ k,k<B.size->S.get! (a+k)=B.get! k) (he:a+B.size=S.size\/(S.get! (a+B.size)).toNat<128) (hi:i<B.size):Utf8.decode S (a+i)=Utf8.decode B i:=by
 have e:rA S (a+i)=rA B i:=by
  unfold rA
  rw [hg i hi]
  simp only []
  rw [qI hs hg he _ _ _ (by omega),qI hs hg he _ _ _ (by omega),qI hs hg he _ _ _ (by omega)]
 rw [jh,jh] at e
 have e1:=congrArg Prod.fst e
 have e2:=congrArg Prod.snd e
 exact Prod.ext (Int.ofNat.inj e1) (Int.ofNat.inj e2)
theorem Nj {S:ByteArray} {a:Nat} (h:(S.get! a).toNat<128):Utf8.decode S a=((S.get! a).toNat,1):=by
 unfold Utf8.decode
 simp only [Nat.add_zero]
 rw [if_pos h]
def vals (l:List Sy):List Int:=l.map fun x=>(x.c:Int)
theorem J6 {S B:ByteArray} {a:Nat} (hs:a+B.size<=S.size) (hg:∀ k,k<B.size->S.get! (a+k)=B.get! k) (he:a+B.size=S.size\/(S.get! (a+B.size)).toNat<128):∀ (d i:Nat),B.size - i<=d->i<=B.size->vals (af S (a+i))=vals (af B i)++vals (af S (a+B.size))
 | 0,i,h,hi=>by
  have:i=B.size:=by omega
  subst this
  rw [dA B _ (Nat.le_refl _)]
  rfl
 | d+1,i,h,hi=>by
  by_cases e:i=B.size
  ·subst e
   rw [dA B _ (Nat.le_refl _)]
   rfl
  ·have hlt:i<B.size:=by omega
   have hw:=dz B i hlt
   rw [dn S (a+i) (by omega),dn B i hlt,Sl hs hg he hlt]
   show ((Utf8.decode B i).1:Int)::vals (af S (a+i+(Utf8.decode B i).2))=((Utf8.decode B i).1:Int)::(vals (af B (i+(Utf8.decode B i).2))++_)
   rw [Nat.add_assoc,J6 hs hg he d _ (by omega) hw.2]
theorem VM {S:ByteArray} {a:Nat} (ha:a<S.size) (h:(S.get! a).toNat<128):vals (af S a)=((S.get! a).toNat:Int)::vals (af S (a+1)):=by
 rw [dn S a ha,Nj h]
 rfl
theorem ZE {S:ByteArray} {X Y:List UInt8} {b:UInt8} (h:S.data.toList=X++b::Y):S.get! X.length=b:=by
 have hl:X.length<S.size:=by
  have:=congrArg List.length h
  simp at this
  rw [this];omega
 rw [pz S _ hl]
 have e:S.data.toList[X.length]? = some b:=by rw [h];simp
 have e2:S.data.toList[X.length]? = some S[X.length]:=by
  rw [List.getElem?_eq_getElem (by simpa using hl)];rfl
 rw [e2] at e
 exact Option.some.inj e
theorem nC (S:ByteArray):S.size=S.data.toList.length:=by simp
theorem lL {S:ByteArray} {X Y:List UInt8} {b:UInt8} (h:S.data.toList=X++b::Y) (hb:b.toNat<128):vals (af S X.length)=(b.toNat:Int)::vals (af S (X++[b]).length):=by
 have hg:=ZE h
 have hl:X.length<S.size:=by rw [nC,h];simp
 rw [VM hl (by rw [hg];exact hb),hg]
 simp
theorem yz {S B:ByteArray} {X Y:List UInt8} {b:UInt8} (h:S.data.toList=X++(B.data.toList++b::Y)) (hb:b.toNat<128):vals (af S X.length)=vals (af B 0)++vals (af S (X++B.data.toList).length):=by
 have e:(X++B.data.toList).length=X.length+B.size:=by rw [List.length_append,nC]
 rw [e]
 have hsz:S.size=X.length+(B.size+(1+Y.length)):=by rw [nC,h,nC B];simp;omega
 refine J6 (S:=S) (B:=B) (a:=X.length) (by omega) (fun k hk=>?_) (.inr ?_) B.size 0 (by omega) (by omega)
 ·have hk':k<B.data.toList.length:=by rw [<-nC];exact hk
  have hs:B.data.toList=B.data.toList.take k++B.data.toList[k]::B.data.toList.drop (k+1):=by
   rw [List.getElem_cons_drop,List.take_append_drop]
  have h2:S.data.toList=(X++B.data.toList.take k)++B.data.toList[k]::(B.data.toList.drop (k+1)++b::Y):=by
   rw [h]
   conv=>lhs;rw [hs]
   simp only [List.append_assoc,List.cons_append]
  have g1:=ZE h2
  have g2:=ZE (S:=B) hs
  have e1:(X++B.data.toList.take k).length=X.length+k:=by rw [List.length_append,List.length_take];omega
  have e2:(B.data.toList.take k).length=k:=by rw [List.length_take];omega
  rw [e1] at g1
  rw [e2] at g2
  rw [g1,g2]
 ·have h2:S.data.toList=(X++B.data.toList)++b::Y:=by rw [h];simp
  have g:=ZE h2
  rw [e] at g
  rw [g];exact hb
theorem J7 {S:ByteArray} {X:List UInt8} (h:S.data.toList=X):vals (af S X.length)=[]:=by
 rw [dA S _ (by rw [nC,h];exact Nat.le_refl _)];rfl
end Go.Proofs.YtfolanohokflkaaGreatDoor
