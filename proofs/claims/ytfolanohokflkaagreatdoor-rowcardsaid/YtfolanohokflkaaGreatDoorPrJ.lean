import Derived.Test.YtfolanohokflkaaGreatDoorPrI
namespace Go.Proofs.YtfolanohokflkaaGreatDoor
def rF (W:Nat->Nat->Bool):Nat->Nat->Bool
 | 0,k=>decide (k=0)
 | i+1,k=>rF W i k||(rF W i i&&decide (i<k)&&W i k)
def rG (W:Nat->Nat->Bool) (i j k:Nat):Bool:=rF W i k||(rF W i i&&decide (i<k)&&decide (k<j)&&W i k)
section
variable {W:Nat->Nat->Bool}
theorem X3 (i k:Nat):rG W i (i+1) k=rF W i k:=by
 unfold rG
 by_cases h:i<k
 ·have:¬ k<i+1:=by omega
  simp [this]
 ·simp [h]
theorem ac2 {i j k:Nat} (h:k<j):rG W i j k=rF W (i+1) k:=by
 unfold rG
 rw [rF]
 simp [h]
theorem aaQ (i j:Nat):rG W i j i=rF W i i:=by
 unfold rG
 simp
theorem aeo {i j k:Nat} (h:rF W i i=false):rG W i j k=rF W i k:=by
 unfold rG
 simp [h]
theorem aep {i k:Nat} (h:rF W i i=false):rF W (i+1) k=rF W i k:=by
 rw [rF]
 simp [h]
theorem aaR {i j:Nat} (h:rF W i i=true) (hij:i<j) (k:Nat):rG W i (j+1) k=if k=j then (rG W i j j||W i j) else rG W i j k:=by
 unfold rG
 by_cases e:k=j
 ·subst e
  rw [if_pos rfl]
  simp [h,hij]
 ·rw [if_neg e]
  have:(k<j+1)↔k<j:=by omega
  simp [this]
theorem Q4:∀ m,rF W m 0=true
 | 0=>rfl
 | m+1=>by rw [rF,Q4 m];rfl
theorem Ic:∀ m k,rF W m k=true↔k=0\/∃ i,i<m/\i<k/\rF W i i=true/\W i k=true
 | 0,k=>by
  rw [rF]
  simp
 | m+1,k=>by
  rw [rF,Bool.or_eq_true,Ic m k]
  simp only [Bool.and_eq_true,decide_eq_true_eq]
  constructor
  ·rintro ((h | ⟨i,h1,h2,h3,h4⟩) | ⟨⟨h1,h2⟩,h3⟩)
   ·exact .inl h
   ·exact .inr ⟨i,by omega,h2,h3,h4⟩
   ·exact .inr ⟨m,by omega,h2,h1,h3⟩
  ·rintro (h | ⟨i,h1,h2,h3,h4⟩)
   ·exact .inl (.inl h)
   ·by_cases e:i=m
    ·subst e
     exact .inr ⟨⟨h3,h2⟩,h4⟩
    ·exact .inl (.inr ⟨i,by omega,h2,h3,h4⟩)
theorem Q5 {i m:Nat} (h:i<=m):rF W m i=rF W i i:=by
 rw [Bool.eq_iff_iff,Ic,Ic]
 constructor
 ·rintro (q | ⟨a,h1,h2,h3⟩)
  ·exact .inl q
  ·exact .inr ⟨a,h2,h2,h3⟩
 ·rintro (q | ⟨a,h1,h2,h3⟩)
  ·exact .inl q
  ·exact .inr ⟨a,by omega,h2,h3⟩
end
theorem OA {P:Pt} (hp:oZ P) {cs:List Int} (hc:dU cs):rF (fun i j=>qZ P ((cs.take j).drop i)) (cs.length+1) cs.length=qZ (.rep P 0 none) cs:=by
 rw [Bool.eq_iff_iff,SA hp hc]
 refine Np (R:=fun k=>rF (fun i j=>qZ P ((cs.take j).drop i)) (cs.length+1) k=true) (Q4 _) fun j h0 hj=>?_
 rw [Ic]
 have hs:∀ i,dU ((cs.take j).drop i):=fun i c hcm=>hc c (List.mem_of_mem_take (List.mem_of_mem_drop hcm))
 constructor
 ·rintro (q | ⟨i,h1,h2,h3,h4⟩)
  ·omega
  ·exact ⟨i,h2,(Q5 (by omega)).trans h3,(mr hp (hs i)).1 h4⟩
 ·rintro ⟨i,h1,h2,h3⟩
  exact .inr ⟨i,by omega,h1,(Q5 (by omega)).symm.trans h2,(mr hp (hs i)).2 h3⟩
end Go.Proofs.YtfolanohokflkaaGreatDoor
