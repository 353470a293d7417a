import Derived.Test.YtfolanohokflkaaGreatDoorProC
import Derived.WalkKit
import Derived.WalkSpells
import Derived.WalkLawsBesides
import Derived.WalkMore
import Derived.Laws.EntriesVeiled
import Derived.Test.YtfolanohokflkaaGreatDoorSvF
import Derived.Test.YtfolanohokflkaaGreatDoorLnO
namespace Go.Proofs.YtfolanohokflkaaGreatDoor
open Go.RowKit
set_option maxRecDepth 100000 in
set_option maxHeartbeats 4000000 in
theorem Vq (w:World):Calls Tryz.prog 118 #[] w fun e w'=>e=.returned (.agg #[fv 163,fv 164,fv 166])/\Hid (Below w.heap.size w w'):=by
 go_enter Tryz.func118,Tryz.ntmps118
 go_wp2_with fail
 refine bodyPost_ret (v:=.agg #[fv 163,fv 164,fv 166]) ?_ ?_ ?_
 ·simp [results,Tryz.results118,go_sem]
 ·rfl
 ·exact ⟨rfl,(Below.refl _ _).alloc (Nat.le_refl _) _⟩
set_option maxRecDepth 100000 in
set_option maxHeartbeats 4000000 in
theorem RJ (w:World):Calls Tryz.prog 119 #[] w fun e w'=>e=.returned (.agg #[fv 168,fv 169,fv 170])/\Hid (Below w.heap.size w w'):=by
 go_enter Tryz.func119,Tryz.ntmps119
 go_wp2_with fail
 refine bodyPost_ret (v:=.agg #[fv 168,fv 169,fv 170]) ?_ ?_ ?_
 ·simp [results,Tryz.results119,go_sem]
 ·rfl
 ·exact ⟨rfl,(Below.refl _ _).alloc (Nat.le_refl _) _⟩
set_option maxRecDepth 100000 in
set_option maxHeartbeats 4000000 in
theorem M_ (w:World):Calls Tryz.prog 120 #[] w fun e w'=>e=.returned (.agg #[fv 171,fv 172,fv 173])/\Hid (Below w.heap.size w w'):=by
 go_enter Tryz.func120,Tryz.ntmps120
 go_wp2_with fail
 refine bodyPost_ret (v:=.agg #[fv 171,fv 172,fv 173]) ?_ ?_ ?_
 ·simp [results,Tryz.results120,go_sem]
 ·rfl
 ·exact ⟨rfl,(Below.refl _ _).alloc (Nat.le_refl _) _⟩
set_option maxRecDepth 100000 in
set_option maxHeartbeats 4000000 in
theorem RL (w:World):Calls Tryz.prog 121 #[] w fun e w'=>e=.returned (.agg #[fv 175,fv 176,fv 177])/\Hid (Below w.heap.size w w'):=by
 go_enter Tryz.func121,Tryz.ntmps121
 go_wp2_with fail
 refine bodyPost_ret (v:=.agg #[fv 175,fv 176,fv 177]) ?_ ?_ ?_
 ·simp [results,Tryz.results121,go_sem]
 ·rfl
 ·exact ⟨rfl,(Below.refl _ _).alloc (Nat.le_refl _) _⟩
set_option maxRecDepth 100000 in
set_option maxHeartbeats 4000000 in
theorem Vr (w:World):Calls Tryz.prog 122 #[] w fun e w'=>e=.returned (.agg #[fv 178,fv 179,fv 182])/\Hid (Below w.heap.size w w'):=by
 go_enter Tryz.func122,Tryz.ntmps122
 go_wp2_with fail
 refine bodyPost_ret (v:=.agg #[fv 178,fv 179,fv 182]) ?_ ?_ ?_
 ·simp [results,Tryz.results122,go_sem]
 ·rfl
 ·exact ⟨rfl,(Below.refl _ _).alloc (Nat.le_refl _) _⟩
set_option maxRecDepth 100000 in
set_option maxHeartbeats 4000000 in
theorem Vs (w:World):Calls Tryz.prog 123 #[] w fun e w'=>e=.returned (.agg #[fv 183,fv 184,fv 185])/\Hid (Below w.heap.size w w'):=by
 go_enter Tryz.func123,Tryz.ntmps123
 go_wp2_with fail
 refine bodyPost_ret (v:=.agg #[fv 183,fv 184,fv 185]) ?_ ?_ ?_
 ·simp [results,Tryz.results123,go_sem]
 ·rfl
 ·exact ⟨rfl,(Below.refl _ _).alloc (Nat.le_refl _) _⟩
set_option maxRecDepth 100000 in
set_option maxHeartbeats 4000000 in
theorem Vt (w:World):Calls Tryz.prog 124 #[] w fun e w'=>e=.returned (.agg #[fv 186,fv 187,fv 188])/\Hid (Below w.heap.size w w'):=by
 go_enter Tryz.func124,Tryz.ntmps124
 go_wp2_with fail
 refine bodyPost_ret (v:=.agg #[fv 186,fv 187,fv 188]) ?_ ?_ ?_
 ·simp [results,Tryz.results124,go_sem]
 ·rfl
 ·exact ⟨rfl,(Below.refl _ _).alloc (Nat.le_refl _) _⟩
theorem RN {B g:Nat} {w0 w:World} (hb:Below B w0 w) (hg:B<=g) (cs:Array Value):Below B w0 (w.setRow g cs):=
 ⟨hb.os,hb.tape,hb.output,by rw [size_setRow];exact hb.size,fun k hk=>(setRow_other w g k cs (by omega)).trans (hb.block k hk)⟩
set_option maxRecDepth 100000 in
set_option maxHeartbeats 4000000 in
theorem Cj (w:World):Calls Tryz.prog 83 #[] w fun e w'=>e=.returned (.agg dN.toArray)/\Hid (Below w.heap.size w w'):=by
 go_enter Tryz.func83,Tryz.ntmps83
 have hb0:=heap_alloc_new w (.cells (List.replicate 21 Value.nilFunc).toArray 124)
 have hs0:w.heap.size<(w.alloc (.cells (List.replicate 21 Value.nilFunc).toArray 124)).heap.size:=by simp
 go_wp2_with (first
  | (go_at_call 118;refine (Vq _).mono ?_;rintro x w1 ⟨rfl,HB1⟩;have hb1:=((aa HB1).block _ hs0).trans hb0;have hs1:=Nat.lt_of_lt_of_le hs0 (aa HB1).size)
  | (go_at_call 119;refine (RJ _).mono ?_;rintro x w2 ⟨rfl,HB2⟩;have hb2:=((aa HB2).block _ hs1).trans hb1;have hs2:=Nat.lt_of_lt_of_le hs1 (aa HB2).size)
  | (go_at_call 120;refine (M_ _).mono ?_;rintro x w3 ⟨rfl,HB3⟩;have hb3:=((aa HB3).block _ hs2).trans hb2;have hs3:=Nat.lt_of_lt_of_le hs2 (aa HB3).size)
  | (go_at_call 121;refine (RL _).mono ?_;rintro x w4 ⟨rfl,qh⟩;have hb4:=((aa qh).block _ hs3).trans hb3;have hs4:=Nat.lt_of_lt_of_le hs3 (aa qh).size)
  | (go_at_call 122;refine (Vr _).mono ?_;rintro x w5 ⟨rfl,kz⟩;have hb5:=((aa kz).block _ hs4).trans hb4;have hs5:=Nat.lt_of_lt_of_le hs4 (aa kz).size)
  | (go_at_call 123;refine (Vs _).mono ?_;rintro x w6 ⟨rfl,Dz⟩;have hb6:=((aa Dz).block _ hs5).trans hb5;have hs6:=Nat.lt_of_lt_of_le hs5 (aa Dz).size)
  | (go_at_call 124;refine (Vt _).mono ?_;rintro x w7 ⟨rfl,HB7⟩;have LU:=((aa HB7).block _ hs6).trans hb6;have hs7:=Nat.lt_of_lt_of_le hs6 (aa HB7).size;clear hb0 hb1 hb2 hb3 hb4 hb5 hb6 hs0 hs1 hs2 hs3 hs4 hs5 hs6)
  | (refine wpList_store_row rfl _ _ _ rfl w.heap.size dN.toArray rfl rfl _ _ LU (by kernel_rfl) rfl (by kernel_rfl) ?_))
 have hq:=setRow_heap w7 w.heap.size _ dN.toArray _ _ LU
 have hr:=run_loadVar_row (P:=Tryz.prog) (w7.setRow w.heap.size dN.toArray) w.heap.size 124 124 dN.toArray (0,0) _ hq Tryz.underlying124 rfl (by kernel_rfl)
 refine bodyPost_ret (v:=.agg dN.toArray) ?_ ?_ ?_
 ·unfold results
  rw [Tryz.results83]
  simp [Act.put,asAddr]
  exact hr
 ·rfl
 ·refine ⟨rfl,RN ?_ (Nat.le_refl _) _⟩
  have h1:=((Below.refl w.heap.size w).alloc (Nat.le_refl _) (.cells (List.replicate 21 Value.nilFunc).toArray 124))
  have b1:=h1.trans ((aa HB1).mono h1.size)
  have b2:=b1.trans ((aa HB2).mono b1.size)
  have b3:=b2.trans ((aa HB3).mono b2.size)
  have b4:=b3.trans ((aa qh).mono b3.size)
  have b5:=b4.trans ((aa kz).mono b4.size)
  have b6:=b5.trans ((aa Dz).mono b5.size)
  exact b6.trans ((aa HB7).mono b6.size)
def nO:List Te:=[(⟨0,⟨#[]⟩,0,0⟩,false),(⟨1,⟨#[]⟩,0,0⟩,true),(⟨6,⟨#[]⟩,0,0⟩,true)]
def ky0:Ky:=⟨0,⟨#[]⟩,0,0⟩
def vH:Ky:=⟨1,⟨#[]⟩,0,0⟩
def ky6:Ky:=⟨6,⟨#[]⟩,0,0⟩
def RO:List Te:=[(ky0,false)]
def RQ:List Te:=[(ky0,false),(vH,true)]
theorem aaI:dP [] ky0=(RO,0):=by rfl
theorem aaJ:dP RO vH=(RQ,1):=by rfl
theorem aaK:dP RQ ky6=(nO,2):=by rfl
theorem abD {w:World} {t:TB} (h:Hid (aX w t [] (ak []) [] [])):Calls Tryz.prog 84 #[.pointer (some ⟨t.tb,0,none⟩),.agg #[.int .i64 0,.string ⟨#[]⟩,.int .i64 0,.int .i64 0]] w fun e w'=>e=.returned (.int .i64 (0:Nat))/\∃ t',Hid (aX w' t' RO (ak RO) [] [])/\Hid (a_ t t' w w'):=by
 have h1:=lQ (k:=ky0) h ⟨zx,uD,zx,zx⟩ (.inl rfl) (by rw [aaI];decide)
 rw [aaI] at h1
 exact h1
theorem abE {w:World} {t:TB} (h:Hid (aX w t RO (ak RO) [] [])):Calls Tryz.prog 84 #[.pointer (some ⟨t.tb,0,none⟩),.agg #[.int .i64 1,.string ⟨#[]⟩,.int .i64 0,.int .i64 0]] w fun e w'=>e=.returned (.int .i64 (1:Nat))/\∃ t',Hid (aX w' t' RQ (ak RQ) [] [])/\Hid (a_ t t' w w'):=by
 have h1:=lQ (k:=vH) h ⟨aeb,uD,zx,zx⟩ (.inr (.inl rfl)) (by rw [aaJ];decide)
 rw [aaJ] at h1
 exact h1
theorem abF {w:World} {t:TB} (h:Hid (aX w t RQ (ak RQ) [] [])):Calls Tryz.prog 84 #[.pointer (some ⟨t.tb,0,none⟩),.agg #[.int .i64 6,.string ⟨#[]⟩,.int .i64 0,.int .i64 0]] w fun e w'=>e=.returned (.int .i64 (2:Nat))/\∃ t',Hid (aX w' t' nO (ak nO) [] [])/\Hid (a_ t t' w w'):=by
 have h1:=lQ (k:=ky6) h ⟨acO,uD,zx,zx⟩ (.inr (.inr (.inr ⟨.inr rfl,0,by decide,rfl⟩))) (by rw [aaK];decide)
 rw [aaK] at h1
 exact h1
def tb0 (w:World):TB:=⟨w.heap.size+1+1+1,w.heap.size,w.heap.size+1,w.heap.size+1+1,none,0,0⟩
theorem Vu (w:World):aX ((((w.alloc (mkMap [])).alloc (mkMap [])).alloc (mkMap [])).alloc (.cells (n_ (tb0 w)).toArray 131)) (tb0 w) [] (ak []) [] []:=by
 have s1:(w.alloc (mkMap [])).heap.size=w.heap.size+1:=by simp
 have s2:((w.alloc (mkMap [])).alloc (mkMap [])).heap.size=w.heap.size+1+1:=by simp
 have s3:(((w.alloc (mkMap [])).alloc (mkMap [])).alloc (mkMap [])).heap.size=w.heap.size+1+1+1:=by simp
 refine ⟨?_,?_,?_,?_,World.ownsRow_nil _ _ _ _,?_,(fun a h=>by cases h),(fun x h=>by cases h),List.nodup_nil⟩
 ·have h:=heap_alloc_new (((w.alloc (mkMap [])).alloc (mkMap [])).alloc (mkMap [])) (.cells (n_ (tb0 w)).toArray 131)
  rw [s3] at h
  exact h
 ·have h:=heap_alloc_new w (mkMap [])
  exact (Below.heap_alloc _ _ _ (by rw [s3];show w.heap.size<_;omega)).trans ((Below.heap_alloc _ _ _ (by rw [s2];show w.heap.size<_;omega)).trans ((Below.heap_alloc _ _ _ (by rw [s1];show w.heap.size<_;omega)).trans h))
 ·have h:=heap_alloc_new (w.alloc (mkMap [])) (mkMap [])
  rw [s1] at h
  exact (Below.heap_alloc _ _ _ (by rw [s3];show w.heap.size+1<_;omega)).trans ((Below.heap_alloc _ _ _ (by rw [s2];show w.heap.size+1<_;omega)).trans h)
 ·have h:=heap_alloc_new ((w.alloc (mkMap [])).alloc (mkMap [])) (mkMap [])
  rw [s2] at h
  exact (Below.heap_alloc _ _ _ (by rw [s3];show w.heap.size+1+1<_;omega)).trans h
 ·show w.heap.size+1+1+1≠w.heap.size/\w.heap.size+1+1+1≠w.heap.size+1/\w.heap.size+1+1+1≠w.heap.size+1+1/\w.heap.size≠w.heap.size+1/\w.heap.size≠w.heap.size+1+1/\w.heap.size+1≠w.heap.size+1+1
  omega
theorem JV (w:World):∀ k,TF (tb0 w) k->w.heap.size<=k:=by
 intro k hk
 have hk':k=w.heap.size+1+1+1\/k=w.heap.size\/k=w.heap.size+1\/k=w.heap.size+1+1\/(none:Option Nat)=some k:=hk
 rcases hk' with e | e | e | e | e
 ·omega
 ·omega
 ·omega
 ·omega
 ·cases e
theorem a_.base {t t':TB} {w0 w w':World} (h:Hid (a_ t t' w w')) (hb:Hid (Below w0.heap.size w0 w)) (ht:∀ k,TF t k->w0.heap.size<=k):Hid (Below w0.heap.size w0 w'):=by
 have h1:=aa h
 have h2:=aa hb
 exact ⟨h1.os.trans h2.os,h1.tape.trans h2.tape,h1.output.trans h2.output,Nat.le_trans h2.size h1.size,fun k hk=>(h1.block k (Nat.lt_of_lt_of_le hk h2.size) (fun hf=>by have:=ht k hf;omega)).trans (h2.block k hk)⟩
set_option maxRecDepth 100000 in
set_option maxHeartbeats 4000000 in
theorem GD (w:World):Calls Tryz.prog 58 #[] w fun e w'=>∃ t,e=.returned (.pointer (some ⟨t.tb,0,none⟩))/\Hid (aX w' t nO (ak nO) [] [])/\Hid (Below w.heap.size w w')/\∀ k,TF t k->w.heap.size<=k:=by
 have hm1:∀ w:World,(Instr.makeMap 126 none).run Tryz.prog w=.ok (.map (some w.heap.size)) (w.alloc (mkMap [])):=fun w=>rfl
 have hm2:∀ w:World,(Instr.makeMap 127 none).run Tryz.prog w=.ok (.map (some w.heap.size)) (w.alloc (mkMap [])):=fun w=>rfl
 have hm3:∀ w:World,(Instr.makeMap 128 none).run Tryz.prog w=.ok (.map (some w.heap.size)) (w.alloc (mkMap [])):=fun w=>rfl
 have HK1:Hid (∀ w:World,Calls _ _ _ _ _):=fun w=>abD (hide (Vu w))
 have e1:∀ w:World,(n_ (tb0 w)).toArray=#[fv 163,fv 164,fv 166,fv 168,fv 169,fv 170,fv 171,fv 172,fv 173,fv 175,fv 176,fv 177,fv 178,fv 179,fv 182,fv 183,fv 184,fv 185,fv 186,fv 187,fv 188,.map (some w.heap.size),.slice none 0 0,.map (some (w.heap.size+1)),.map (some (w.heap.size+1+1))]:=fun w=>rfl
 simp only [e1] at HK1
 clear e1
 go_enter Tryz.func58,Tryz.ntmps58
 go_wp2_with (first
  | (go_at_call 83;refine (Cj _).mono ?_;simp only [dN];rintro x w1 ⟨rfl,HB1⟩;have K1:=hide (aa HK1 w1);clear HK1)
  | (go_at_call 84;refine (aa K1).mono ?_;clear K1;rintro x w2 ⟨rfl,t1,HT1,ru⟩;have K2:=hide (abE HT1);rw [(aa ru).tb] at K2)
  | (go_at_call 84;refine (aa K2).mono ?_;clear K2;rintro x w3 ⟨rfl,t2,HT2,uJ⟩;have K3:=hide (abF HT2);rw [(aa uJ).tb,(aa ru).tb] at K3)
  | (go_at_call 84;refine (aa K3).mono ?_;clear K3;rintro x w4 ⟨rfl,t3,HT3,u_⟩))
 go_ret
 have hf:=((aa ru).trans (aa uJ)).trans (aa u_)
 have hb1:=aa HB1
 refine ⟨t3,?_,HT3,?_,?_⟩
 ·rw [hf.tb]
  rfl
 ·refine a_.base (hide hf) ?_ (fun k hk=>Nat.le_trans hb1.size (JV w1 k hk))
  exact (((hb1.alloc hb1.size _).alloc (by have:=hb1.size;simp;omega) _).alloc (by have:=hb1.size;simp;omega) _).alloc (by have:=hb1.size;simp;omega) _
 ·intro k hk
  rcases hf.foot hk with h | h
  ·exact Nat.le_trans hb1.size (JV w1 k h)
  ·refine Nat.le_trans hb1.size (Nat.le_trans ?_ h)
   simp
   omega
end Go.Proofs.YtfolanohokflkaaGreatDoor
namespace Go.Proofs.YtfolanohokflkaaGreatDoor
open Tm (eps)
def kk (k:Bool):Int:=if k=true then 5 else 4
def bW (k:Bool) (i j:Nat):Ky:=⟨kk k,⟨#[]⟩,i,j⟩
inductive Rp (T:List Te):Nat->Tm->Prop where
 | set {n:Nat} {l:af} {b:Bool}:T[n]? = some (kg (encS l),b)->Tidy l->Rp T n (.set l)
 | eps {n:Nat} {b:Bool}:T[n]? = some (vH,b)->Rp T n eps
 | chain {n i j:Nat} {s t:Tm} {b:Bool}:T[n]? = some (bJ i j,b)->Rp T i s->Rp T j t->Rp T n (.chain s t)
 | star {n i:Nat} {s:Tm} {b:Bool}:T[n]? = some (dQ i,b)->Rp T i s->Rp T n (.star s)
 | aZ {n i j:Nat} {k:Bool} {s t:Tm} {b:Bool}:T[n]? = some (bW k i j,b)->Rp T i s->Rp T j t->Rp T n (aj k [s,t])
 | not {n i:Nat} {s:Tm} {b:Bool}:T[n]? = some (dR i,b)->Rp T i s->Rp T n (.not s)
theorem Vv {l l':af} (h:Tidy l) (h':Tidy l') (e:encS l=encS l'):l=l':=by
 have e1:=uQ (bA h)
 have e2:=uQ (bA h')
 rw [<-e,e1] at e2
 have e3:(bD l).map (Value.int .i32)=(bD l').map (Value.int .i32):=by simpa using e2
 have hinj:∀ (a b:List Int),a.map (Value.int .i32)=b.map (Value.int .i32)->a=b:=by
  intro a
  induction a with
  | nil=>intro b hb;cases b with
   | nil=>rfl
   | cons y b=>simp at hb
  | cons x a ih=>intro b hb;cases b with
   | nil=>simp at hb
   | cons y b=>
    simp only [List.map_cons,List.cons.injEq,Value.int.injEq,true_and] at hb
    rw [hb.1,ih b hb.2]
 have hf:∀ {l l':af},bD l=bD l'->l=l':=by
  intro l
  induction l with
  | nil=>intro l' h;cases l' with
   | nil=>rfl
   | cons y r=>simp [bD] at h
  | cons x r ih=>intro l' h;cases l' with
   | nil=>simp [bD] at h
   | cons y r'=>
    simp only [bD,List.cons.injEq] at h
    obtain ⟨h1,h2,h3⟩:=h
    rw [ih h3,Prod.ext h1 h2]
 exact hf (hinj _ _ e3)
theorem kk_ne (k:Bool):kk k≠0/\kk k≠1/\kk k≠2/\kk k≠3/\kk k≠6:=by cases k<;>simp [kk]
theorem Ck {k k':Bool} (h:kk k=kk k'):k=k':=by cases k<;>cases k'<;>simp [kk] at h ⊢
theorem aA {T:List Te} {n:Nat} {k k':Ky} {b b':Bool} (h:T[n]? = some (k,b)) (h':T[n]? = some (k',b')):k=k':=by
 rw [h] at h'
 simp only [Option.some.injEq,Prod.mk.injEq] at h'
 exact h'.1
theorem Rp.lt {T:List Te} {n:Nat} {t:Tm} (h:Rp T n t):n<T.length:=by
 cases h with
 | set h _=>exact (List.getElem?_eq_some_iff.1 h).1
 | eps h=>exact (List.getElem?_eq_some_iff.1 h).1
 | chain h _ _=>exact (List.getElem?_eq_some_iff.1 h).1
 | star h _=>exact (List.getElem?_eq_some_iff.1 h).1
 | aZ h _ _=>exact (List.getElem?_eq_some_iff.1 h).1
 | not h _=>exact (List.getElem?_eq_some_iff.1 h).1
theorem cast_inj {i j:Nat} (h:(i:Int)=(j:Int)):i=j:=by omega
theorem Rp.uniq {T:List Te} {n:Nat} {s t:Tm} (h:Rp T n s):Rp T n t->s=t:=by
 induction h generalizing t with
 | set h hl=>
  intro h2
  cases h2 with
  | set h' hl'=>
   have e:=aA h h'
   simp only [kg,Ky.mk.injEq] at e
   rw [Vv hl hl' e.2.1]
  | eps h'=>have e:=aA h h';simp [kg,vH] at e
  | chain h' _ _=>have e:=aA h h';simp [kg,bJ] at e
  | star h' _=>have e:=aA h h';simp [kg,dQ] at e
  | aZ h' _ _=>have e:=aA h h';simp only [kg,bW,Ky.mk.injEq] at e;exact absurd e.1.symm (kk_ne _).1
  | not h' _=>have e:=aA h h';simp [kg,dR] at e
 | eps h=>
  intro h2
  cases h2 with
  | set h' hl'=>have e:=aA h h';simp [kg,vH] at e
  | eps h'=>rfl
  | chain h' _ _=>have e:=aA h h';simp [vH,bJ] at e
  | star h' _=>have e:=aA h h';simp [vH,dQ] at e
  | aZ h' _ _=>have e:=aA h h';simp only [vH,bW,Ky.mk.injEq] at e;exact absurd e.1.symm (kk_ne _).2.1
  | not h' _=>have e:=aA h h';simp [vH,dR] at e
 | chain h _ _ ih1 ih2=>
  intro h2
  cases h2 with
  | set h' hl'=>have e:=aA h h';simp [kg,bJ] at e
  | eps h'=>have e:=aA h h';simp [vH,bJ] at e
  | chain h' a b=>
   have e:=aA h h'
   simp only [bJ,Ky.mk.injEq,true_and] at e
   have e1:=cast_inj e.1
   have e2:=cast_inj e.2
   subst e1 e2
   rw [ih1 a,ih2 b]
  | star h' _=>have e:=aA h h';simp [bJ,dQ] at e
  | aZ h' _ _=>have e:=aA h h';simp only [bJ,bW,Ky.mk.injEq] at e;exact absurd e.1.symm (kk_ne _).2.2.1
  | not h' _=>have e:=aA h h';simp [bJ,dR] at e
 | star h _ ih=>
  intro h2
  cases h2 with
  | set h' hl'=>have e:=aA h h';simp [kg,dQ] at e
  | eps h'=>have e:=aA h h';simp [vH,dQ] at e
  | chain h' _ _=>have e:=aA h h';simp [bJ,dQ] at e
  | star h' a=>
   have e:=aA h h'
   simp only [dQ,Ky.mk.injEq,true_and,and_true] at e
   have e1:=cast_inj e
   subst e1
   rw [ih a]
  | aZ h' _ _=>have e:=aA h h';simp only [dQ,bW,Ky.mk.injEq] at e;exact absurd e.1.symm (kk_ne _).2.2.2.1
  | not h' _=>have e:=aA h h';simp [dQ,dR] at e
 | aZ h _ _ ih1 ih2=>
  intro h2
  cases h2 with
  | set h' hl'=>have e:=aA h h';simp only [kg,bW,Ky.mk.injEq] at e;exact absurd e.1 (kk_ne _).1
  | eps h'=>have e:=aA h h';simp only [vH,bW,Ky.mk.injEq] at e;exact absurd e.1 (kk_ne _).2.1
  | chain h' _ _=>have e:=aA h h';simp only [bJ,bW,Ky.mk.injEq] at e;exact absurd e.1 (kk_ne _).2.2.1
  | star h' _=>have e:=aA h h';simp only [dQ,bW,Ky.mk.injEq] at e;exact absurd e.1 (kk_ne _).2.2.2.1
  | aZ h' a b=>
   have e:=aA h h'
   simp only [bW,Ky.mk.injEq,true_and] at e
   have e0:=Ck e.1
   have e1:=cast_inj e.2.1
   have e2:=cast_inj e.2.2
   subst e0 e1 e2
   rw [ih1 a,ih2 b]
  | not h' _=>have e:=aA h h';simp only [dR,bW,Ky.mk.injEq] at e;exact absurd e.1 (kk_ne _).2.2.2.2
 | not h _ ih=>
  intro h2
  cases h2 with
  | set h' hl'=>have e:=aA h h';simp [kg,dR] at e
  | eps h'=>have e:=aA h h';simp [vH,dR] at e
  | chain h' _ _=>have e:=aA h h';simp [bJ,dR] at e
  | star h' _=>have e:=aA h h';simp [dQ,dR] at e
  | aZ h' _ _=>have e:=aA h h';simp only [dR,bW,Ky.mk.injEq] at e;exact absurd e.1.symm (kk_ne _).2.2.2.2
  | not h' a=>
   have e:=aA h h'
   simp only [dR,Ky.mk.injEq,true_and,and_true] at e
   have e1:=cast_inj e
   subst e1
   rw [ih a]
theorem lH {T X:List Te} {n:Nat} {x:Te} (h:T[n]? = some x):(T++X)[n]? = some x:=by
 rw [List.getElem?_append_left (List.getElem?_eq_some_iff.1 h).1];exact h
theorem nP {T X:List Te} {n:Nat} {x:Te} (h:(T++X)[n]? = some x) (hn:n<T.length):T[n]? = some x:=by
 rwa [List.getElem?_append_left hn] at h
theorem Rp.mono {T X:List Te} {n:Nat} {t:Tm} (h:Rp T n t):Rp (T++X) n t:=by
 induction h with
 | set h hl=>exact .set (lH h) hl
 | eps h=>exact .eps (lH h)
 | chain h _ _ i1 i2=>exact .chain (lH h) i1 i2
 | star h _ i1=>exact .star (lH h) i1
 | aZ h _ _ i1 i2=>exact .aZ (lH h) i1 i2
 | not h _ i1=>exact .not (lH h) i1
theorem JW {T:List Te} (h:uI T) {n i j:Nat} {k:Ky} {b:Bool} (hx:T[n]? = some (k,b)) (hk:k.kd=2\/k.kd=4\/k.kd=5) (h1:k.fi=(i:Int)) (h2:k.se=(j:Int)):i<n/\j<n:=by
 obtain ⟨a,c,h3,h4,h5,h6⟩:=h.two hx hk
 dsimp only at h5 h6
 omega
theorem r_ {T:List Te} (h:uI T) {n i j:Nat} {b:Bool} (hx:T[n]? = some (bJ i j,b)):i<n/\j<n:=JW h hx (.inl rfl) rfl rfl
theorem ve {T:List Te} (h:uI T) {n i j:Nat} {k b:Bool} (hx:T[n]? = some (bW k i j,b)):i<n/\j<n:=JW h hx (by cases k<;>simp [bW,kk]) rfl rfl
theorem Vw {T:List Te} (h:uI T) {n i:Nat} {k:Ky} {b:Bool} (hx:T[n]? = some (k,b)) (hk:k.kd=3\/k.kd=6) (h1:k.fi=(i:Int)):i<n:=by
 obtain ⟨a,h3,h5⟩:=h.one hx hk
 dsimp only at h5
 omega
theorem wX {T:List Te} (h:uI T) {n i:Nat} {b:Bool} (hx:T[n]? = some (dQ i,b)):i<n:=Vw h hx (.inl rfl) rfl
theorem Cm {T:List Te} (h:uI T) {n i:Nat} {b:Bool} (hx:T[n]? = some (dR i,b)):i<n:=Vw h hx (.inr rfl) rfl
theorem Rp.old {T X:List Te} (hw:uI T) {n:Nat} {t:Tm} (h:Rp (T++X) n t):n<T.length->Rp T n t:=by
 induction h with
 | set h hl=>intro hn;exact .set (nP h hn) hl
 | eps h=>intro hn;exact .eps (nP h hn)
 | chain h _ _ i1 i2=>
  intro hn
  have g:=nP h hn
  have:=r_ hw g
  exact .chain g (i1 (by omega)) (i2 (by omega))
 | star h _ i1=>
  intro hn
  have g:=nP h hn
  have:=wX hw g
  exact .star g (i1 (by omega))
 | aZ h _ _ i1 i2=>
  intro hn
  have g:=nP h hn
  have:=ve hw g
  exact .aZ g (i1 (by omega)) (i2 (by omega))
 | not h _ i1=>
  intro hn
  have g:=nP h hn
  have:=Cm hw g
  exact .not g (i1 (by omega))
inductive ky (T:List Te) (k:Bool):Nat->List Nat->Prop where
 | one {n:Nat} {x:Te}:T[n]? = some x->x.1.kd≠kk k->ky T k n [n]
 | more {n i j:Nat} {b:Bool} {l:List Nat}:T[n]? = some (bW k i j,b)->ky T k j l->ky T k n (i::l)
theorem ky.uniq {T:List Te} {k:Bool} {n:Nat} {l l':List Nat} (h:ky T k n l):ky T k n l'->l=l':=by
 induction h generalizing l' with
 | one h hk=>
  intro h2
  cases h2 with
  | one=>rfl
  | more h' _=>rw [h] at h';cases h';exact absurd rfl hk
 | more h _ ih=>
  intro h2
  cases h2 with
  | one h' hk=>rw [h] at h';cases h';exact absurd rfl hk
  | more h' h3=>
   have e:=aA h h'
   simp only [bW,Ky.mk.injEq,true_and] at e
   have e1:=cast_inj e.1
   have e2:=cast_inj e.2
   subst e1 e2
   rw [ih h3]
theorem ky.mono {T X:List Te} {k:Bool} {n:Nat} {l:List Nat} (h:ky T k n l):ky (T++X) k n l:=by
 induction h with
 | one h hk=>exact .one (lH h) hk
 | more h _ ih=>exact .more (lH h) ih
theorem ky.old {T X:List Te} (hw:uI T) {k:Bool} {n:Nat} {l:List Nat} (h:ky (T++X) k n l):n<T.length->ky T k n l:=by
 induction h with
 | one h hk=>intro hn;exact .one (nP h hn) hk
 | more h _ ih=>
  intro hn
  have g:=nP h hn
  have:=ve hw g
  exact .more g (ih (by omega))
theorem ky.le {T:List Te} (hw:uI T) {k:Bool} {n:Nat} {l:List Nat} (h:ky T k n l):∀ m∈l,m<=n:=by
 induction h with
 | one _ _=>intro m hm;simp at hm;omega
 | more h _ ih=>
  have:=ve hw h
  intro m hm
  rcases List.mem_cons.1 hm with rfl | hm
  ·omega
  ·have:=ih m hm;omega
theorem ky.ne {T:List Te} {k:Bool} {n:Nat} {l:List Nat} (h:ky T k n l):l≠[]:=by cases h<;>simp
theorem abG {T:List Te} (hnd:(T.map (·.1)).Nodup) {n m:Nat} {k:Ky} {b b':Bool} (h:T[n]? = some (k,b)) (h':T[m]? = some (k,b')):n=m:=by
 have g1:(T.map (·.1))[n]? = some k:=by rw [List.getElem?_map,h];rfl
 have g2:(T.map (·.1))[m]? = some k:=by rw [List.getElem?_map,h'];rfl
 have hn:=(List.getElem?_eq_some_iff.1 g1).1
 have hm:=(List.getElem?_eq_some_iff.1 g2).1
 have e1:=(List.getElem?_eq_some_iff.1 g1).2
 have e2:=(List.getElem?_eq_some_iff.1 g2).2
 rcases Nat.lt_trichotomy n m with q | q | q
 ·exact absurd (e1.trans e2.symm) (List.pairwise_iff_getElem.1 hnd n m hn hm q)
 ·exact q
 ·exact absurd (e2.trans e1.symm) (List.pairwise_iff_getElem.1 hnd m n hm hn q)
theorem ky.inj {T:List Te} (hnd:(T.map (·.1)).Nodup) {k:Bool} {n m:Nat} {l:List Nat} (h:ky T k n l):ky T k m l->n=m:=by
 induction h generalizing m with
 | one h hk=>
  intro h2
  cases h2 with
  | one=>rfl
  | more h' h3=>exact absurd rfl h3.ne
 | more h h0 ih=>
  intro h2
  cases h2 with
  | one=>exact absurd rfl h0.ne
  | more h' h3=>
   have e:=ih h3
   subst e
   exact abG hnd h h'
theorem ky.rp {T:List Te} {k:Bool}:∀ {n:Nat} {t:Tm},Rp T n t->∃ l,ky T k n l:=by
 intro n t h
 induction h with
 | set h _=>exact ⟨_,.one h (fun e=>(kk_ne k).1 e.symm)⟩
 | eps h=>exact ⟨_,.one h (fun e=>(kk_ne k).2.1 e.symm)⟩
 | chain h _ _ _ _=>exact ⟨_,.one h (fun e=>(kk_ne k).2.2.1 e.symm)⟩
 | star h _ _=>exact ⟨_,.one h (fun e=>(kk_ne k).2.2.2.1 e.symm)⟩
 | @aZ n i j k' s t b h _ _ _ ih=>
  by_cases e:k'=k
  ·subst e
   obtain ⟨l,hl⟩:=ih
   exact ⟨_,.more h hl⟩
  ·exact ⟨_,.one h (fun q=>e (Ck q))⟩
 | not h _ _=>exact ⟨_,.one h (fun e=>(kk_ne k).2.2.2.2 e.symm)⟩
def Na (T:List Te) (a:Nat):Prop:=∃ x,T[a]? = some x/\x.1.kd=0
def Bf (T:List Te) (a b:Nat):Prop:=¬ Na T a/\(Na T b\/a<b)
structure XU (T:List Te) (k:Bool) (l:List Nat):Prop where
 mem:∀ m∈l,m≠0/\m≠2/\∃ x,T[m]? = some x/\x.1.kd≠kk k
 ord:l.Pairwise (Bf T)
structure TJ (T:List Te):Prop where
 nd:(T.map (·.1)).Nodup
 wf:uI T
 all:∀ n,n<T.length->∃ t,Rp T n t/\Cn t/\∀ x,T[n]? = some x->x.2=di t
 gok:∀ n k i j b,T[n]? = some (bW k i j,b)->∀ l,ky T k n l->XU T k l
 t0:T[0]? = some (ky0,false)
 t1:T[1]? = some (vH,true)
 t2:T[2]? = some (ky6,true)
structure TI (B:List Int) (T:List Te):Prop extends TJ T where
 inj:∀ n m t,Rp T n t->Rp T m t->n=m
 sin:∀ n t,Rp T n t->fP B t
theorem TJ.r0 {T:List Te} (h:TJ T):Rp T 0 aG:=.set (l:=[]) (b:=false) h.t0 trivial
theorem TJ.r1 {T:List Te} (h:TJ T):Rp T 1 eps:=.eps h.t1
theorem TJ.r2 {T:List Te} (h:TJ T):Rp T 2 whole:=.not (i:=0) (b:=true) h.t2 h.r0
theorem TJ.cn {T:List Te} (h:TJ T) {n:Nat} {t:Tm} (hr:Rp T n t):Cn t:=by
 obtain ⟨s,h1,h2,_⟩:=h.all n hr.lt
 rw [hr.uniq h1];exact h2
theorem TJ.null {T:List Te} (h:TJ T) {n:Nat} {t:Tm} (hr:Rp T n t) {x:Te} (hx:T[n]? = some x):x.2=di t:=by
 obtain ⟨s,h1,_,h2⟩:=h.all n hr.lt
 rw [hr.uniq h1];exact h2 x hx
theorem TJ.aet {T:List Te} (h:TJ T) {n i j:Nat} {k b:Bool} (hx:T[n]? = some (bW k i j,b)):2<n:=by
 rcases Nat.lt_or_ge 2 n with q | q
 ·exact q
 ·exfalso
  match n,q with
  | 0,_=>have e:=aA h.t0 hx;simp only [ky0,bW,Ky.mk.injEq] at e;exact (kk_ne k).1 e.1.symm
  | 1,_=>have e:=aA h.t1 hx;simp only [vH,bW,Ky.mk.injEq] at e;exact (kk_ne k).2.1 e.1.symm
  | 2,_=>have e:=aA h.t2 hx;simp only [ky6,bW,Ky.mk.injEq] at e;exact (kk_ne k).2.2.2.2 e.1.symm
structure Pk (T:List Te) (n:Nat) (t:Tm):Prop where
 no:∀ k,(∀ x,T[n]? = some x->x.1.kd≠kk k)->dD k t=true
 yes:∀ k i j b,T[n]? = some (bW k i j,b)->(∃ a c,t=.aZ k a c)/\∀ l,ky T k n l->∀ x,x∈memT k t↔∃ m∈l,Rp T m x
theorem Pk.other {T:List Te} {n:Nat} {t:Tm} {x:Te} (hx:T[n]? = some x) (h1:∀ k,dD k t=true) (h2:∀ k,x.1.kd≠kk k):Pk T n t:=
 ⟨fun k _=>h1 k,fun k i j b h=>by rw [hx] at h;cases h;exact absurd rfl (h2 k)⟩
theorem Pk.set {T:List Te} {n:Nat} {t:Tm} (p:Pk T n t) (h:Rp T n t) {q:af} (e:t=.set q):∃ b,T[n]? = some (kg (encS q),b)/\Tidy q:=by
 cases h with
 | set h hl=>cases e;exact ⟨_,h,hl⟩
 | aZ h _ _=>obtain ⟨⟨a,c,e'⟩,_⟩:=p.yes _ _ _ _ h;rw [e'] at e;cases e
 | _=>cases e
theorem Pk.chain {T:List Te} {n:Nat} {t:Tm} (p:Pk T n t) (h:Rp T n t) {x y:Tm} (e:t=.chain x y):∃ i j b,T[n]? = some (bJ i j,b)/\Rp T i x/\Rp T j y:=by
 cases h with
 | chain h h1 h2=>cases e;exact ⟨_,_,_,h,h1,h2⟩
 | aZ h _ _=>obtain ⟨⟨a,c,e'⟩,_⟩:=p.yes _ _ _ _ h;rw [e'] at e;cases e
 | _=>cases e
theorem Pk.star {T:List Te} {n:Nat} {t:Tm} (p:Pk T n t) (h:Rp T n t) {x:Tm} (e:t=.star x):∃ i b,T[n]? = some (dQ i,b)/\Rp T i x:=by
 cases h with
 | star h h1=>cases e;exact ⟨_,_,h,h1⟩
 | aZ h _ _=>obtain ⟨⟨a,c,e'⟩,_⟩:=p.yes _ _ _ _ h;rw [e'] at e;cases e
 | _=>cases e
theorem Pk.not {T:List Te} {n:Nat} {t:Tm} (p:Pk T n t) (h:Rp T n t) {x:Tm} (e:t=.not x):∃ i b,T[n]? = some (dR i,b)/\Rp T i x:=by
 cases h with
 | not h h1=>cases e;exact ⟨_,_,h,h1⟩
 | aZ h _ _=>obtain ⟨⟨a,c,e'⟩,_⟩:=p.yes _ _ _ _ h;rw [e'] at e;cases e
 | _=>cases e
theorem Pk.aZ {T:List Te} {n:Nat} {t:Tm} (p:Pk T n t) (h:Rp T n t) {k:Bool} {x y:Tm} (e:t=.aZ k x y):∃ i j b s u,T[n]? = some (bW k i j,b)/\Rp T i s/\Rp T j u/\t=aj k [s,u]:=by
 cases h with
 | @aZ _ i j k' s u b h h1 h2=>
  obtain ⟨⟨a,c,e'⟩,_⟩:=p.yes _ _ _ _ h
  have e2:=e'
  rw [e] at e'
  have:k=k':=by injection e'
  subst this
  exact ⟨_,_,_,_,_,h,h1,h2,rfl⟩
 | _=>cases e
theorem filter_one {l:List Tm} (h:∀ m∈l,m≠aG/\m≠whole) (k:Bool):l.filter (fun t=>decide (t≠bC k))=l:=by
 refine List.filter_eq_self.2 fun m hm=>?_
 have:=h m hm
 cases k
 ·simpa [bC] using this.1
 ·simpa [bC] using this.2
theorem TJ.XV {T:List Te} (h:TJ T) {N:Nat} (hinj:∀ n m t,n<N->m<N->Rp T n t->Rp T m t->n=m):∀ n,n<=N->∀ t,Rp T n t->Pk T n t:=by
 intro n
 induction n using Nat.strongRecOn with
 | _ n ih=>
  intro hn t ht
  cases ht with
  | set hx _=>exact .other hx (fun _=>rfl) fun k e=>(kk_ne k).1 e.symm
  | eps hx=>exact .other hx (fun _=>rfl) fun k e=>(kk_ne k).2.1 e.symm
  | chain hx _ _=>exact .other hx (fun _=>rfl) fun k e=>(kk_ne k).2.2.1 e.symm
  | star hx _=>exact .other hx (fun _=>rfl) fun k e=>(kk_ne k).2.2.2.1 e.symm
  | not hx _=>exact .other hx (fun _=>rfl) fun k e=>(kk_ne k).2.2.2.2 e.symm
  | @aZ _ i j k s t b hx hi hj=>
   obtain ⟨l,hl⟩:=ky.rp (k:=k) hj
   have hln:=ky.more hx hl
   have hg:=h.gok n k i j b hx _ hln
   obtain ⟨hin,hjn⟩:=ve h.wf hx
   have h3:=h.aet hx
   have hle:∀ m∈i::l,m<n:=fun m hm=>by
    rcases List.mem_cons.1 hm with rfl | hm
    ·exact hin
    ·have:=hl.le h.wf m hm;omega
   have hnot:∀ m∈i::l,∀ x,Rp T m x->dD k x=true:=fun m hm x hr=>by
    obtain ⟨y,hy,hk⟩:=(hg.mem m hm).2.2
    exact (ih m (hle m hm) (by have:=hle m hm;omega) x hr).no k fun z hz=>by rw [hy] at hz;cases hz;exact hk
   have hsi:dD k s=true:=hnot i (List.mem_cons_self ..) s hi
   have hmt:∀ x,x∈memT k t↔∃ m∈l,Rp T m x:=by
    have pj:=ih j hjn (by omega) t hj
    cases hl with
    | one hy hk=>
     have:dD k t=true:=pj.no k fun z hz=>by rw [hy] at hz;cases hz;exact hk
     rw [bf this]
     intro x
     constructor
     ·intro hx'
      have:x=t:=by simpa using hx'
      subst this;exact ⟨j,by simp,hj⟩
     ·rintro ⟨m,hm,hr⟩
      have:m=j:=by simpa using hm
      subst this
      rw [hr.uniq hj];simp
    | more hy h4=>exact (pj.yes k _ _ _ hy).2 _ (.more hy h4)
   have hF:∀ x,x∈s::memT k t↔∃ m∈i::l,Rp T m x:=by
    intro x
    rw [List.mem_cons,hmt]
    constructor
    ·rintro (rfl | ⟨m,hm,hr⟩)
     ·exact ⟨i,List.mem_cons_self ..,hi⟩
     ·exact ⟨m,List.mem_cons_of_mem _ hm,hr⟩
    ·rintro ⟨m,hm,hr⟩
     rcases List.mem_cons.1 hm with rfl | hm
     ·exact .inl (hr.uniq hi)
     ·exact .inr ⟨m,hm,hr⟩
   have hne:∀ x∈s::memT k t,x≠aG/\x≠whole:=by
    intro x hx'
    obtain ⟨m,hm,hr⟩:=(hF x).1 hx'
    have hm':=hg.mem m hm
    have hmn:=hle m hm
    constructor
    ·rintro rfl;exact hm'.1 (hinj _ _ _ (by omega) (by omega) hr h.r0)
    ·rintro rfl;exact hm'.2.1 (hinj _ _ _ (by omega) (by omega) hr h.r2)
   have hcs:=h.cn hi
   have hct:=h.cn hj
   have hs0:aQ s=Option.none:=by
    cases hq:aQ s with
    | none=>rfl
    | some q=>
     exfalso
     have e:=lZ hq
     subst e
     have hb:¬ Na T i:=by
      cases hl':l with
      | nil=>exact absurd hl' hl.ne
      | cons m r=>
       have:=hg.ord
       rw [hl'] at this
       exact ((List.pairwise_cons.1 this).1 m (List.mem_cons_self ..)).1
     have pi:=ih i hin (by omega) _ hi
     obtain ⟨b0,hy,_⟩:=pi.set hi rfl
     exact hb ⟨_,hy,rfl⟩
   have hfil:(s::memT k t).filterMap aQ=(memT k t).filterMap aQ:=by rw [List.filterMap_cons,hs0]
   have hone:((memT k t).filterMap aQ).length<=1:=by
    obtain ⟨_,h1 | ⟨h1,_⟩⟩:=EX (k:=k) hct
    ·have:=List.length_filterMap_le aQ (memT k t);omega
    ·exact h1
   have qM:[s,t].flatMap (memT k)=s::memT k t:=by
    rw [List.flatMap_cons,bf hsi];simp
   have hW:∀ x,x∈aU k (s::memT k t)↔x∈s::memT k t:=by
    intro x
    rw [aP,hfil]
    constructor
    ·rintro (⟨h1,_⟩ | ⟨q,h1,rfl⟩)
     ·exact h1
     ·cases hq:(memT k t).filterMap aQ with
      | nil=>rw [hq] at h1;cases h1
      | cons a r=>
       rw [hq] at h1 hone
       cases r with
       | nil=>
        simp only [fG,List.foldl_nil,Option.some.injEq] at h1
        subst h1
        exact List.mem_cons_of_mem _ (b_.1 (by rw [hq];simp))
       | cons _ _=>simp at hone
    ·intro hx'
     cases hq:aQ x with
     | none=>exact .inl ⟨hx',rfl⟩
     | some q=>
      have e:=lZ hq
      subst e
      have hx2:Tm.set q∈memT k t:=by
       rcases List.mem_cons.1 hx' with e | e
       ·rw [<-e] at hs0;cases hs0
       ·exact e
      have:=b_.2 hx2
      cases hq2:(memT k t).filterMap aQ with
      | nil=>rw [hq2] at this;cases this
      | cons a r=>
       rw [hq2] at this hone
       cases r with
       | nil=>
        have e:q=a:=by simpa using this
        subst e
        exact .inr ⟨q,rfl,rfl⟩
       | cons _ _=>simp at hone
   have adp:∀ x∈aU k (s::memT k t),x≠aG/\x≠whole:=fun x hx'=>hne x ((hW x).1 hx')
   have hz:ed k∉aU k (s::memT k t):=fun q=>by
    have:=adp _ q
    cases k
    ·exact this.2 rfl
    ·exact this.1 rfl
   have hWn:∀ x∈aU k (s::memT k t),dD k x=true:=fun x hx'=>by
    obtain ⟨m,hm,hr⟩:=(hF x).1 ((hW x).1 hx')
    exact hnot m hm x hr
   have hend:aj k [s,t]=gW k (aU k (s::memT k t)):=by
    unfold aj qi
    rw [qM,if_neg hz,filter_one adp]
    split
    ·rename_i e
     have:=(hW s).2 (List.mem_cons_self ..)
     rw [e] at this;cases this
    ·rfl
   obtain ⟨y,hy⟩:∃ y,y∈memT k t:=by
    cases hq:memT k t with
    | nil=>exact absurd hq (v_ k t)
    | cons y r=>exact ⟨y,by simp⟩
   have hsy:y≠s:=by
    rintro rfl
    obtain ⟨m,hm,hr⟩:=(hmt _).1 hy
    have e:=hinj _ _ _ (by have:=hle m (List.mem_cons_of_mem _ hm);omega) (by omega) hr hi
    subst e
    have:=(List.pairwise_cons.1 hg.ord).1 _ hm
    rcases this.2 with q | q
    ·exact this.1 q
    ·omega
   have h2:∃ a c r,aU k (s::memT k t)=a::c::r:=by
    have m1:=(hW s).2 (List.mem_cons_self ..)
    have m2:=(hW y).2 (List.mem_cons_of_mem _ hy)
    cases hq:aU k (s::memT k t) with
    | nil=>rw [hq] at m1;cases m1
    | cons a r=>
     cases r with
     | nil=>
      rw [hq] at m1 m2
      simp at m1 m2
      exact absurd (m2.trans m1.symm) hsy
     | cons c r=>exact ⟨a,c,r,rfl⟩
   obtain ⟨a,c,r,hac⟩:=h2
   have adq:∃ a c,aj k [s,t]=.aZ k a c:=⟨a,gW k (c::r),by rw [hend,hac];rfl⟩
   refine ⟨fun k' hk'=>?_,fun k' i' j' b' hx'=>?_⟩
   ·obtain ⟨a,c,e⟩:=adq
    rw [e]
    have:k≠k':=fun q=>hk' _ hx (by rw [q];rfl)
    simpa [dD] using this
   ·have e:=aA hx hx'
    simp only [bW,Ky.mk.injEq] at e
    have e0:=Ck e.1
    subst e0
    refine ⟨adq,fun l' hl' x=>?_⟩
    rw [hl'.uniq hln,hend,nE k (by rw [hac];simp) hWn,hW,hF]
variable {B:List Int}
theorem RS {k:Bool} {l:List Tm} (hl:∀ t∈l,Cn t):di (aj k l)=if k=true then l.all di else l.any di:=by
 have h:=Q9 (k:=k) (l:=l) (fun t ht=>(hl t ht).ok) (w:=[]) (fun c hc=>by cases hc)
 rw [<-jH] at h
 rw [Bool.eq_iff_iff,h]
 cases k
 ·simp only [pE,Bool.false_eq_true,if_false,List.any_eq_true]
  exact ⟨fun ⟨t,h1,h2⟩=>⟨t,h1,(jH t).2 h2⟩,fun ⟨t,h1,h2⟩=>⟨t,h1,(jH t).1 h2⟩⟩
 ·simp only [pE,if_true,List.all_eq_true]
  exact ⟨fun q t h1=>(jH t).2 (q t h1),fun q t h1=>(jH t).1 (q t h1)⟩
inductive Fm (B:List Int) (T:List Te):Ky->Tm->Prop where
 | set {l:af}:Tidy l->bU B l->Fm B T (kg (encS l)) (.set l)
 | chain {i j:Nat} {s t:Tm}:Rp T i s->Rp T j t->Cn (.chain s t)->Fm B T (bJ i j) (.chain s t)
 | star {i:Nat} {s:Tm}:Rp T i s->Cn (.star s)->Fm B T (dQ i) (.star s)
 | not {i:Nat} {s:Tm}:Rp T i s->Cn (.not s)->Fm B T (dR i) (.not s)
 | aZ {k:Bool} {i j:Nat} {s t:Tm} {l:List Nat}:Rp T i s->Rp T j t->ky T k j l->XU T k (i::l)->Fm B T (bW k i j) (aj k [s,t])
theorem Fm.rp {T:List Te} {κ:Ky} {t:Tm} (h:Fm B T κ t) {n:Nat} {b:Bool} {X:List Te} (hx:(T++X)[n]? = some (κ,b)):Rp (T++X) n t:=by
 cases h with
 | set hl _=>exact .set hx hl
 | chain h1 h2 _=>exact .chain hx h1.mono h2.mono
 | star h1 _=>exact .star hx h1.mono
 | not h1 _=>exact .not hx h1.mono
 | aZ h1 h2 _ _=>exact .aZ hx h1.mono h2.mono
theorem Fm.kin {T:List Te} {κ:Ky} {t:Tm} (h:Fm B T κ t):AJ T κ:=by
 cases h with
 | set _ _=>exact .inl rfl
 | chain h1 h2 _=>exact xI h1.lt h2.lt
 | star h1 _=>exact .inr (.inr (.inr ⟨.inl rfl,_,h1.lt,rfl⟩))
 | not h1 _=>exact .inr (.inr (.inr ⟨.inr rfl,_,h1.lt,rfl⟩))
 | @aZ k i j s t l h1 h2 _ _=>exact .inr (.inr (.inl ⟨by cases k<;>simp [bW,kk],⟨_,h1.lt,rfl⟩,_,h2.lt,rfl⟩))
theorem Fm.cn {T:List Te} (hj:TJ T) {κ:Ky} {t:Tm} (h:Fm B T κ t):Cn t:=by
 cases h with
 | set hl _=>exact ⟨hl,fun e=>absurd rfl e⟩
 | chain _ _ h=>exact h
 | star _ h=>exact h
 | not _ h=>exact h
 | aZ h1 h2 _ _=>exact kH (by simpa using ⟨hj.cn h1,hj.cn h2⟩)
theorem Co {T:List Te} (hj:TJ T) {i:Nat} {s:Tm} (h:Rp T i s):heB T (i:Int)=di s:=by
 have hx:=List.getElem?_eq_getElem h.lt
 rw [FN hx];exact hj.null h hx
theorem Fm.null {T:List Te} (hj:TJ T) {κ:Ky} {t:Tm} (h:Fm B T κ t):fK T κ=di t:=by
 cases h with
 | set _ _=>simp [fK,kg,di]
 | chain h1 h2 _=>simp [fK,bJ,di,Co hj h1,Co hj h2]
 | star h1 _=>simp [fK,dQ,di]
 | not h1 _=>simp [fK,dR,di,Co hj h1]
 | @aZ k i j s t l h1 h2 _ _=>
  rw [RS (by simpa using ⟨hj.cn h1,hj.cn h2⟩)]
  cases k<;>simp [fK,bW,kk,Co hj h1,Co hj h2]
theorem Af {T X:List Te} {a:Nat} (h:a<T.length):Na (T++X) a↔Na T a:=by
 unfold Na
 rw [List.getElem?_append_left h]
theorem XU.app {T X:List Te} {k:Bool} {l:List Nat} (h:XU T k l):XU (T++X) k l:=by
 have hlt:∀ m∈l,m<T.length:=fun m hm=>by
  obtain ⟨x,hx,_⟩:=(h.mem m hm).2.2
  exact (List.getElem?_eq_some_iff.1 hx).1
 refine ⟨fun m hm=>?_,?_⟩
 ·obtain ⟨h1,h2,x,hx,h3⟩:=h.mem m hm
  exact ⟨h1,h2,x,lH hx,h3⟩
 ·refine h.ord.imp_of_mem fun {a b} ha hb q=>?_
  unfold Bf at q ⊢
  rw [Af (hlt a ha),Af (hlt b hb)]
  exact q
theorem Bf.irr {T:List Te} (a:Nat):¬ Bf T a a:=fun h=>h.2.elim h.1 (Nat.lt_irrefl _)
theorem Bf.trans {T:List Te} {a b c:Nat} (h:Bf T a b) (h':Bf T b c):Bf T a c:=by
 refine ⟨h.1,h'.2.imp id fun q=>?_⟩
 rcases h.2 with e | e
 ·exact absurd e h'.1
 ·omega
open Classical in
theorem abH {T:List Te} {l m:List Nat} (hl:l.Pairwise (Bf T)) (hm:m.Pairwise (Bf T)) (h:∀ x,x∈l↔x∈m):l=m:=
 uM (gt:=fun b a=>decide (Bf T a b)) (fun a=>by simpa using Bf.irr a) (fun a b c h1 h2=>by simpa using Bf.trans (by simpa using h1) (by simpa using h2))
  (hl.imp fun h=>by simpa using h) (hm.imp fun h=>by simpa using h) h
theorem Fm.sin {T:List Te} (h:TI B T) {κ:Ky} {t:Tm} (hf:Fm B T κ t):fP B t:=by
 cases hf with
 | set _ h1=>exact h1
 | chain h1 h2 _=>exact ⟨h.sin _ _ h1,h.sin _ _ h2⟩
 | @star i s h1 _=>exact (show fP B (.star s) from (h.sin i s h1:fP B s))
 | @not i s h1 _=>exact (show fP B (.not s) from (h.sin i s h1:fP B s))
 | aZ h1 h2 _ _=>exact RI (by simpa using ⟨h.cn h1,h.cn h2⟩) (by simpa using ⟨h.sin _ _ h1,h.sin _ _ h2⟩)
theorem TI.keep {T:List Te} (h:TI B T) {κ:Ky} {t:Tm} (hf:Fm B T κ t):TI B (dP T κ).1/\Rp (dP T κ).1 (dP T κ).2 t:=by
 have hwf:=h.wf.keep hf.kin
 rcases dV T κ with ⟨i,b,hi,e⟩ | ⟨hn,e⟩
 ·rw [e]
  refine ⟨h,?_⟩
  have:=hf.rp (X:=[]) (n:=i) (b:=b) (by simpa using hi)
  simpa using this
 ·rw [e] at hwf ⊢
  dsimp only at hwf ⊢
  have hnew:(T++[(κ,fK T κ)])[T.length]? = some (κ,fK T κ):=by simp
  have hr:=hf.rp hnew
  have hJ:TJ (T++[(κ,fK T κ)]):=by
   refine ⟨?_,hwf,fun n hnl=>?_,fun n k i j b hx l hl=>?_,lH h.t0,lH h.t1,lH h.t2⟩
   ·rw [List.map_append]
    refine List.nodup_append.2 ⟨h.nd,by simp,fun x hx y hy=>?_⟩
    have:y=κ:=by simpa using hy
    subst this
    obtain ⟨z,hz,rfl⟩:=List.mem_map.1 hx
    exact hn z hz
   ·by_cases hlt:n<T.length
    ·obtain ⟨s,h1,h2,h3⟩:=h.all n hlt
     exact ⟨s,h1.mono,h2,fun x hx=>h3 x (nP hx hlt)⟩
    ·have:n=T.length:=by simp at hnl;omega
     subst this
     refine ⟨t,hr,hf.cn h.toTJ,fun x hx=>?_⟩
     rw [hnew] at hx
     cases hx
     exact hf.null h.toTJ
   ·by_cases hlt:n<T.length
    ·exact (h.gok n k i j b (nP hx hlt) l (hl.old h.wf hlt)).app
    ·have:n=T.length:=by
      have:=(List.getElem?_eq_some_iff.1 hx).1
      simp at this;omega
     subst this
     have e2:=aA hnew hx
     subst e2
     generalize hκ:bW k i j=κ at *
     cases hf with
     | @aZ k' i' j' s u l' h1 h2 h3 h4=>
      simp only [bW,Ky.mk.injEq] at hκ
      have e0:=Ck hκ.1
      have e1:=cast_inj hκ.2.2.1
      have e2:=cast_inj hκ.2.2.2
      subst e0 e1 e2
      rw [hl.uniq (.more hnew h3.mono)]
      exact h4.app
     | set _ _=>simp only [bW,kg,Ky.mk.injEq] at hκ;exact absurd hκ.1 (kk_ne _).1
     | chain _ _ _=>simp only [bW,bJ,Ky.mk.injEq] at hκ;exact absurd hκ.1 (kk_ne _).2.2.1
     | star _ _=>simp only [bW,dQ,Ky.mk.injEq] at hκ;exact absurd hκ.1 (kk_ne _).2.2.2.1
     | not _ _=>simp only [bW,dR,Ky.mk.injEq] at hκ;exact absurd hκ.1 (kk_ne _).2.2.2.2
  have hold:∀ n m s,n<T.length->m<T.length->Rp (T++[(κ,fK T κ)]) n s->Rp (T++[(κ,fK T κ)]) m s->n=m:=fun n m s h1 h2 h3 h4=>h.inj n m s (h3.old h.wf h1) (h4.old h.wf h2)
  have pg:=hJ.XV hold
  have hno:∀ m b,m<T.length->(T++[(κ,fK T κ)])[m]? = some (κ,b)->False:=fun m b hm hx=>hn _ (List.mem_iff_getElem?.2 ⟨m,nP hx hm⟩) rfl
  have key:∀ m,m<T.length->Rp (T++[(κ,fK T κ)]) m t->False:=by
   intro m hm hrm
   have pm:=pg m (by omega) t hrm
   have pn:=pg T.length (Nat.le_refl _) t hr
   cases hf with
   | set hl _=>
    obtain ⟨b,hx,_⟩:=pm.set hrm rfl
    exact hno m b hm hx
   | @chain i j s u h1 h2 _=>
    obtain ⟨i',j',b,hx,h3,h4⟩:=pm.chain hrm rfl
    have hw:=r_ hwf hx
    have e1:=hold i' i _ (by omega) h1.lt h3 h1.mono
    have e2:=hold j' j _ (by omega) h2.lt h4 h2.mono
    subst e1 e2
    exact hno m b hm hx
   | @star i s h1 _=>
    obtain ⟨i',b,hx,h3⟩:=pm.star hrm rfl
    have hw:=wX hwf hx
    have e1:=hold i' i _ (by omega) h1.lt h3 h1.mono
    subst e1
    exact hno m b hm hx
   | @not i s h1 _=>
    obtain ⟨i',b,hx,h3⟩:=pm.not hrm rfl
    have hw:=Cm hwf hx
    have e1:=hold i' i _ (by omega) h1.lt h3 h1.mono
    subst e1
    exact hno m b hm hx
   | @aZ k i j s u l h1 h2 h3 h4=>
    obtain ⟨⟨a,c,e1⟩,hmem⟩:=pn.yes k i j _ hnew
    obtain ⟨i',j',b,s',u',hx,h5,h6,_⟩:=pm.aZ hrm e1
    obtain ⟨l2,hl2⟩:=ky.rp (k:=k) h6
    have hm2:=(pm.yes k i' j' b hx).2 _ (.more hx hl2)
    have hm1:=hmem _ (.more hnew h3.mono)
    have hg2:=hJ.gok m k i' j' b hx _ (.more hx hl2)
    have hlt1:∀ x∈i::l,x<T.length:=fun x hx'=>by
     obtain ⟨y,hy,_⟩:=(h4.mem x hx').2.2
     exact (List.getElem?_eq_some_iff.1 hy).1
    have hlt2:∀ x∈i'::l2,x<T.length:=fun x hx'=>by
     have:=(ky.more hx hl2).le hwf x hx'
     omega
    have hrep:∀ x,x<T.length->∃ y,Rp (T++[(bW k i j,fK T (bW k i j))]) x y:=fun x hx'=>by
     obtain ⟨y,hy,_⟩:=h.all x hx'
     exact ⟨y,hy.mono⟩
    have hl:i::l=i'::l2:=by
     refine abH (h4.app (X:=[(bW k i j,fK T (bW k i j))])).ord hg2.ord fun x=>?_
     constructor
     ·intro hx'
      obtain ⟨y,hy⟩:=hrep x (hlt1 x hx')
      obtain ⟨z,hz,hzr⟩:=(hm2 y).1 ((hm1 y).2 ⟨x,hx',hy⟩)
      rw [hold x z y (hlt1 x hx') (hlt2 z hz) hy hzr];exact hz
     ·intro hx'
      obtain ⟨y,hy⟩:=hrep x (hlt2 x hx')
      obtain ⟨z,hz,hzr⟩:=(hm1 y).1 ((hm2 y).2 ⟨x,hx',hy⟩)
      rw [hold x z y (hlt2 x hx') (hlt1 z hz) hy hzr];exact hz
    injection hl with e2 e3
    subst e2 e3
    have e4:=(h3.mono (X:=[(bW k i j,fK T (bW k i j))])).inj hJ.nd hl2
    subst e4
    exact hno m b hm hx
  refine ⟨⟨hJ,fun n m s h1 h2=>?_,fun n s h1=>?_⟩,hr⟩
  rotate_left
  ·by_cases q1:n<T.length
   ·exact h.sin n s (h1.old h.wf q1)
   ·have e0:n=T.length:=by
     have c1:=h1.lt
     simp only [List.length_append,List.length_cons,List.length_nil] at c1
     omega
    subst e0
    rw [h1.uniq hr];exact hf.sin h
  have c1:=h1.lt
  have c2:=h2.lt
  simp only [List.length_append,List.length_cons,List.length_nil] at c1 c2
  by_cases q1:n<T.length
  ·by_cases q2:m<T.length
   ·exact hold n m s q1 q2 h1 h2
   ·exfalso
    have:m=T.length:=by omega
    subst this
    have e3:=h2.uniq hr
    subst e3
    exact key n q1 h1
  ·have e0:n=T.length:=by omega
   subst e0
   by_cases q2:m<T.length
   ·exfalso
    have e3:=h1.uniq hr
    subst e3
    exact key m q2 h2
   ·omega
theorem TI.XV {T:List Te} (h:TI B T) {n:Nat} {t:Tm} (hr:Rp T n t):Pk T n t:=h.toTJ.XV (N:=n) (fun n m t _ _=>h.inj n m t) n (Nat.le_refl _) t hr
theorem ti0:TI B nO:=by
 have g:∀ n x,nO[n]? = some x->(n=0/\x=(ky0,false))\/(n=1/\x=(vH,true))\/(n=2/\x=(ky6,true)):=fun n x hx=>by
  match n,hx with
  | 0,hx=>exact .inl ⟨rfl,by cases hx;rfl⟩
  | 1,hx=>exact .inr (.inl ⟨rfl,by cases hx;rfl⟩)
  | 2,hx=>exact .inr (.inr ⟨rfl,by cases hx;rfl⟩)
  | n+3,hx=>simp [nO] at hx
 have r0:Rp nO 0 aG:=.set (l:=[]) (b:=false) rfl trivial
 have r1:Rp nO 1 eps:=.eps (b:=true) rfl
 have r2:Rp nO 2 whole:=.not (i:=0) (b:=true) rfl r0
 have hw:uI nO:=fun n x hx=>by
  rcases g n x hx with ⟨rfl,rfl⟩ | ⟨rfl,rfl⟩ | ⟨rfl,rfl⟩
  ·exact .inl rfl
  ·exact .inr (.inl rfl)
  ·exact .inr (.inr (.inr ⟨.inr rfl,0,by decide,rfl⟩))
 have hJ:TJ nO:=by
  refine ⟨?_,hw,fun n hn=>?_,fun n k i j b hx l hl=>?_,rfl,rfl,rfl⟩
  ·simp [nO]
  ·have:n<3:=hn
   match n,this with
   | 0,_=>exact ⟨_,r0,zU,fun x hx=>by cases hx;rfl⟩
   | 1,_=>exact ⟨_,r1,abe,fun x hx=>by cases hx;rfl⟩
   | 2,_=>exact ⟨_,r2,MF true,fun x hx=>by cases hx;rfl⟩
  ·exfalso
   rcases g n _ hx with ⟨_,e⟩ | ⟨_,e⟩ | ⟨_,e⟩
   ·simp only [bW,ky0,Prod.mk.injEq,Ky.mk.injEq] at e;exact (kk_ne k).1 e.1.1
   ·simp only [bW,vH,Prod.mk.injEq,Ky.mk.injEq] at e;exact (kk_ne k).2.1 e.1.1
   ·simp only [bW,ky6,Prod.mk.injEq,Ky.mk.injEq] at e;exact (kk_ne k).2.2.2.2 e.1.1
 refine ⟨hJ,fun n m t h1 h2=>?_,fun n t h1=>?_⟩
 rotate_left
 ·have c1:n<3:=h1.lt
  match n,c1 with
  | 0,_=>rw [h1.uniq r0];exact gF B
  | 1,_=>rw [h1.uniq r1];trivial
  | 2,_=>rw [h1.uniq r2];exact gF B
 have c1:n<3:=h1.lt
 have c2:m<3:=h2.lt
 have e:∀ n,n<3->∀ t,Rp nO n t->(n=0/\t=aG)\/(n=1/\t=eps)\/(n=2/\t=whole):=fun n hn t h=>by
  match n,hn with
  | 0,_=>exact .inl ⟨rfl,h.uniq r0⟩
  | 1,_=>exact .inr (.inl ⟨rfl,h.uniq r1⟩)
  | 2,_=>exact .inr (.inr ⟨rfl,h.uniq r2⟩)
 rcases e n c1 t h1 with ⟨rfl,rfl⟩ | ⟨rfl,rfl⟩ | ⟨rfl,rfl⟩<;>rcases e m c2 _ h2 with ⟨rfl,q⟩ | ⟨rfl,q⟩ | ⟨rfl,q⟩<;>first | rfl | cases q
end Go.Proofs.YtfolanohokflkaaGreatDoor
namespace Go.Proofs.YtfolanohokflkaaGreatDoor
open Tm (eps)
variable {B:List Int}
structure Op (B:List Int) (T:List Te) (R:List Te×Nat) (t:Tm) (g:Nat):Prop where
 sub:∃ X,R.1=T++X
 ti:TI B R.1
 rp:Rp R.1 R.2 t
 len:R.1.length<=T.length+g
theorem Op.mono {T:List Te} {R:List Te×Nat} {t:Tm} {g g':Nat} (h:Op B T R t g) (hg:g<=g'):Op B T R t g':=⟨h.sub,h.ti,h.rp,Nat.le_trans h.len (by omega)⟩
theorem Op.same {T:List Te} (h:TI B T) {n:Nat} {t:Tm} (hr:Rp T n t):Op B T (T,n) t 0:=⟨⟨[],by simp⟩,h,hr,Nat.le_refl _⟩
theorem Op.up {T:List Te} {R:List Te×Nat} {t:Tm} {g:Nat} (h:Op B T R t g) {n:Nat} {s:Tm} (hr:Rp T n s):Rp R.1 n s:=by
 obtain ⟨X,e⟩:=h.sub
 rw [e];exact hr.mono
theorem Op.trans {T:List Te} {R R':List Te×Nat} {t t':Tm} {g g':Nat} (h:Op B T R t g) (h':Op B R.1 R' t' g'):Op B T R' t' (g+g'):=by
 obtain ⟨X,e⟩:=h.sub
 obtain ⟨Y,e'⟩:=h'.sub
 exact ⟨⟨X++Y,by rw [e',e,List.append_assoc]⟩,h'.ti,h'.rp,by have:=h.len;have:=h'.len;omega⟩
theorem Op.get {T:List Te} {R:List Te×Nat} {t:Tm} {g:Nat} (h:Op B T R t g) {n:Nat} {x:Te} (hx:T[n]? = some x):R.1[n]? = some x:=by
 obtain ⟨X,e⟩:=h.sub
 rw [e];exact lH hx
theorem Op.keep {T:List Te} (h:TI B T) {κ:Ky} {t:Tm} (hf:Fm B T κ t):Op B T (dP T κ) t 1:=by
 obtain ⟨h1,h2⟩:=h.keep hf
 refine ⟨oU T κ,h1,h2,?_⟩
 rcases dV T κ with ⟨i,b,_,e⟩ | ⟨_,e⟩<;>rw [e]<;>simp
theorem Op.set {T:List Te} (h:TI B T) {l:af} (hl:Tidy l) (hb:bU B l):Op B T (fA T (encS l)) (.set l) 1:=Op.keep h (.set hl hb)
theorem TI.kind {T:List Te} (_:TI B T) {n:Nat} {t:Tm} (hr:Rp T n t) {x:Te} (hx:T[n]? = some x) :
  (x.1.kd=3->∃ i s b,x=(dQ i,b)/\t=.star s/\Rp T i s)/\(x.1.kd=6->∃ i s b,x=(dR i,b)/\t=.not s/\Rp T i s) /\
  (x.1.kd=2->∃ i j s u b,x=(bJ i j,b)/\t=.chain s u/\Rp T i s/\Rp T j u)/\(x.1.kd=0->∃ l b,x=(kg (encS l),b)/\t=.set l/\Tidy l):=by
 cases hr with
 | set h hl=>rw [h] at hx;cases hx;exact ⟨by simp [kg],by simp [kg],by simp [kg],fun _=>⟨_,_,rfl,rfl,hl⟩⟩
 | eps h=>rw [h] at hx;cases hx;exact ⟨by simp [vH],by simp [vH],by simp [vH],by simp [vH]⟩
 | chain h h1 h2=>rw [h] at hx;cases hx;exact ⟨by simp [bJ],by simp [bJ],fun _=>⟨_,_,_,_,_,rfl,rfl,h1,h2⟩,by simp [bJ]⟩
 | star h h1=>rw [h] at hx;cases hx;exact ⟨fun _=>⟨_,_,_,rfl,rfl,h1⟩,by simp [dQ],by simp [dQ],by simp [dQ]⟩
 | @aZ _ _ _ k _ _ _ h h1 h2=>rw [h] at hx;cases hx;cases k<;>exact ⟨by simp [bW,kk],by simp [bW,kk],by simp [bW,kk],by simp [bW,kk]⟩
 | not h h1=>rw [h] at hx;cases hx;exact ⟨by simp [dR],fun _=>⟨_,_,_,rfl,rfl,h1⟩,by simp [dR],by simp [dR]⟩
theorem TI.at {T:List Te} (_:TI B T) {n:Nat} {t:Tm} (hr:Rp T n t):∃ x,T[n]? = some x:=⟨_,List.getElem?_eq_getElem hr.lt⟩
theorem TI.Y3 {T:List Te} (h:TI B T) {n:Nat} {t:Tm} (hr:Rp T n t) {x:Te} (hx:T[n]? = some x) (hk:x.1.kd≠3):oJ t=false:=by
 cases t with
 | star s=>
  obtain ⟨i,b,h1,_⟩:=(h.XV hr).star hr rfl
  rw [h1] at hx;cases hx;exact absurd rfl hk
 | _=>rfl
theorem TI.abI {T:List Te} (h:TI B T) {n:Nat} {t:Tm} (hr:Rp T n t) {x:Te} (hx:T[n]? = some x) (hk:x.1.kd≠6):OI t=false:=by
 cases t with
 | not s=>
  obtain ⟨i,b,h1,_⟩:=(h.XV hr).not hr rfl
  rw [h1] at hx;cases hx;exact absurd rfl hk
 | _=>rfl
theorem TI.Vx {T:List Te} (h:TI B T) {n:Nat} {t:Tm} (hr:Rp T n t) {x:Te} (hx:T[n]? = some x) (hk:x.1.kd≠2):bF t=false:=by
 cases t with
 | chain s u=>
  obtain ⟨i,j,b,h1,_⟩:=(h.XV hr).chain hr rfl
  rw [h1] at hx;cases hx;exact absurd rfl hk
 | _=>rfl
theorem TI.zero {T:List Te} (h:TI B T) {n:Nat} {t:Tm} (hr:Rp T n t):n=0↔t=aG:=
 ⟨fun e=>by subst e;exact hr.uniq h.r0,fun e=>by subst e;exact h.inj _ _ _ hr h.r0⟩
theorem TI.one {T:List Te} (h:TI B T) {n:Nat} {t:Tm} (hr:Rp T n t):n=1↔t=eps:=
 ⟨fun e=>by subst e;exact hr.uniq h.r1,fun e=>by subst e;exact h.inj _ _ _ hr h.r1⟩
theorem Op.star {T:List Te} (h:TI B T) {i:Nat} {s:Tm} (hr:Rp T i s):Op B T (uo T i) (gV s) 1:=by
 unfold uo
 split
 ·rename_i q
  have:gV s=eps:=by
   unfold gV
   rw [if_pos (q.imp (h.zero hr).1 (h.one hr).1)]
  rw [this]
  exact (Op.same h h.r1).mono (by omega)
 ·rename_i q
  obtain ⟨x,hx⟩:=h.at hr
  rw [hx]
  dsimp only
  have hv:s≠aG:=fun e=>q (.inl ((h.zero hr).2 e))
  have he:s≠eps:=fun e=>q (.inr ((h.one hr).2 e))
  split
  ·rename_i hk
   obtain ⟨i',s',b,_,rfl,_⟩:=(h.kind hr hx).1 hk
   rw [show gV (.star s')=.star s' from by simp [gV]]
   exact (Op.same h hr).mono (by omega)
  ·rename_i hk
   have hst:=h.Y3 hr hx hk
   have e:gV s=.star s:=by
    unfold gV
    rw [if_neg (by simp [hv,he])]
    cases s<;>first | rfl | cases hst
   rw [e]
   exact Op.keep h (.star hr ⟨h.cn hr,hv,he,hst⟩)
theorem Op.not {T:List Te} (h:TI B T) {i:Nat} {s:Tm} (hr:Rp T i s):Op B T (vP T i) (ku s) 1:=by
 unfold vP
 obtain ⟨x,hx⟩:=h.at hr
 rw [hx]
 dsimp only
 split
 ·rename_i hk
  obtain ⟨i',s',b,rfl,rfl,h1⟩:=(h.kind hr hx).2.1 hk
  exact (Op.same h (t:=s') (by simpa [dR] using h1)).mono (by omega)
 ·rename_i hk
  have hst:=h.abI hr hx hk
  have e:ku s=.not s:=by cases s<;>first | rfl | cases hst
  rw [e]
  exact Op.keep h (.not hr ⟨h.cn hr,hst,fun e=>absurd rfl e⟩)
theorem Op.chain:∀ (f:Nat) {T:List Te} (_:TI B T) {i j:Nat} {s t:Tm},i<f->Rp T i s->Rp T j t->Op B T (dB f T i j) (ax s t) (dO s)
 | 0,_,_,_,_,_,_,hf,_,_=>absurd hf (Nat.not_lt_zero _)
 | f+1,T,h,i,j,s,t,hf,hs,ht=>by
  have hp:=rZ s
  rw [dB]
  split
  ·rename_i q
   have e:ax s t=aG:=by
    rw [mR,if_pos (q.imp (h.zero hs).1 (h.zero ht).1)]
   rw [e]
   exact (Op.same h h.r0).mono (by omega)
  rename_i q0
  have hsv:s≠aG:=fun e=>q0 (.inl ((h.zero hs).2 e))
  have htv:t≠aG:=fun e=>q0 (.inr ((h.zero ht).2 e))
  split
  ·rename_i q
   rw [(h.one hs).1 q,bq]
   exact (Op.same h ht).mono (by omega)
  rename_i q1
  have hse:s≠eps:=fun e=>q1 ((h.one hs).2 e)
  split
  ·rename_i q
   rw [(h.one ht).1 q,ah]
   exact (Op.same h hs).mono (by omega)
  rename_i q2
  have hte:t≠eps:=fun e=>q2 ((h.one ht).2 e)
  obtain ⟨x,hx⟩:=h.at hs
  rw [hx]
  dsimp only
  split
  ·rename_i hk
   obtain ⟨a,b,u,v,b0,rfl,rfl,hu,hv⟩:=(h.kind hs hx).2.2.1 hk
   have hw:=r_ h.wf hx
   simp only [bJ,Int.toNat_natCast]
   have r1:=Op.chain f h (i:=b) (by omega) hv ht
   have r2:=Op.chain f r1.ti (i:=a) (by omega) (r1.up hu) r1.rp
   rw [ax,if_neg htv,if_neg hte]
   exact (r1.trans r2).mono (by simp only [dO];omega)
  ·rename_i hk
   have hc:=h.Vx hs hx hk
   rw [bB hc hsv hse htv hte]
   exact (Op.keep h (.chain hs ht ⟨h.cn hs,h.cn ht,hc,hsv,hse,htv,hte⟩)).mono (by omega)
end Go.Proofs.YtfolanohokflkaaGreatDoor
namespace Go.Proofs.YtfolanohokflkaaGreatDoor
open Tm (eps)
variable {B:List Int}
theorem Cq {k:Bool} {X Y:List Tm} (hX:∀ t∈X,Cn t) (hY:∀ t∈Y,Cn t) (h:∀ t,t≠bC k->(t∈X↔t∈Y)):aj k X=aj k Y:=by
 have hu:memT k (bC k)=[bC k]:=by cases k<;>rfl
 have side:∀ {X Y:List Tm},(∀ t,t≠bC k->(t∈X↔t∈Y))->∀ x,x≠bC k->x∈X.flatMap (memT k)->x∈Y.flatMap (memT k):=fun {X Y} h x hx hm=>by
  obtain ⟨d,hd,hm⟩:=List.mem_flatMap.1 hm
  by_cases e:d=bC k
  ·subst e
   rw [hu] at hm
   exact absurd (by simpa using hm) hx
  ·exact List.mem_flatMap.2 ⟨d,(h d e).1 hd,hm⟩
 have h':∀ t,t≠bC k->(t∈Y↔t∈X):=fun t ht=>(h t ht).symm
 refine tN hX hY ⟨fun x _ hx=>⟨side h x hx,side h' x hx⟩,fun c hc=>?_,fun e=>?_⟩
 ·unfold comb
  cases k
  ·simp only [Bool.false_eq_true,if_false]
   have go:∀ {X Y:List Tm},(∀ t,t≠bC false->(t∈X↔t∈Y))->(∃ s,Tm.set s∈X.flatMap (memT false)/\dw s c=true)->∃ s,Tm.set s∈Y.flatMap (memT false)/\dw s c=true:=fun {X Y} h ⟨s,h1,h2⟩=>by
    have hs:Tm.set s≠bC false:=by
     intro e
     have:s=[]:=by simpa [bC] using e
     subst this;simp [dw] at h2
    refine ⟨s,?_,h2⟩
    obtain ⟨d,hd,hm⟩:=List.mem_flatMap.1 h1
    by_cases e:d=bC false
    ·subst e
     exact absurd (by simpa [bC,memT] using hm) hs
    ·exact List.mem_flatMap.2 ⟨d,(h d e).1 hd,hm⟩
   exact ⟨go h,go h'⟩
  ·simp only [if_true]
   exact ⟨fun q s hs=>q s (side h' _ (by simp [bC]) hs),fun q s hs=>q s (side h _ (by simp [bC]) hs)⟩
 ·subst e
  exact ⟨fun ⟨s,hs⟩=>⟨s,side h _ (by simp [bC]) hs⟩,fun ⟨s,hs⟩=>⟨s,side h' _ (by simp [bC]) hs⟩⟩
inductive g_ (T:List Te):List Nat->List Tm->Prop where
 | nil:g_ T [] []
 | cons {n:Nat} {t:Tm} {l:List Nat} {ts:List Tm}:Rp T n t->g_ T l ts->g_ T (n::l) (t::ts)
theorem g_.mono {T X:List Te} {l:List Nat} {ts:List Tm} (h:g_ T l ts):g_ (T++X) l ts:=by
 induction h with
 | nil=>exact .nil
 | cons h _ ih=>exact .cons h.mono ih
theorem g_.mem {T:List Te} {l:List Nat} {ts:List Tm} (h:g_ T l ts) {t:Tm}:t∈ts↔∃ n∈l,Rp T n t:=by
 induction h with
 | nil=>simp
 | @cons n s l ts h _ ih=>
  rw [List.mem_cons,ih]
  constructor
  ·rintro (rfl | ⟨m,hm,hr⟩)
   ·exact ⟨n,List.mem_cons_self ..,h⟩
   ·exact ⟨m,List.mem_cons_of_mem _ hm,hr⟩
  ·rintro ⟨m,hm,hr⟩
   rcases List.mem_cons.1 hm with rfl | hm
   ·exact .inl (hr.uniq h)
   ·exact .inr ⟨m,hm,hr⟩
theorem g_.lt {T:List Te} {l:List Nat} {ts:List Tm} (h:g_ T l ts):∀ n∈l,n<T.length:=by
 induction h with
 | nil=>intro n hn;cases hn
 | cons h _ ih=>
  intro n hn
  rcases List.mem_cons.1 hn with rfl | hn
  ·exact h.lt
  ·exact ih n hn
theorem g_.len {T:List Te} {l:List Nat} {ts:List Tm} (h:g_ T l ts):ts.length=l.length:=by
 induction h with
 | nil=>rfl
 | cons _ _ ih=>simp [ih]
theorem g_.of {T:List Te}:∀ {l:List Nat},(∀ n∈l,∃ t,Rp T n t)->∃ ts,g_ T l ts
 | [],_=>⟨_,.nil⟩
 | n::l,h=>by
  obtain ⟨t,ht⟩:=h n (List.mem_cons_self ..)
  obtain ⟨ts,hts⟩:=g_.of (l:=l) fun m hm=>h m (List.mem_cons_of_mem _ hm)
  exact ⟨_,.cons ht hts⟩
theorem g_.cn {T:List Te} (hT:TJ T) {l:List Nat} {ts:List Tm} (h:g_ T l ts):∀ t∈ts,Cn t:=fun t ht=>by
 obtain ⟨n,_,hr⟩:=h.mem.1 ht
 exact hT.cn hr
theorem g_.app {T:List Te} {l l':List Nat} {ts ts':List Tm} (h:g_ T l ts) (h':g_ T l' ts'):g_ T (l++l') (ts++ts'):=by
 induction h with
 | nil=>exact h'
 | cons h _ ih=>exact .cons h ih
theorem g_.nodup {T:List Te} (hT:TI B T) {l:List Nat} {ts:List Tm} (h:g_ T l ts) (hn:l.Nodup):ts.Nodup:=by
 induction h with
 | nil=>exact List.nodup_nil
 | cons h h2 ih=>
  have hn':=List.nodup_cons.1 hn
  refine List.nodup_cons.2 ⟨fun q=>?_,ih hn'.2⟩
  obtain ⟨m,hm,hr⟩:=h2.mem.1 q
  rw [hT.inj _ _ _ hr h] at hm
  exact hn'.1 hm
theorem Cr (T:List Te) (κ:Ky):∃ b,(dP T κ).1[(dP T κ).2]? = some (κ,b):=by
 rcases dV T κ with ⟨i,b,h,e⟩ | ⟨_,e⟩
 ·exact ⟨b,by rw [e];exact h⟩
 ·exact ⟨fK T κ,by rw [e];simp⟩
def joinL (T:List Te) (k:Bool):List Nat->List Te×Nat
 | []=>(T,0)
 | [a]=>(T,a)
 | a::b::r=>dP (joinL T k (b::r)).1 (bW k a (joinL T k (b::r)).2)
theorem Nb {k:Bool} {s:Tm} {X:List Tm} (hs:Cn s) (hX:∀ t∈X,Cn t):aj k [s,aj k X]=aj k (s::X):=by
 have h1:∀ t∈[s],Cn t:=by simpa using hs
 rw [fu (Y:=[aj k X,s]) (by simpa using ⟨hs,kH hX⟩) (by simp [or_comm]),lD hX h1]
 exact fu (fun t ht=>by
  rcases List.mem_append.1 ht with ht | ht
  ·exact hX t ht
  ·exact h1 t ht) (by simp [or_comm])
theorem Cs {T:List Te} (h:TI B T) {k:Bool}:∀ {l:List Nat} {ts:List Tm},l≠[]->XU T k l->g_ T l ts->Op B T (joinL T k l) (aj k ts) (l.length - 1)/\ky (joinL T k l).1 k (joinL T k l).2 l
 | [],_,hne,_,_=>absurd rfl hne
 | [a],_,_,hg,hr=>by
  cases hr with
  | cons h1 h2=>
   cases h2
   obtain ⟨x,hx,hk⟩:=(hg.mem a (List.mem_cons_self ..)).2.2
   rw [group_one' (h.cn h1)]
   exact ⟨Op.same h h1,.one hx hk⟩
 | a::b::r,_,_,hg,hr=>by
  cases hr with
  | @cons _ s _ ts h1 h2=>
   have hg2:XU T k (b::r):=⟨fun m hm=>hg.mem m (List.mem_cons_of_mem _ hm),(List.pairwise_cons.1 hg.ord).2⟩
   obtain ⟨o1,sp⟩:=Cs h (by simp) hg2 h2
   obtain ⟨X,eX⟩:=o1.sub
   have hga:XU (joinL T k (b::r)).1 k (a::b::r):=by rw [eX];exact hg.app
   have o2:=Op.keep o1.ti (.aZ (o1.up h1) o1.rp sp hga)
   rw [Nb (h.cn h1) (h2.cn h.toTJ)] at o2
   have o3:=o1.trans o2
   obtain ⟨b0,hb0⟩:=Cr (joinL T k (b::r)).1 (bW k a (joinL T k (b::r)).2)
   refine ⟨o3.mono (by simp),?_⟩
   obtain ⟨Y,eY⟩:=o2.sub
   refine .more hb0 ?_
   show ky (dP (joinL T k (b::r)).1 (bW k a (joinL T k (b::r)).2)).1 k _ _
   rw [eY]
   exact sp.mono
theorem TI.mem {T:List Te} (h:TI B T) {k:Bool} {n:Nat} {t:Tm} {l:List Nat} (hr:Rp T n t) (sp:ky T k n l) (x:Tm):x∈memT k t↔∃ m∈l,Rp T m x:=by
 have pg:=h.XV hr
 cases sp with
 | one hx hk=>
  rw [bf (pg.no k fun y hy=>by rw [hx] at hy;cases hy;exact hk)]
  constructor
  ·intro q
   have:x=t:=by simpa using q
   subst this;exact ⟨n,by simp,hr⟩
  ·rintro ⟨m,hm,hmr⟩
   have:m=n:=by simpa using hm
   subst this
   rw [hmr.uniq hr];simp
 | more hx h5=>exact (pg.yes k _ _ _ hx).2 _ (.more hx h5) x
def aY (k:Bool):Nat:=if k=true then 2 else 0
def dF (k:Bool):Nat:=if k=true then 0 else 2
def iF (T:List Te) (k:Bool) (ms:List Nat):List Te×Nat:=
 if ms.filter (fun m=>decide (m≠aY k))=[] then (T,aY k)
 else if dF k∈ms.filter (fun m=>decide (m≠aY k)) then (T,dF k)
 else joinL T k (ms.filter fun m=>decide (m≠aY k))
theorem TI.idle {T:List Te} (h:TI B T) (k:Bool):Rp T (aY k) (bC k):=by
 cases k
 ·exact h.r0
 ·exact h.r2
theorem TI.aaL {T:List Te} (h:TI B T) (k:Bool):Rp T (dF k) (ed k):=by
 cases k
 ·exact h.r2
 ·exact h.r0
structure MOk (T:List Te) (k:Bool) (l:List Nat):Prop where
 mem:∀ m∈l,∃ x,T[m]? = some x/\x.1.kd≠kk k
 ord:l.Pairwise (Bf T)
theorem pR {T:List Te} {l:List Nat} (h:l.Pairwise (Bf T)):l.Nodup:=h.imp fun {a b} q e=>by subst e;exact Bf.irr _ q
theorem tV {T:List Te} (h:TI B T) {k:Bool} {ms:List Nat} {us:List Tm} (hm:MOk T k ms) (hr:g_ T ms us):Op B T (iF T k ms) (aj k us) (memT k (aj k us)).length:=by
 generalize hL:ms.filter (fun m=>decide (m≠aY k))=L
 have hsub:∀ m,m∈L↔m∈ms/\m≠aY k:=fun m=>by rw [<-hL];simp
 obtain ⟨ts,hts⟩:=g_.of (T:=T) (l:=L) fun n hn=>by
  obtain ⟨t,ht,_⟩:=h.all n (hr.lt n ((hsub n).1 hn).1)
  exact ⟨t,ht⟩
 have hsame:aj k us=aj k ts:=by
  refine Cq (hr.cn h.toTJ) (hts.cn h.toTJ) fun t ht=>?_
  rw [hr.mem,hts.mem]
  constructor
  ·rintro ⟨n,hn,h1⟩
   refine ⟨n,(hsub n).2 ⟨hn,?_⟩,h1⟩
   rintro rfl
   exact ht (h1.uniq (h.idle k))
  ·rintro ⟨n,hn,h1⟩
   exact ⟨n,((hsub n).1 hn).1,h1⟩
 rw [hsame]
 unfold iF
 rw [hL]
 split
 ·rename_i e
  subst e
  cases hts
  rw [show aj k []=bC k from by cases k<;>rfl]
  exact (Op.same h (h.idle k)).mono (Nat.zero_le _)
 ·rename_i hne
  split
  ·rename_i hz
   have hz2:ed k∈ts:=hts.mem.2 ⟨_,hz,h.aaL k⟩
   have:aj k ts=ed k:=by
    refine iT (Ac (jJ (hts.cn h.toTJ)) (List.mem_flatMap.2 ⟨_,hz2,?_⟩))
    cases k<;>simp [ed,memT]
   rw [this]
   exact (Op.same h (h.aaL k)).mono (Nat.zero_le _)
  ·rename_i hz
   have hg:XU T k L:=by
    refine ⟨fun m hmL=>?_,?_⟩
    ·obtain ⟨h1,h2⟩:=(hsub m).1 hmL
     have h3:m≠dF k:=by rintro rfl;exact hz hmL
     obtain ⟨x,hx,hk⟩:=hm.mem m h1
     cases k
     ·exact ⟨by simpa [aY] using h2,by simpa [dF] using h3,x,hx,hk⟩
     ·exact ⟨by simpa [dF] using h3,by simpa [aY] using h2,x,hx,hk⟩
    ·rw [<-hL];exact hm.ord.filter _
   obtain ⟨o,sp⟩:=Cs h hne hg hts
   refine o.mono ?_
   have hlen:L.length<=(memT k (aj k ts)).length:=by
    have hup:g_ (joinL T k L).1 L ts:=by
     obtain ⟨X,e⟩:=o.sub
     rw [e];exact hts.mono
    rw [<-hup.len]
    have hn:=hup.nodup o.ti (pR hg.ord)
    refine il hn fun t ht=>?_
    exact (o.ti.mem o.rp sp t).2 (hup.mem.1 ht)
   omega
end Go.Proofs.YtfolanohokflkaaGreatDoor
namespace Go.Proofs.YtfolanohokflkaaGreatDoor
open Tm (eps)
variable {B:List Int}
theorem RU {k:Bool} (a b:af):aj k [.set a,.set b]=.set (gI k a b):=by
 have e1:[Tm.set a,Tm.set b].flatMap (memT k)=[.set a,.set b]:=by simp [memT]
 have e2:aU k [Tm.set a,Tm.set b]=[.set (gI k a b)]:=by
  have:outs [Tm.set a,Tm.set b]=[]:=by simp [outs,zR,aQ]
  simp [aU,aQ,fG,this,o5,zB]
 unfold aj
 rw [e1,e2]
 generalize gI k a b=s
 unfold qi
 cases k
 ·rw [if_neg (by simp [ed])]
  cases s with
  | nil=>rfl
  | cons x r=>simp [bC,gW]
 ·cases s with
  | nil=>rw [if_pos (by simp [ed])];rfl
  | cons x r=>
   rw [if_neg (by simp [ed])]
   simp [bC,gW]
theorem yn {s:af} (h:Tidy s):Cn (.set s):=⟨h,fun e=>absurd rfl e⟩
theorem Ct {k:Bool} {A:List Tm} (hA:∀ t∈A,Cn t):∀ (r:List af) (s:af),Tidy s->(∀ x∈r,Tidy x)->aj k (A++(s::r).map Tm.set)=aj k (A++[.set (r.foldl (gI k) s)])
 | [],_,_,_=>rfl
 | x::r,s,hs,hr=>by
  have hx:=hr x (List.mem_cons_self ..)
  have ho:Tidy (gI k s x):=opS_tidy' k hs hx
  have ih:=Ct (k:=k) hA r (gI k s x) ho fun y hy=>hr y (List.mem_cons_of_mem _ hy)
  rw [List.foldl_cons,<-ih]
  have hc:∀ t∈r.map Tm.set,Cn t:=fun t ht=>by
   obtain ⟨y,hy,rfl⟩:=List.mem_map.1 ht
   exact yn (hr y (List.mem_cons_of_mem _ hy))
  have hAr:∀ t∈A++r.map Tm.set,Cn t:=fun t ht=>(List.mem_append.1 ht).elim (hA t) (hc t)
  have h2:∀ t∈[Tm.set s,Tm.set x],Cn t:=by simpa using ⟨yn hs,yn hx⟩
  have e1:aj k (A++(s::x::r).map Tm.set)=aj k ([Tm.set s,Tm.set x]++(A++r.map Tm.set)):=
   fu (fun t ht=>by
    rcases List.mem_append.1 ht with q | q
    ·exact hA t q
    ·obtain ⟨y,hy,rfl⟩:=List.mem_map.1 q
     rcases List.mem_cons.1 hy with rfl | hy
     ·exact yn hs
     ·exact yn (hr y hy)) (fun t=>by simp only [List.map_cons,List.mem_append,List.mem_cons,List.not_mem_nil,or_false];grind)
  rw [e1,<-lD h2 hAr,RU]
  exact fu (fun t ht=>by
   rcases List.mem_cons.1 ht with rfl | q
   ·exact yn ho
   ·exact hAr t q) (fun t=>by
    simp only [List.map_cons,List.mem_append,List.mem_cons]
    constructor
    ·rintro (h | h | h)<;>simp_all
    ·rintro (h | h | h)<;>simp_all)
theorem RV {T:List Te} (hT:TJ T) {k:Bool} {n:Nat} {l:List Nat} (sp:ky T k n l):∀ {t:Tm} {ts Y:List Tm},Rp T n t->g_ T l ts->(∀ y∈Y,Cn y)->aj k (t::Y)=aj k (ts++Y):=by
 induction sp with
 | one hx hk=>
  intro t ts Y hr hl _
  cases hl with
  | cons h1 h2=>
   cases h2
   rw [hr.uniq h1];rfl
 | @more n i j b l hx sp ih=>
  intro t ts Y hr hl hY
  cases hl with
  | @cons _ s _ ts h1 h2=>
   cases hr with
   | @aZ _ i' j' k' s' u b' hx' hi hj=>
    have e:=aA hx hx'
    simp only [bW,Ky.mk.injEq,true_and] at e
    have e0:=Ck e.1
    have e1:=cast_inj e.2.1
    have e2:=cast_inj e.2.2
    subst e0 e1 e2
    have es:=hi.uniq h1
    subst es
    have hs:=hT.cn hi
    have hu:=hT.cn hj
    have hts:=h2.cn hT
    have h2':∀ t∈[s',u],Cn t:=by simpa using ⟨hs,hu⟩
    rw [lD h2' hY,fu (Y:=u::(s'::Y)) (fun t ht=>(List.mem_append.1 ht).elim (h2' t) (hY t)) (fun t=>by simp;constructor<;>(rintro (h | h | h)<;>simp_all)),ih hj h2 (fun y hy=>by
     rcases List.mem_cons.1 hy with rfl | hy
     ·exact hs
     ·exact hY y hy)]
    exact fu (fun t ht=>by
     rcases List.mem_append.1 ht with q | q
     ·exact hts t q
     ·rcases List.mem_cons.1 q with rfl | q
      ·exact hs
      ·exact hY t q) (fun t=>by simp;constructor<;>(rintro (h | h | h)<;>simp_all))
   | set hx' _=>have e:=aA hx hx';simp only [kg,bW,Ky.mk.injEq] at e;exact absurd e.1 (kk_ne _).1
   | eps hx'=>have e:=aA hx hx';simp only [vH,bW,Ky.mk.injEq] at e;exact absurd e.1 (kk_ne _).2.1
   | chain hx' _ _=>have e:=aA hx hx';simp only [bJ,bW,Ky.mk.injEq] at e;exact absurd e.1 (kk_ne _).2.2.1
   | star hx' _=>have e:=aA hx hx';simp only [dQ,bW,Ky.mk.injEq] at e;exact absurd e.1 (kk_ne _).2.2.2.1
   | not hx' _=>have e:=aA hx hx';simp only [dR,bW,Ky.mk.injEq] at e;exact absurd e.1 (kk_ne _).2.2.2.2
theorem ky.kinds {T:List Te} (h:TJ T) {k:Bool} {n:Nat} {l:List Nat} (sp:ky T k n l):∀ m∈l,∃ x,T[m]? = some x/\x.1.kd≠kk k:=by
 intro m hm
 cases sp with
 | one hx hk=>
  have:m=n:=by simpa using hm
  subst this;exact ⟨_,hx,hk⟩
 | more hx sp=>exact ((h.gok _ _ _ _ _ hx _ (.more hx sp)).mem m hm).2.2
inductive JX (T:List Te) (k:Bool):List Nat->List Nat->Prop where
 | nil:JX T k [] []
 | cons {n:Nat} {sp l L:List Nat}:ky T k n sp->JX T k l L->JX T k (n::l) (sp++L)
theorem JX.kinds {T:List Te} (h:TJ T) {k:Bool} {l L:List Nat} (sp:JX T k l L):∀ m∈L,∃ x,T[m]? = some x/\x.1.kd≠kk k:=by
 induction sp with
 | nil=>intro m hm;cases hm
 | cons s _ ih=>
  intro m hm
  rcases List.mem_append.1 hm with q | q
  ·exact s.kinds h m q
  ·exact ih m q
theorem Nc {T:List Te} (hT:TJ T) {k:Bool} {l L:List Nat} (sp:JX T k l L):∀ {ts us Y:List Tm},g_ T l ts->g_ T L us->(∀ y∈Y,Cn y)->aj k (ts++Y)=aj k (us++Y):=by
 induction sp with
 | nil=>intro ts us Y h1 h2 _;cases h1;cases h2;rfl
 | @cons n sp l L s _ ih=>
  intro ts us Y h1 h2 hY
  cases h1 with
  | @cons _ t _ ts hr hl=>
   obtain ⟨u1,hu1⟩:=g_.of (T:=T) (l:=sp) fun m hm=>by
    obtain ⟨x,hx,_⟩:=s.kinds hT m hm
    obtain ⟨y,hy,_⟩:=hT.all m (List.getElem?_eq_some_iff.1 hx).1
    exact ⟨y,hy⟩
   obtain ⟨u2,hu2⟩:=g_.of (T:=T) (l:=L) fun m hm=>by
    obtain ⟨y,hy,_⟩:=hT.all m (h2.lt m (List.mem_append_right _ hm))
    exact ⟨y,hy⟩
   have hts:=hl.cn hT
   have hc1:=hu1.cn hT
   have hc2:=hu2.cn hT
   have e0:∀ x,x∈us↔x∈u1++u2:=fun x=>by rw [h2.mem,(hu1.app hu2).mem]
   have hYY:∀ y∈ts++Y,Cn y:=fun y hy=>(List.mem_append.1 hy).elim (hts y) (hY y)
   show aj k (t::(ts++Y))=_
   rw [RV hT s hr hu1 hYY]
   have e1:aj k (u1++(ts++Y))=aj k (ts++(u1++Y)):=fu (fun x hx=>(List.mem_append.1 hx).elim (hc1 x) (hYY x)) (fun x=>by simp;constructor<;>(rintro (h | h | h)<;>simp_all))
   rw [e1,ih hl hu2 (fun y hy=>(List.mem_append.1 hy).elim (hc1 y) (hY y))]
   exact fu (fun x hx=>by
    rcases List.mem_append.1 hx with q | q
    ·exact hc2 x q
    ·exact (List.mem_append.1 q).elim (hc1 x) (hY x)) (fun x=>by
     rw [List.mem_append,List.mem_append,List.mem_append,e0,List.mem_append]
     constructor
     ·rintro (h | h | h)<;>simp_all
     ·rintro ((h | h) | h)<;>simp_all)
def aW (T:List Te) (m:Nat):Bool:=match T[m]? with
 | some x=>decide (x.1.kd=0)
 | none=>false
theorem l8 {T:List Te} {m:Nat}:aW T m=true↔Na T m:=by
 unfold aW Na
 cases h:T[m]? with
 | none=>simp
 | some x=>simp
def Y4 (T:List Te) (k:Bool) (L:List Nat):Option af->List Te×Nat
 | Option.none=>iF T k (L.filter fun m=>!aW T m)
 | some s=>iF (fA T (encS s)).1 k ((L.filter fun m=>!aW T m)++[(fA T (encS s)).2])
theorem Vy {T:List Te} (h:TI B T) {k:Bool} {l L0 L:List Nat} {ts:List Tm} {ss:List af} (hr:g_ T l ts) (hsp:JX T k l L0) (hL:L.Pairwise (· < ·)) (hmem:∀ m,m∈L↔m∈L0) (hss:g_ T (L.filter fun m=>aW T m) (ss.map Tm.set)) (ht:∀ s∈ss,Tidy s) :
  Op B T (Y4 T k L (fG k ss)) (aj k ts) ((memT k (aj k ts)).length+1):=by
 have hJ:=h.toTJ
 have hkind:∀ m∈L,∃ x,T[m]? = some x/\x.1.kd≠kk k:=fun m hm=>hsp.kinds hJ m ((hmem m).1 hm)
 have hex:∀ m∈L,∃ t,Rp T m t:=fun m hm=>by
  obtain ⟨x,hx,_⟩:=hkind m hm
  obtain ⟨y,hy,_⟩:=hJ.all m (List.getElem?_eq_some_iff.1 hx).1
  exact ⟨y,hy⟩
 obtain ⟨u0,hu0⟩:=g_.of (T:=T) (l:=L0) fun m hm=>hex m ((hmem m).2 hm)
 obtain ⟨zs,has⟩:=g_.of (T:=T) (l:=L.filter fun m=>!aW T m) fun m hm=>hex m (List.mem_filter.1 hm).1
 have XW:=has.cn hJ
 have hcs:∀ t∈ss.map Tm.set,Cn t:=hss.cn hJ
 have e1:aj k ts=aj k (zs++ss.map Tm.set):=by
  have q:=Nc hJ hsp hr hu0 (Y:=[]) (by simp)
  simp only [List.append_nil] at q
  rw [q]
  refine fu (hu0.cn hJ) fun t=>?_
  rw [hu0.mem,List.mem_append,has.mem,hss.mem]
  constructor
  ·rintro ⟨m,hm,hmr⟩
   have hm':=(hmem m).2 hm
   cases hb:aW T m with
   | true=>exact .inr ⟨m,List.mem_filter.2 ⟨hm',hb⟩,hmr⟩
   | false=>exact .inl ⟨m,List.mem_filter.2 ⟨hm',by simp [hb]⟩,hmr⟩
  ·rintro (⟨m,hm,hmr⟩ | ⟨m,hm,hmr⟩)
   ·exact ⟨m,(hmem m).1 (List.mem_filter.1 hm).1,hmr⟩
   ·exact ⟨m,(hmem m).1 (List.mem_filter.1 hm).1,hmr⟩
 have hns:∀ m∈L.filter (fun m=>!aW T m),¬ Na T m:=fun m hm q=>by
  have:=(List.mem_filter.1 hm).2
  rw [l8.2 q] at this;cases this
 have hbf:(L.filter fun m=>!aW T m).Pairwise (Bf T):=(hL.filter _).imp_of_mem fun {a b} ha hb q=>⟨hns a ha,.inr q⟩
 have hM:MOk T k (L.filter fun m=>!aW T m):=⟨fun m hm=>hkind m (List.mem_filter.1 hm).1,hbf⟩
 cases ss with
 | nil=>
  simp only [List.map_nil,List.append_nil] at e1
  rw [e1]
  exact (tV h hM has).mono (by omega)
 | cons s r=>
  have hs:=ht s (List.mem_cons_self ..)
  have hrt:∀ x∈r,Tidy x:=fun x hx=>ht x (List.mem_cons_of_mem _ hx)
  have hin:∀ x∈s::r,bU B x:=fun x hx=>by
   obtain ⟨m,_,hmr⟩:=hss.mem.1 (List.mem_map.2 ⟨x,hx,rfl⟩)
   exact h.sin _ _ hmr
  have hf2:=jQ (B:=B) (k:=k) (l:=r) (s:=s) (fun x hx=>⟨hrt x hx,hin x (List.mem_cons_of_mem _ hx)⟩) hs (hin s (List.mem_cons_self ..))
  have hf:=hf2.1
  rw [Ct XW r s hs hrt] at e1
  have oQ:=Op.set h hf hf2.2
  obtain ⟨X,eX⟩:=oQ.sub
  obtain ⟨b0,hb0⟩:=Cr T (kg (encS (r.foldl (gI k) s)))
  have hup:g_ (fA T (encS (r.foldl (gI k) s))).1 (L.filter fun m=>!aW T m) zs:=by rw [eX];exact has.mono
  have hM2:MOk (fA T (encS (r.foldl (gI k) s))).1 k ((L.filter fun m=>!aW T m)++[(fA T (encS (r.foldl (gI k) s))).2]):=by
   refine ⟨fun m hm=>?_,?_⟩
   ·rcases List.mem_append.1 hm with q | q
    ·obtain ⟨x,hx,hk⟩:=hM.mem m q
     exact ⟨x,oQ.get hx,hk⟩
    ·have:m=(fA T (encS (r.foldl (gI k) s))).2:=by simpa using q
     subst this
     exact ⟨_,hb0,fun e=>(kk_ne k).1 e.symm⟩
   ·have hnew:∀ m∈L.filter (fun m=>!aW T m),¬ Na (fA T (encS (r.foldl (gI k) s))).1 m:=fun m hm=>by
     rw [eX,Af (has.lt m hm)];exact hns m hm
    refine List.pairwise_append.2 ⟨hbf.imp_of_mem fun {a b} ha hb q=>⟨hnew a ha,?_⟩,by simp,fun a ha b hb=>?_⟩
    ·exact .inr (q.2.resolve_left (hns b hb))
    ·have:b=(fA T (encS (r.foldl (gI k) s))).2:=by simpa using hb
     subst this
     exact ⟨hnew a ha,.inl ⟨_,hb0,rfl⟩⟩
  have o2:=tV oQ.ti hM2 (hup.app (.cons oQ.rp .nil))
  rw [<-e1] at o2
  exact (oQ.trans o2).mono (by omega)
end Go.Proofs.YtfolanohokflkaaGreatDoor
namespace Go.Proofs.YtfolanohokflkaaGreatDoor
open Tm (eps)
def jk (l:af):List Int:=(l++fE l).map (·.1)
def si:Tm->Int->Prop
 | .set l,c=>c∈jk l
 | .eps,c=>c=0
 | .chain a b,c=>si a c\/(di a=true/\si b c)
 | .star a,c=>si a c
 | .not a,c=>si a c
 | .aZ _ a b,c=>si a c\/si b c
def Seg (t:Tm) (c d:Int):Prop:=∀ b,si t b->(b<=c↔b<=d)
theorem Seg.refl (t:Tm) (c:Int):Seg t c c:=fun _ _=>Iff.rfl
theorem Seg.symm {t:Tm} {c d:Int} (h:Seg t c d):Seg t d c:=fun b hb=>(h b hb).symm
theorem Seg.trans {t:Tm} {c d e:Int} (h:Seg t c d) (h':Seg t d e):Seg t c e:=fun b hb=>(h b hb).trans (h' b hb)
theorem GG {k:Bool} {b:Int}:∀ (t:Tm),si t b↔∃ m∈memT k t,si m b:=by
 intro t
 induction t with
 | aZ k' x y _ ih=>
  rw [memT]
  split
  ·simp only [List.mem_cons,exists_eq_or_imp,si]
   rw [ih]
  ·simp
 | _=>simp [memT]
theorem JY {l:af} {c:Int} (h:dw l c=true):∃ x∈l,x.1<=c/\c<=x.2:=by
 simp only [dw,List.any_eq_true,Bool.and_eq_true,decide_eq_true_eq] at h
 exact h
theorem l9 {l:af} {x:Int×Int} {c:Int} (hx:x∈l) (h1:x.1<=c) (h2:c<=x.2):dw l c=true:=by
 simp only [dw,List.any_eq_true,Bool.and_eq_true,decide_eq_true_eq]
 exact ⟨x,hx,h1,h2⟩
theorem jR {l:af} (h:Tidy l) {x:Int×Int} (hx:x∈l):jw x:=bA h x hx
theorem sj {l:af} (h:Tidy l) {c:Int} (hc:c∈jk l):aF c=true:=by
 obtain ⟨x,hx,rfl⟩:=List.mem_map.1 hc
 rcases List.mem_append.1 hx with q | q
 ·exact (jR h q).1
 ·exact (jR (dC h.pos) q).1
theorem yo {l:af} (h:Tidy l):0∈jk l:=by
 have h0:aF 0=true:=by decide
 have go:∀ {m:af},Tidy m->dw m 0=true->∃ x∈m,x.1=0:=fun {m} hm q=>by
  obtain ⟨x,hx,h1,h2⟩:=JY q
  have:=(aD.1 (jR hm hx).1).1
  exact ⟨x,hx,by omega⟩
 cases hq:dw l 0 with
 | true=>
  obtain ⟨x,hx,e⟩:=go h hq
  exact List.mem_map.2 ⟨x,List.mem_append_left _ hx,e⟩
 | false=>
  obtain ⟨x,hx,e⟩:=go (dC h.pos) (by rw [kE h.pos h0,hq];rfl)
  exact List.mem_map.2 ⟨x,List.mem_append_right _ hx,e⟩
theorem Y5 {l:af} (h:Tidy l) {c d:Int} (hc:aF c=true) (hd:aF d=true) (hs:Seg (.set l) c d):dw l c=dw l d:=by
 have up:∀ {m m':af} {c d:Int},(∀ x∈m',x∈l++fE l)->(∀ e,aF e=true->dw m e=!dw m' e)->aF c=true->aF d=true->Seg (.set l) c d->c<=d->dw m c=true->dw m d=true:=fun {m m' c d} hm' hx hc hd hs hcd q=>by
  cases hq:dw m d with
  | true=>rfl
  | false=>
   exfalso
   have h2:dw m' d=true:=by
    have:=hx d hd
    rw [hq] at this
    cases h3:dw m' d with
    | true=>rfl
    | false=>rw [h3] at this;cases this
   obtain ⟨x,hx',h3,h4⟩:=JY h2
   have h5:=(hs x.1 (List.mem_map.2 ⟨x,hm' x hx',rfl⟩)).2 h3
   have h6:dw m' c=true:=l9 hx' h5 (by omega)
   have:=hx c hc
   rw [h6,q] at this;cases this
 have ho:=fun e he=>kE (a:=l) h.pos (c:=e) he
 have main:∀ {c d:Int},aF c=true->aF d=true->Seg (.set l) c d->c<=d->dw l c=dw l d:=fun {c d} hc hd hs hcd=>by
  cases hq:dw l c with
  | true=>exact (up (m:=l) (m':=fE l) (fun x hx=>List.mem_append_right _ hx) (fun e he=>by rw [ho e he];simp) hc hd hs hcd hq).symm
  | false=>
   have h1:dw (fE l) c=true:=by rw [ho c hc,hq];rfl
   have h2:=up (m:=fE l) (m':=l) (fun x hx=>List.mem_append_left _ hx) ho hc hd hs hcd h1
   rw [ho d hd] at h2
   cases h3:dw l d with
   | true=>rw [h3] at h2;cases h2
   | false=>rfl
 rcases Int.le_total c d with q | q
 ·exact main hc hd hs q
 ·exact (main hd hc hs.symm q).symm
theorem Seg.mem {t m:Tm} {k:Bool} {c d:Int} (h:Seg t c d) (hm:m∈memT k t):Seg m c d:=fun b hb=>h b ((GG (k:=k) t).2 ⟨m,hm,hb⟩)
theorem oz {c d:Int} (hc:aF c=true) (hd:aF d=true):∀ (n:Nat) {t:Tm},dZ t<=n->jW t->Seg t c d->aK c t=aK d t:=by
 intro n
 induction n with
 | zero=>intro t ht;cases t<;>simp [dZ] at ht
 | succ n ih=>
  intro t hn ht hs
  cases t with
  | set l=>rw [jy,jy,Y5 ht hc hd hs]
  | eps=>rfl
  | chain a b=>
   simp only [dZ] at hn
   have h1:=ih (t:=a) (by omega) ht.1 fun b' hb=>hs b' (.inl hb)
   rw [fM,fM,h1]
   split
   ·rename_i q
    rw [ih (t:=b) (by omega) ht.2 fun b' hb=>hs b' (.inr ⟨q,hb⟩)]
   ·rfl
  | star a=>
   simp only [dZ] at hn
   rw [tu,tu,ih (t:=a) (by omega) ht hs]
  | not a=>
   simp only [dZ] at hn
   rw [vW,vW,ih (t:=a) (by omega) ht hs]
  | aZ k a b=>
   rw [pz,pz]
   congr 1
   refine List.map_congr_left fun m hm=>?_
   exact ih (by have:=uY hm;omega) (Ur k ht m hm) (hs.mem hm)
theorem nQ:∀ {t:Tm},jW t->si t 0
 | .set _,h=>yo h
 | .eps,_=>rfl
 | .chain _ _,h=>.inl (nQ h.1)
 | .star a,h=>nQ (t:=a) h
 | .not a,h=>nQ (t:=a) h
 | .aZ _ _ _,h=>.inl (nQ h.1)
theorem mO:∀ {t:Tm},jW t->∀ {c:Int},si t c->aF c=true
 | .set _,h,_,hc=>sj h hc
 | .eps,_,_,hc=>by rw [show _=(0:Int) from hc];decide
 | .chain _ _,h,_,hc=>hc.elim (mO h.1) fun q=>mO h.2 q.2
 | .star a,h,_,hc=>mO (t:=a) h hc
 | .not a,h,_,hc=>mO (t:=a) h hc
 | .aZ _ _ _,h,_,hc=>hc.elim (mO h.1) (mO h.2)
def um (c:Int):Int:=if c=57344 then 55295 else c - 1
theorem sw {c:Int} (h:aF c=true) (h0:c≠0):aF (um c)=true/\um c<c/\∀ d,aF d=true->d<c->d<=um c:=by
 rw [aD] at h
 refine ⟨?_,?_,fun d hd hlt=>?_⟩
 ·rw [aD];unfold um;split<;>omega
 ·unfold um;split<;>omega
 ·rw [aD] at hd
  unfold um;split<;>omega
theorem vg:∀ {m:Int} {l:af},eD m l->∀ x∈l,x.1≠0->dw l (um x.1)=false
 | _,[],_,x,hx,_=>by cases hx
 | m,y::r,h,x,hx,h0=>by
  obtain ⟨h1,h2,h3,h4,h5⟩:=h
  have hy2:=aD.1 h3
  rcases List.mem_cons.1 hx with rfl | hx
  ·obtain ⟨b1,b2,b3⟩:=sw h2 h0
   cases hq:dw (x::r) (um x.1) with
   | false=>rfl
   | true=>
    rcases bR.1 hq with q | q
    ·omega
    ·have:=eD.ge h5 q
     unfold kD at this
     split at this<;>omega
  ·have hxs:=(bA h5 x hx).1
   have hgt:kD y.2<x.1:=eD.ge h5 (l9 hx (Int.le_refl _) (bA h5 x hx).2.2)
   obtain ⟨b1,b2,b3⟩:=sw hxs h0
   have ih:=vg h5 x hx h0
   rw [gT,ih,Bool.or_false]
   have hxs':=aD.1 hxs
   have:y.2<um x.1:=by
    unfold kD at hgt
    unfold um
    split at hgt<;>split<;>omega
   simp
   omega
theorem oC {B:List Int} {l:af} (h:Tidy l) (hb:bU B l) {c:Int} (hc:c∈jk l) (h0:c≠0):∃ b∈B,um c<b/\b<=c:=by
 have hs:=sj h hc
 obtain ⟨b1,b2,_⟩:=sw hs h0
 have hne:dw l (um c)≠dw l c:=by
  obtain ⟨x,hx,rfl⟩:=List.mem_map.1 hc
  rcases List.mem_append.1 hx with q | q
  ·rw [vg h x q h0,l9 q (Int.le_refl _) (jR h q).2.2];simp
  ·have ho:=dC (a:=l) h.pos
   have e1:=vg ho x q h0
   have e2:=l9 q (Int.le_refl _) (jR ho q).2.2
   rw [kE h.pos b1] at e1
   rw [kE h.pos hs] at e2
   intro e
   rw [e] at e1
   rw [e1] at e2;cases e2
 refine Classical.byContradiction fun hn=>hne (hb _ _ b1 hs fun b hbB=>?_)
 constructor
 ·intro q;omega
 ·intro q
  refine Classical.byContradiction fun q2=>hn ⟨b,hbB,by omega,q⟩
theorem jS {B:List Int}:∀ {t:Tm},jW t->fP B t->∀ {c:Int},si t c->c≠0->∃ b∈B,um c<b/\b<=c
 | .set _,h,hb,_,hc,h0=>oC h hb hc h0
 | .eps,_,_,_,hc,h0=>absurd hc h0
 | .chain _ _,h,hb,_,hc,h0=>hc.elim (fun q=>jS h.1 hb.1 q h0) fun q=>jS h.2 hb.2 q.2 h0
 | .star a,h,hb,_,hc,h0=>jS (t:=a) h hb hc h0
 | .not a,h,hb,_,hc,h0=>jS (t:=a) h hb hc h0
 | .aZ _ _ _,h,hb,_,hc,h0=>hc.elim (fun q=>jS h.1 hb.1 q h0) fun q=>jS h.2 hb.2 q h0
theorem qy {B L:List Int} (hL:L.Nodup) (hs:∀ c∈L,aF c=true) (hb:∀ c∈L,c≠0->∃ b∈B,um c<b/\b<=c):L.length<=B.length+1:=by
 have e:=B_ (fun c:Int=>decide (c=0)) L
 have h1:(L.filter fun c=>decide (c=0)).length<=1:=il (m:=[0]) (hL.filter _) fun x hx=>by
  have:=(List.mem_filter.1 hx).2
  simpa using this
 have h2:(L.filter fun c=>!decide (c=0)).length<=B.length:=by
  have hex:∀ c:Int,∃ b,(c∈L->c≠0->b∈B/\um c<b/\b<=c):=fun c=>by
   by_cases hc:c∈L/\c≠0
   ·obtain ⟨b,h1,h2⟩:=hb c hc.1 hc.2
    exact ⟨b,fun _ _=>⟨h1,h2⟩⟩
   ·exact ⟨0,fun h h'=>absurd ⟨h,h'⟩ hc⟩
  let f:=fun c=>(hex c).choose
  have hf:∀ c,c∈L->c≠0->f c∈B/\um c<f c/\f c<=c:=fun c=>(hex c).choose_spec
  have hmem:∀ c∈L.filter (fun c=>!decide (c=0)),c∈L/\c≠0:=fun c hc=>by
   have:=List.mem_filter.1 hc
   exact ⟨this.1,by simpa using this.2⟩
  rw [<-List.length_map (f:=f)]
  refine il ?_ fun x hx=>?_
  ·rw [List.nodup_iff_pairwise_ne,List.pairwise_map]
   refine List.Pairwise.imp_of_mem (fun {a b} ha hb' hab e=>?_) (hL.filter _)
   obtain ⟨a1,a2⟩:=hmem a ha
   obtain ⟨b1,b2⟩:=hmem b hb'
   have fa:=hf a a1 a2
   have fb:=hf b b1 b2
   rcases Int.lt_or_gt_of_ne hab with q | q
   ·have:=(sw (hs b b1) b2).2.2 a (hs a a1) q
    rw [e] at fa;omega
   ·have:=(sw (hs a a1) a2).2.2 b (hs b b1) q
    rw [e] at fa;omega
  ·obtain ⟨c,hc,rfl⟩:=List.mem_map.1 hx
   obtain ⟨c1,c2⟩:=hmem c hc
   exact (hf c c1 c2).1
 omega
structure yt (t:Tm) (l:List Int):Prop where
 rise:l.Pairwise (· < ·)
 mem:∀ c,c∈l↔si t c
theorem yt.len {B:List Int} {t:Tm} {l:List Int} (h:yt t l) (ht:jW t) (hb:fP B t):l.length<=B.length+1:=
 qy (h.rise.imp fun q e=>by omega) (fun c hc=>mO ht ((h.mem c).1 hc)) fun c hc h0=>jS ht hb ((h.mem c).1 hc) h0
theorem yt.Hq {t:Tm} {l:List Int} (h:yt t l) {c d:Int} (hdc:d<=c) (hm:∀ b∈l,b<=c->b<=d):Seg t c d:=fun b hb=>⟨fun q=>hm b ((h.mem b).2 hb) q,fun q=>by omega⟩
theorem fQ {B:List Int} {l:af} (h:Tidy l) (hb:bU B l):l.length<=B.length+1/\(fE l).length<=B.length+1:=by
 have go:∀ {m:Int} {l:af},eD m l->(l.map (·.1)).Nodup:=by
  intro m l
  induction l generalizing m with
  | nil=>intro _;simp
  | cons x r ih=>
   intro h
   obtain ⟨h1,h2,h3,h4,h5⟩:=h
   rw [List.map_cons]
   refine List.nodup_cons.2 ⟨fun q=>?_,ih h5⟩
   obtain ⟨y,hy,e⟩:=List.mem_map.1 q
   have:=eD.ge h5 (l9 hy (Int.le_refl _) (bA h5 y hy).2.2)
   unfold kD at this
   split at this<;>omega
 refine ⟨?_,?_⟩
 ·rw [show l.length=(l.map (·.1)).length from by simp]
  exact qy (go h) (fun c hc=>sj h (by unfold jk;rw [List.map_append];exact List.mem_append_left _ hc)) fun c hc h0=>oC h hb (by unfold jk;rw [List.map_append];exact List.mem_append_left _ hc) h0
 ·rw [show (fE l).length=((fE l).map (·.1)).length from by simp]
  exact qy (go (dC h.pos)) (fun c hc=>sj h (by unfold jk;rw [List.map_append];exact List.mem_append_right _ hc)) fun c hc h0=>oC h hb (by unfold jk;rw [List.map_append];exact List.mem_append_right _ hc) h0
end Go.Proofs.YtfolanohokflkaaGreatDoor
