import Derived.Test.YtfolanohokflkaaGreatDoorTabH
import Derived.WalkKit
import Derived.WalkSpells
import Derived.WalkLawsBesides
import Derived.WalkMore
import Derived.Laws.EntriesVeiled
import Derived.Test.YtfolanohokflkaaGreatDoorShelfG
import Derived.Test.YtfolanohokflkaaGreatDoorLnO
namespace Go.Proofs.YtfolanohokflkaaGreatDoor
open Go.RowKit
set_option maxRecDepth 100000 in
set_option maxHeartbeats 4000000 in
theorem Vv (w:World):Calls Tryz.prog 118 #[] w fun e w'=>e=.returned (.agg #[fv 163,fv 164,fv 166])/\Hid (Below w.heap.size w w'):=by
 go_enter Tryz.func118,Tryz.ntmps118
 go_wp2_with fail
 refine bodyPost_ret (v:=.agg #[fv 163,fv 164,fv 166]) ?_ ?_ ?_
 ·simp [results,Tryz.results118,go_sem]
 ·rfl
 ·exact ⟨rfl,(Below.refl _ _).alloc (Nat.le_refl _) _⟩
set_option maxRecDepth 100000 in
set_option maxHeartbeats 4000000 in
theorem R9 (w:World):Calls Tryz.prog 119 #[] w fun e w'=>e=.returned (.agg #[fv 168,fv 169,fv 170])/\Hid (Below w.heap.size w w'):=by
 go_enter Tryz.func119,Tryz.ntmps119
 go_wp2_with fail
 refine bodyPost_ret (v:=.agg #[fv 168,fv 169,fv 170]) ?_ ?_ ?_
 ·simp [results,Tryz.results119,go_sem]
 ·rfl
 ·exact ⟨rfl,(Below.refl _ _).alloc (Nat.le_refl _) _⟩
set_option maxRecDepth 100000 in
set_option maxHeartbeats 4000000 in
theorem Nf (w:World):Calls Tryz.prog 120 #[] w fun e w'=>e=.returned (.agg #[fv 171,fv 172,fv 173])/\Hid (Below w.heap.size w w'):=by
 go_enter Tryz.func120,Tryz.ntmps120
 go_wp2_with fail
 refine bodyPost_ret (v:=.agg #[fv 171,fv 172,fv 173]) ?_ ?_ ?_
 ·simp [results,Tryz.results120,go_sem]
 ·rfl
 ·exact ⟨rfl,(Below.refl _ _).alloc (Nat.le_refl _) _⟩
set_option maxRecDepth 100000 in
set_option maxHeartbeats 4000000 in
theorem R_ (w:World):Calls Tryz.prog 121 #[] w fun e w'=>e=.returned (.agg #[fv 175,fv 176,fv 177])/\Hid (Below w.heap.size w w'):=by
 go_enter Tryz.func121,Tryz.ntmps121
 go_wp2_with fail
 refine bodyPost_ret (v:=.agg #[fv 175,fv 176,fv 177]) ?_ ?_ ?_
 ·simp [results,Tryz.results121,go_sem]
 ·rfl
 ·exact ⟨rfl,(Below.refl _ _).alloc (Nat.le_refl _) _⟩
set_option maxRecDepth 100000 in
set_option maxHeartbeats 4000000 in
theorem Vw (w:World):Calls Tryz.prog 122 #[] w fun e w'=>e=.returned (.agg #[fv 178,fv 179,fv 182])/\Hid (Below w.heap.size w w'):=by
 go_enter Tryz.func122,Tryz.ntmps122
 go_wp2_with fail
 refine bodyPost_ret (v:=.agg #[fv 178,fv 179,fv 182]) ?_ ?_ ?_
 ·simp [results,Tryz.results122,go_sem]
 ·rfl
 ·exact ⟨rfl,(Below.refl _ _).alloc (Nat.le_refl _) _⟩
set_option maxRecDepth 100000 in
set_option maxHeartbeats 4000000 in
theorem Vx (w:World):Calls Tryz.prog 123 #[] w fun e w'=>e=.returned (.agg #[fv 183,fv 184,fv 185])/\Hid (Below w.heap.size w w'):=by
 go_enter Tryz.func123,Tryz.ntmps123
 go_wp2_with fail
 refine bodyPost_ret (v:=.agg #[fv 183,fv 184,fv 185]) ?_ ?_ ?_
 ·simp [results,Tryz.results123,go_sem]
 ·rfl
 ·exact ⟨rfl,(Below.refl _ _).alloc (Nat.le_refl _) _⟩
set_option maxRecDepth 100000 in
set_option maxHeartbeats 4000000 in
theorem Vy (w:World):Calls Tryz.prog 124 #[] w fun e w'=>e=.returned (.agg #[fv 186,fv 187,fv 188])/\Hid (Below w.heap.size w w'):=by
 go_enter Tryz.func124,Tryz.ntmps124
 go_wp2_with fail
 refine bodyPost_ret (v:=.agg #[fv 186,fv 187,fv 188]) ?_ ?_ ?_
 ·simp [results,Tryz.results124,go_sem]
 ·rfl
 ·exact ⟨rfl,(Below.refl _ _).alloc (Nat.le_refl _) _⟩
theorem Sa {B g:Nat} {w0 w:World} (hb:Below B w0 w) (hg:B<=g) (cs:Array Value):Below B w0 (w.setRow g cs):=
 ⟨hb.os,hb.tape,hb.output,by rw [size_setRow];exact hb.size,fun k hk=>(setRow_other w g k cs (by omega)).trans (hb.block k hk)⟩
set_option maxRecDepth 100000 in
set_option maxHeartbeats 4000000 in
theorem Cj (w:World):Calls Tryz.prog 83 #[] w fun e w'=>e=.returned (.agg dY.toArray)/\Hid (Below w.heap.size w w'):=by
 go_enter Tryz.func83,Tryz.ntmps83
 have hb0:=heap_alloc_new w (.cells (List.replicate 21 Value.nilFunc).toArray 124)
 have hs0:w.heap.size<(w.alloc (.cells (List.replicate 21 Value.nilFunc).toArray 124)).heap.size:=by simp
 go_wp2_with (first
  | (go_at_call 118;refine (Vv _).mono ?_;rintro x w1 ⟨rfl,HB1⟩;have hb1:=((aa HB1).block _ hs0).trans hb0;have hs1:=Nat.lt_of_lt_of_le hs0 (aa HB1).size)
  | (go_at_call 119;refine (R9 _).mono ?_;rintro x w2 ⟨rfl,HB2⟩;have hb2:=((aa HB2).block _ hs1).trans hb1;have hs2:=Nat.lt_of_lt_of_le hs1 (aa HB2).size)
  | (go_at_call 120;refine (Nf _).mono ?_;rintro x w3 ⟨rfl,HB3⟩;have hb3:=((aa HB3).block _ hs2).trans hb2;have hs3:=Nat.lt_of_lt_of_le hs2 (aa HB3).size)
  | (go_at_call 121;refine (R_ _).mono ?_;rintro x w4 ⟨rfl,kL⟩;have hb4:=((aa kL).block _ hs3).trans hb3;have hs4:=Nat.lt_of_lt_of_le hs3 (aa kL).size)
  | (go_at_call 122;refine (Vw _).mono ?_;rintro x w5 ⟨rfl,jI⟩;have hb5:=((aa jI).block _ hs4).trans hb4;have hs5:=Nat.lt_of_lt_of_le hs4 (aa jI).size)
  | (go_at_call 123;refine (Vx _).mono ?_;rintro x w6 ⟨rfl,Rh⟩;have hb6:=((aa Rh).block _ hs5).trans hb5;have hs6:=Nat.lt_of_lt_of_le hs5 (aa Rh).size)
  | (go_at_call 124;refine (Vy _).mono ?_;rintro x w7 ⟨rfl,HB7⟩;have FV:=((aa HB7).block _ hs6).trans hb6;have hs7:=Nat.lt_of_lt_of_le hs6 (aa HB7).size;clear hb0 hb1 hb2 hb3 hb4 hb5 hb6 hs0 hs1 hs2 hs3 hs4 hs5 hs6)
  | (refine wpList_store_row rfl _ _ _ rfl w.heap.size dY.toArray rfl rfl _ _ FV (by kernel_rfl) rfl (by kernel_rfl) ?_))
 have hq:=setRow_heap w7 w.heap.size _ dY.toArray _ _ FV
 have hr:=run_loadVar_row (P:=Tryz.prog) (w7.setRow w.heap.size dY.toArray) w.heap.size 124 124 dY.toArray (0,0) _ hq Tryz.underlying124 rfl (by kernel_rfl)
 refine bodyPost_ret (v:=.agg dY.toArray) ?_ ?_ ?_
 ·unfold results
  rw [Tryz.results83]
  simp [Act.put,asAddr]
  exact hr
 ·rfl
 ·refine ⟨rfl,Sa ?_ (Nat.le_refl _) _⟩
  have h1:=((Below.refl w.heap.size w).alloc (Nat.le_refl _) (.cells (List.replicate 21 Value.nilFunc).toArray 124))
  have b1:=h1.trans ((aa HB1).mono h1.size)
  have b2:=b1.trans ((aa HB2).mono b1.size)
  have b3:=b2.trans ((aa HB3).mono b2.size)
  have b4:=b3.trans ((aa kL).mono b3.size)
  have b5:=b4.trans ((aa jI).mono b4.size)
  have b6:=b5.trans ((aa Rh).mono b5.size)
  exact b6.trans ((aa HB7).mono b6.size)
def nZ:List Te:=[(⟨0,⟨#[]⟩,0,0⟩,false),(⟨1,⟨#[]⟩,0,0⟩,true),(⟨6,⟨#[]⟩,0,0⟩,true)]
def ky0:Ky:=⟨0,⟨#[]⟩,0,0⟩
def vK:Ky:=⟨1,⟨#[]⟩,0,0⟩
def ky6:Ky:=⟨6,⟨#[]⟩,0,0⟩
def Sb:List Te:=[(ky0,false)]
def Sc:List Te:=[(ky0,false),(vK,true)]
theorem aa9:d_ [] ky0=(Sb,0):=by rfl
theorem aa_:d_ Sb vK=(Sc,1):=by rfl
theorem aba:d_ Sc ky6=(nZ,2):=by rfl
theorem abY {w:World} {t:TB} (h:Hid (bf w t [] (ak []) [] [])):Calls Tryz.prog 84 #[.pointer (some ⟨t.tb,0,none⟩),.agg #[.int .i64 0,.string ⟨#[]⟩,.int .i64 0,.int .i64 0]] w fun e w'=>e=.returned (.int .i64 (0:Nat))/\∃ t',Hid (bf w' t' Sb (ak Sb) [] [])/\Hid (bq t t' w w'):=by
 have h1:=lW (k:=ky0) h ⟨zA,uK,zA,zA⟩ (.inl rfl) (by rw [aa9];decide)
 rw [aa9] at h1
 exact h1
theorem abZ {w:World} {t:TB} (h:Hid (bf w t Sb (ak Sb) [] [])):Calls Tryz.prog 84 #[.pointer (some ⟨t.tb,0,none⟩),.agg #[.int .i64 1,.string ⟨#[]⟩,.int .i64 0,.int .i64 0]] w fun e w'=>e=.returned (.int .i64 (1:Nat))/\∃ t',Hid (bf w' t' Sc (ak Sc) [] [])/\Hid (bq t t' w w'):=by
 have h1:=lW (k:=vK) h ⟨aer,uK,zA,zA⟩ (.inr (.inl rfl)) (by rw [aa_];decide)
 rw [aa_] at h1
 exact h1
theorem ab0 {w:World} {t:TB} (h:Hid (bf w t Sc (ak Sc) [] [])):Calls Tryz.prog 84 #[.pointer (some ⟨t.tb,0,none⟩),.agg #[.int .i64 6,.string ⟨#[]⟩,.int .i64 0,.int .i64 0]] w fun e w'=>e=.returned (.int .i64 (2:Nat))/\∃ t',Hid (bf w' t' nZ (ak nZ) [] [])/\Hid (bq t t' w w'):=by
 have h1:=lW (k:=ky6) h ⟨ac9,uK,zA,zA⟩ (.inr (.inr (.inr ⟨.inr rfl,0,by decide,rfl⟩))) (by rw [aba];decide)
 rw [aba] at h1
 exact h1
def tb0 (w:World):TB:=⟨w.heap.size+1+1+1,w.heap.size,w.heap.size+1,w.heap.size+1+1,none,0,0⟩
theorem Vz (w:World):bf ((((w.alloc (mkMap [])).alloc (mkMap [])).alloc (mkMap [])).alloc (.cells (oD (tb0 w)).toArray 131)) (tb0 w) [] (ak []) [] []:=by
 have s1:(w.alloc (mkMap [])).heap.size=w.heap.size+1:=by simp
 have s2:((w.alloc (mkMap [])).alloc (mkMap [])).heap.size=w.heap.size+1+1:=by simp
 have s3:(((w.alloc (mkMap [])).alloc (mkMap [])).alloc (mkMap [])).heap.size=w.heap.size+1+1+1:=by simp
 refine ⟨?_,?_,?_,?_,World.ownsRow_nil _ _ _ _,?_,(fun a h=>by cases h),(fun x h=>by cases h),List.nodup_nil⟩
 ·have h:=heap_alloc_new (((w.alloc (mkMap [])).alloc (mkMap [])).alloc (mkMap [])) (.cells (oD (tb0 w)).toArray 131)
  rw [s3] at h
  exact h
 ·have h:=heap_alloc_new w (mkMap [])
  exact (Below.heap_alloc _ _ _ (by rw [s3];show w.heap.size<_;omega)).trans ((Below.heap_alloc _ _ _ (by rw [s2];show w.heap.size<_;omega)).trans ((Below.heap_alloc _ _ _ (by rw [s1];show w.heap.size<_;omega)).trans h))
 ·have h:=heap_alloc_new (w.alloc (mkMap [])) (mkMap [])
  rw [s1] at h
  exact (Below.heap_alloc _ _ _ (by rw [s3];show w.heap.size+1<_;omega)).trans ((Below.heap_alloc _ _ _ (by rw [s2];show w.heap.size+1<_;omega)).trans h)
 ·have h:=heap_alloc_new ((w.alloc (mkMap [])).alloc (mkMap [])) (mkMap [])
  rw [s2] at h
  exact (Below.heap_alloc _ _ _ (by rw [s3];show w.heap.size+1+1<_;omega)).trans h
 ·show w.heap.size+1+1+1≠w.heap.size/\w.heap.size+1+1+1≠w.heap.size+1/\w.heap.size+1+1+1≠w.heap.size+1+1/\w.heap.size≠w.heap.size+1/\w.heap.size≠w.heap.size+1+1/\w.heap.size+1≠w.heap.size+1+1
  omega
theorem JX (w:World):∀ k,TF (tb0 w) k->w.heap.size<=k:=by
 intro k hk
 have hk':k=w.heap.size+1+1+1\/k=w.heap.size\/k=w.heap.size+1\/k=w.heap.size+1+1\/(none:Option Nat)=some k:=hk
 rcases hk' with e | e | e | e | e
 ·omega
 ·omega
 ·omega
 ·omega
 ·cases e
theorem bq.base {t t':TB} {w0 w w':World} (h:Hid (bq t t' w w')) (hb:Hid (Below w0.heap.size w0 w)) (ht:∀ k,TF t k->w0.heap.size<=k):Hid (Below w0.heap.size w0 w'):=by
 have h1:=aa h
 have h2:=aa hb
 exact ⟨h1.os.trans h2.os,h1.tape.trans h2.tape,h1.output.trans h2.output,Nat.le_trans h2.size h1.size,fun k hk=>(h1.block k (Nat.lt_of_lt_of_le hk h2.size) (fun hf=>by have:=ht k hf;omega)).trans (h2.block k hk)⟩
set_option maxRecDepth 100000 in
set_option maxHeartbeats 4000000 in
theorem GK (w:World):Calls Tryz.prog 58 #[] w fun e w'=>∃ t,e=.returned (.pointer (some ⟨t.tb,0,none⟩))/\Hid (bf w' t nZ (ak nZ) [] [])/\Hid (Below w.heap.size w w')/\∀ k,TF t k->w.heap.size<=k:=by
 have hm1:∀ w:World,(Instr.makeMap 126 none).run Tryz.prog w=.ok (.map (some w.heap.size)) (w.alloc (mkMap [])):=fun w=>rfl
 have hm2:∀ w:World,(Instr.makeMap 127 none).run Tryz.prog w=.ok (.map (some w.heap.size)) (w.alloc (mkMap [])):=fun w=>rfl
 have hm3:∀ w:World,(Instr.makeMap 128 none).run Tryz.prog w=.ok (.map (some w.heap.size)) (w.alloc (mkMap [])):=fun w=>rfl
 have HK1:Hid (∀ w:World,Calls _ _ _ _ _):=fun w=>abY (hide (Vz w))
 have e1:∀ w:World,(oD (tb0 w)).toArray=#[fv 163,fv 164,fv 166,fv 168,fv 169,fv 170,fv 171,fv 172,fv 173,fv 175,fv 176,fv 177,fv 178,fv 179,fv 182,fv 183,fv 184,fv 185,fv 186,fv 187,fv 188,.map (some w.heap.size),.slice none 0 0,.map (some (w.heap.size+1)),.map (some (w.heap.size+1+1))]:=fun w=>rfl
 simp only [e1] at HK1
 clear e1
 go_enter Tryz.func58,Tryz.ntmps58
 go_wp2_with (first
  | (go_at_call 83;refine (Cj _).mono ?_;simp only [dY];rintro x w1 ⟨rfl,HB1⟩;have K1:=hide (aa HK1 w1);clear HK1)
  | (go_at_call 84;refine (aa K1).mono ?_;clear K1;rintro x w2 ⟨rfl,t1,HT1,rD⟩;have K2:=hide (abZ HT1);rw [(aa rD).tb] at K2)
  | (go_at_call 84;refine (aa K2).mono ?_;clear K2;rintro x w3 ⟨rfl,t2,HT2,uM⟩;have K3:=hide (ab0 HT2);rw [(aa uM).tb,(aa rD).tb] at K3)
  | (go_at_call 84;refine (aa K3).mono ?_;clear K3;rintro x w4 ⟨rfl,t3,HT3,vw⟩))
 go_ret
 have hf:=((aa rD).trans (aa uM)).trans (aa vw)
 have hb1:=aa HB1
 refine ⟨t3,?_,HT3,?_,?_⟩
 ·rw [hf.tb]
  rfl
 ·refine bq.base (hide hf) ?_ (fun k hk=>Nat.le_trans hb1.size (JX w1 k hk))
  exact (((hb1.alloc hb1.size _).alloc (by have:=hb1.size;simp;omega) _).alloc (by have:=hb1.size;simp;omega) _).alloc (by have:=hb1.size;simp;omega) _
 ·intro k hk
  rcases hf.foot hk with h | h
  ·exact Nat.le_trans hb1.size (JX w1 k h)
  ·refine Nat.le_trans hb1.size (Nat.le_trans ?_ h)
   simp
   omega
end Go.Proofs.YtfolanohokflkaaGreatDoor
namespace Go.Proofs.YtfolanohokflkaaGreatDoor
open Tm (eps)
def kk (k:Bool):Int:=if k=true then 5 else 4
def cB (k:Bool) (i j:Nat):Ky:=⟨kk k,⟨#[]⟩,i,j⟩
inductive Rp (T:List Te):Nat->Tm->Prop where
 | set {n:Nat} {l:ah} {b:Bool}:T[n]? = some (kD (encS l),b)->Tidy l->Rp T n (.set l)
 | eps {n:Nat} {b:Bool}:T[n]? = some (vK,b)->Rp T n eps
 | chain {n i j:Nat} {s t:Tm} {b:Bool}:T[n]? = some (bR i j,b)->Rp T i s->Rp T j t->Rp T n (.chain s t)
 | star {n i:Nat} {s:Tm} {b:Bool}:T[n]? = some (ed i,b)->Rp T i s->Rp T n (.star s)
 | aW {n i j:Nat} {k:Bool} {s t:Tm} {b:Bool}:T[n]? = some (cB k i j,b)->Rp T i s->Rp T j t->Rp T n (aj k [s,t])
 | not {n i:Nat} {s:Tm} {b:Bool}:T[n]? = some (ek i,b)->Rp T i s->Rp T n (.not s)
theorem VA {l l':ah} (h:Tidy l) (h':Tidy l') (e:encS l=encS l'):l=l':=by
 have e1:=uW (bD h)
 have e2:=uW (bD h')
 rw [<-e,e1] at e2
 have e3:(bI l).map (Value.int .i32)=(bI l').map (Value.int .i32):=by simpa using e2
 have hinj:∀ (a b:List Int),a.map (Value.int .i32)=b.map (Value.int .i32)->a=b:=by
  intro a
  induction a with
  | nil=>intro b hb;cases b with
   | nil=>rfl
   | cons y b=>simp at hb
  | cons x a ih=>intro b hb;cases b with
   | nil=>simp at hb
   | cons y b=>
    simp only [List.map_cons,List.cons.injEq,Value.int.injEq,true_and] at hb
    rw [hb.1,ih b hb.2]
 have hf:∀ {l l':ah},bI l=bI l'->l=l':=by
  intro l
  induction l with
  | nil=>intro l' h;cases l' with
   | nil=>rfl
   | cons y r=>simp [bI] at h
  | cons x r ih=>intro l' h;cases l' with
   | nil=>simp [bI] at h
   | cons y r'=>
    simp only [bI,List.cons.injEq] at h
    obtain ⟨h1,h2,h3⟩:=h
    rw [ih h3,Prod.ext h1 h2]
 exact hf (hinj _ _ e3)
theorem kk_ne (k:Bool):kk k≠0/\kk k≠1/\kk k≠2/\kk k≠3/\kk k≠6:=by cases k<;>simp [kk]
theorem Ck {k k':Bool} (h:kk k=kk k'):k=k':=by cases k<;>cases k'<;>simp [kk] at h ⊢
theorem az {T:List Te} {n:Nat} {k k':Ky} {b b':Bool} (h:T[n]? = some (k,b)) (h':T[n]? = some (k',b')):k=k':=by
 rw [h] at h'
 simp only [Option.some.injEq,Prod.mk.injEq] at h'
 exact h'.1
theorem Rp.lt {T:List Te} {n:Nat} {t:Tm} (h:Rp T n t):n<T.length:=by
 cases h with
 | set h _=>exact (List.getElem?_eq_some_iff.1 h).1
 | eps h=>exact (List.getElem?_eq_some_iff.1 h).1
 | chain h _ _=>exact (List.getElem?_eq_some_iff.1 h).1
 | star h _=>exact (List.getElem?_eq_some_iff.1 h).1
 | aW h _ _=>exact (List.getElem?_eq_some_iff.1 h).1
 | not h _=>exact (List.getElem?_eq_some_iff.1 h).1
theorem cast_inj {i j:Nat} (h:(i:Int)=(j:Int)):i=j:=by omega
theorem Rp.uniq {T:List Te} {n:Nat} {s t:Tm} (h:Rp T n s):Rp T n t->s=t:=by
 induction h generalizing t with
 | set h hl=>
  intro h2
  cases h2 with
  | set h' hl'=>
   have e:=az h h'
   simp only [kD,Ky.mk.injEq] at e
   rw [VA hl hl' e.2.1]
  | eps h'=>have e:=az h h';simp [kD,vK] at e
  | chain h' _ _=>have e:=az h h';simp [kD,bR] at e
  | star h' _=>have e:=az h h';simp [kD,ed] at e
  | aW h' _ _=>have e:=az h h';simp only [kD,cB,Ky.mk.injEq] at e;exact absurd e.1.symm (kk_ne _).1
  | not h' _=>have e:=az h h';simp [kD,ek] at e
 | eps h=>
  intro h2
  cases h2 with
  | set h' hl'=>have e:=az h h';simp [kD,vK] at e
  | eps h'=>rfl
  | chain h' _ _=>have e:=az h h';simp [vK,bR] at e
  | star h' _=>have e:=az h h';simp [vK,ed] at e
  | aW h' _ _=>have e:=az h h';simp only [vK,cB,Ky.mk.injEq] at e;exact absurd e.1.symm (kk_ne _).2.1
  | not h' _=>have e:=az h h';simp [vK,ek] at e
 | chain h _ _ ih1 ih2=>
  intro h2
  cases h2 with
  | set h' hl'=>have e:=az h h';simp [kD,bR] at e
  | eps h'=>have e:=az h h';simp [vK,bR] at e
  | chain h' a b=>
   have e:=az h h'
   simp only [bR,Ky.mk.injEq,true_and] at e
   have e1:=cast_inj e.1
   have e2:=cast_inj e.2
   subst e1 e2
   rw [ih1 a,ih2 b]
  | star h' _=>have e:=az h h';simp [bR,ed] at e
  | aW h' _ _=>have e:=az h h';simp only [bR,cB,Ky.mk.injEq] at e;exact absurd e.1.symm (kk_ne _).2.2.1
  | not h' _=>have e:=az h h';simp [bR,ek] at e
 | star h _ ih=>
  intro h2
  cases h2 with
  | set h' hl'=>have e:=az h h';simp [kD,ed] at e
  | eps h'=>have e:=az h h';simp [vK,ed] at e
  | chain h' _ _=>have e:=az h h';simp [bR,ed] at e
  | star h' a=>
   have e:=az h h'
   simp only [ed,Ky.mk.injEq,true_and,and_true] at e
   have e1:=cast_inj e
   subst e1
   rw [ih a]
  | aW h' _ _=>have e:=az h h';simp only [ed,cB,Ky.mk.injEq] at e;exact absurd e.1.symm (kk_ne _).2.2.2.1
  | not h' _=>have e:=az h h';simp [ed,ek] at e
 | aW h _ _ ih1 ih2=>
  intro h2
  cases h2 with
  | set h' hl'=>have e:=az h h';simp only [kD,cB,Ky.mk.injEq] at e;exact absurd e.1 (kk_ne _).1
  | eps h'=>have e:=az h h';simp only [vK,cB,Ky.mk.injEq] at e;exact absurd e.1 (kk_ne _).2.1
  | chain h' _ _=>have e:=az h h';simp only [bR,cB,Ky.mk.injEq] at e;exact absurd e.1 (kk_ne _).2.2.1
  | star h' _=>have e:=az h h';simp only [ed,cB,Ky.mk.injEq] at e;exact absurd e.1 (kk_ne _).2.2.2.1
  | aW h' a b=>
   have e:=az h h'
   simp only [cB,Ky.mk.injEq,true_and] at e
   have e0:=Ck e.1
   have e1:=cast_inj e.2.1
   have e2:=cast_inj e.2.2
   subst e0 e1 e2
   rw [ih1 a,ih2 b]
  | not h' _=>have e:=az h h';simp only [ek,cB,Ky.mk.injEq] at e;exact absurd e.1 (kk_ne _).2.2.2.2
 | not h _ ih=>
  intro h2
  cases h2 with
  | set h' hl'=>have e:=az h h';simp [kD,ek] at e
  | eps h'=>have e:=az h h';simp [vK,ek] at e
  | chain h' _ _=>have e:=az h h';simp [bR,ek] at e
  | star h' _=>have e:=az h h';simp [ed,ek] at e
  | aW h' _ _=>have e:=az h h';simp only [ek,cB,Ky.mk.injEq] at e;exact absurd e.1.symm (kk_ne _).2.2.2.2
  | not h' a=>
   have e:=az h h'
   simp only [ek,Ky.mk.injEq,true_and,and_true] at e
   have e1:=cast_inj e
   subst e1
   rw [ih a]
theorem lK {T X:List Te} {n:Nat} {x:Te} (h:T[n]? = some x):(T++X)[n]? = some x:=by
 rw [List.getElem?_append_left (List.getElem?_eq_some_iff.1 h).1];exact h
theorem n_ {T X:List Te} {n:Nat} {x:Te} (h:(T++X)[n]? = some x) (hn:n<T.length):T[n]? = some x:=by
 rwa [List.getElem?_append_left hn] at h
theorem Rp.mono {T X:List Te} {n:Nat} {t:Tm} (h:Rp T n t):Rp (T++X) n t:=by
 induction h with
 | set h hl=>exact .set (lK h) hl
 | eps h=>exact .eps (lK h)
 | chain h _ _ i1 i2=>exact .chain (lK h) i1 i2
 | star h _ i1=>exact .star (lK h) i1
 | aW h _ _ i1 i2=>exact .aW (lK h) i1 i2
 | not h _ i1=>exact .not (lK h) i1
theorem JY {T:List Te} (h:uL T) {n i j:Nat} {k:Ky} {b:Bool} (hx:T[n]? = some (k,b)) (hk:k.kd=2\/k.kd=4\/k.kd=5) (h1:k.fi=(i:Int)) (h2:k.se=(j:Int)):i<n/\j<n:=by
 obtain ⟨a,c,h3,h4,h5,h6⟩:=h.two hx hk
 dsimp only at h5 h6
 omega
theorem sH {T:List Te} (h:uL T) {n i j:Nat} {b:Bool} (hx:T[n]? = some (bR i j,b)):i<n/\j<n:=JY h hx (.inl rfl) rfl rfl
theorem vz {T:List Te} (h:uL T) {n i j:Nat} {k b:Bool} (hx:T[n]? = some (cB k i j,b)):i<n/\j<n:=JY h hx (by cases k<;>simp [cB,kk]) rfl rfl
theorem VB {T:List Te} (h:uL T) {n i:Nat} {k:Ky} {b:Bool} (hx:T[n]? = some (k,b)) (hk:k.kd=3\/k.kd=6) (h1:k.fi=(i:Int)):i<n:=by
 obtain ⟨a,h3,h5⟩:=h.one hx hk
 dsimp only at h5
 omega
theorem wZ {T:List Te} (h:uL T) {n i:Nat} {b:Bool} (hx:T[n]? = some (ed i,b)):i<n:=VB h hx (.inl rfl) rfl
theorem Cm {T:List Te} (h:uL T) {n i:Nat} {b:Bool} (hx:T[n]? = some (ek i,b)):i<n:=VB h hx (.inr rfl) rfl
theorem Rp.old {T X:List Te} (hw:uL T) {n:Nat} {t:Tm} (h:Rp (T++X) n t):n<T.length->Rp T n t:=by
 induction h with
 | set h hl=>intro hn;exact .set (n_ h hn) hl
 | eps h=>intro hn;exact .eps (n_ h hn)
 | chain h _ _ i1 i2=>
  intro hn
  have g:=n_ h hn
  have:=sH hw g
  exact .chain g (i1 (by omega)) (i2 (by omega))
 | star h _ i1=>
  intro hn
  have g:=n_ h hn
  have:=wZ hw g
  exact .star g (i1 (by omega))
 | aW h _ _ i1 i2=>
  intro hn
  have g:=n_ h hn
  have:=vz hw g
  exact .aW g (i1 (by omega)) (i2 (by omega))
 | not h _ i1=>
  intro hn
  have g:=n_ h hn
  have:=Cm hw g
  exact .not g (i1 (by omega))
inductive kF (T:List Te) (k:Bool):Nat->List Nat->Prop where
 | one {n:Nat} {x:Te}:T[n]? = some x->x.1.kd≠kk k->kF T k n [n]
 | more {n i j:Nat} {b:Bool} {l:List Nat}:T[n]? = some (cB k i j,b)->kF T k j l->kF T k n (i::l)
theorem kF.uniq {T:List Te} {k:Bool} {n:Nat} {l l':List Nat} (h:kF T k n l):kF T k n l'->l=l':=by
 induction h generalizing l' with
 | one h hk=>
  intro h2
  cases h2 with
  | one=>rfl
  | more h' _=>rw [h] at h';cases h';exact absurd rfl hk
 | more h _ ih=>
  intro h2
  cases h2 with
  | one h' hk=>rw [h] at h';cases h';exact absurd rfl hk
  | more h' h3=>
   have e:=az h h'
   simp only [cB,Ky.mk.injEq,true_and] at e
   have e1:=cast_inj e.1
   have e2:=cast_inj e.2
   subst e1 e2
   rw [ih h3]
theorem kF.mono {T X:List Te} {k:Bool} {n:Nat} {l:List Nat} (h:kF T k n l):kF (T++X) k n l:=by
 induction h with
 | one h hk=>exact .one (lK h) hk
 | more h _ ih=>exact .more (lK h) ih
theorem kF.old {T X:List Te} (hw:uL T) {k:Bool} {n:Nat} {l:List Nat} (h:kF (T++X) k n l):n<T.length->kF T k n l:=by
 induction h with
 | one h hk=>intro hn;exact .one (n_ h hn) hk
 | more h _ ih=>
  intro hn
  have g:=n_ h hn
  have:=vz hw g
  exact .more g (ih (by omega))
theorem kF.le {T:List Te} (hw:uL T) {k:Bool} {n:Nat} {l:List Nat} (h:kF T k n l):∀ m∈l,m<=n:=by
 induction h with
 | one _ _=>intro m hm;simp at hm;omega
 | more h _ ih=>
  have:=vz hw h
  intro m hm
  rcases List.mem_cons.1 hm with rfl | hm
  ·omega
  ·have:=ih m hm;omega
theorem kF.ne {T:List Te} {k:Bool} {n:Nat} {l:List Nat} (h:kF T k n l):l≠[]:=by cases h<;>simp
theorem ab1 {T:List Te} (hnd:(T.map (·.1)).Nodup) {n m:Nat} {k:Ky} {b b':Bool} (h:T[n]? = some (k,b)) (h':T[m]? = some (k,b')):n=m:=by
 have g1:(T.map (·.1))[n]? = some k:=by rw [List.getElem?_map,h];rfl
 have g2:(T.map (·.1))[m]? = some k:=by rw [List.getElem?_map,h'];rfl
 have hn:=(List.getElem?_eq_some_iff.1 g1).1
 have hm:=(List.getElem?_eq_some_iff.1 g2).1
 have e1:=(List.getElem?_eq_some_iff.1 g1).2
 have e2:=(List.getElem?_eq_some_iff.1 g2).2
 rcases Nat.lt_trichotomy n m with q | q | q
 ·exact absurd (e1.trans e2.symm) (List.pairwise_iff_getElem.1 hnd n m hn hm q)
 ·exact q
 ·exact absurd (e2.trans e1.symm) (List.pairwise_iff_getElem.1 hnd m n hm hn q)
theorem kF.inj {T:List Te} (hnd:(T.map (·.1)).Nodup) {k:Bool} {n m:Nat} {l:List Nat} (h:kF T k n l):kF T k m l->n=m:=by
 induction h generalizing m with
 | one h hk=>
  intro h2
  cases h2 with
  | one=>rfl
  | more h' h3=>exact absurd rfl h3.ne
 | more h h0 ih=>
  intro h2
  cases h2 with
  | one=>exact absurd rfl h0.ne
  | more h' h3=>
   have e:=ih h3
   subst e
   exact ab1 hnd h h'
theorem kF.rp {T:List Te} {k:Bool}:∀ {n:Nat} {t:Tm},Rp T n t->∃ l,kF T k n l:=by
 intro n t h
 induction h with
 | set h _=>exact ⟨_,.one h (fun e=>(kk_ne k).1 e.symm)⟩
 | eps h=>exact ⟨_,.one h (fun e=>(kk_ne k).2.1 e.symm)⟩
 | chain h _ _ _ _=>exact ⟨_,.one h (fun e=>(kk_ne k).2.2.1 e.symm)⟩
 | star h _ _=>exact ⟨_,.one h (fun e=>(kk_ne k).2.2.2.1 e.symm)⟩
 | @aW n i j k' s t b h _ _ _ ih=>
  by_cases e:k'=k
  ·subst e
   obtain ⟨l,hl⟩:=ih
   exact ⟨_,.more h hl⟩
  ·exact ⟨_,.one h (fun q=>e (Ck q))⟩
 | not h _ _=>exact ⟨_,.one h (fun e=>(kk_ne k).2.2.2.2 e.symm)⟩
end Go.Proofs.YtfolanohokflkaaGreatDoor
namespace Go.Proofs.YtfolanohokflkaaGreatDoor
open Tm (eps)
def Ng (T:List Te) (a:Nat):Prop:=∃ x,T[a]? = some x/\x.1.kd=0
def Bf (T:List Te) (a b:Nat):Prop:=¬ Ng T a/\(Ng T b\/a<b)
structure Yj (T:List Te) (k:Bool) (l:List Nat):Prop where
 mem:∀ m∈l,m≠0/\m≠2/\∃ x,T[m]? = some x/\x.1.kd≠kk k
 ord:l.Pairwise (Bf T)
structure TJ (T:List Te):Prop where
 nd:(T.map (·.1)).Nodup
 wf:uL T
 all:∀ n,n<T.length->∃ t,Rp T n t/\Cn t/\∀ x,T[n]? = some x->x.2=bZ t
 gok:∀ n k i j b,T[n]? = some (cB k i j,b)->∀ l,kF T k n l->Yj T k l
 t0:T[0]? = some (ky0,false)
 t1:T[1]? = some (vK,true)
 t2:T[2]? = some (ky6,true)
structure TI (B:List Int) (T:List Te):Prop extends TJ T where
 inj:∀ n m t,Rp T n t->Rp T m t->n=m
 sin:∀ n t,Rp T n t->gy B t
theorem TJ.r0 {T:List Te} (h:TJ T):Rp T 0 aF:=.set (l:=[]) (b:=false) h.t0 trivial
theorem TJ.r1 {T:List Te} (h:TJ T):Rp T 1 eps:=.eps h.t1
theorem TJ.r2 {T:List Te} (h:TJ T):Rp T 2 whole:=.not (i:=0) (b:=true) h.t2 h.r0
theorem TJ.cn {T:List Te} (h:TJ T) {n:Nat} {t:Tm} (hr:Rp T n t):Cn t:=by
 obtain ⟨s,h1,h2,_⟩:=h.all n hr.lt
 rw [hr.uniq h1];exact h2
theorem TJ.null {T:List Te} (h:TJ T) {n:Nat} {t:Tm} (hr:Rp T n t) {x:Te} (hx:T[n]? = some x):x.2=bZ t:=by
 obtain ⟨s,h1,_,h2⟩:=h.all n hr.lt
 rw [hr.uniq h1];exact h2 x hx
theorem TJ.aeE {T:List Te} (h:TJ T) {n i j:Nat} {k b:Bool} (hx:T[n]? = some (cB k i j,b)):2<n:=by
 rcases Nat.lt_or_ge 2 n with q | q
 ·exact q
 ·exfalso
  match n,q with
  | 0,_=>have e:=az h.t0 hx;simp only [ky0,cB,Ky.mk.injEq] at e;exact (kk_ne k).1 e.1.symm
  | 1,_=>have e:=az h.t1 hx;simp only [vK,cB,Ky.mk.injEq] at e;exact (kk_ne k).2.1 e.1.symm
  | 2,_=>have e:=az h.t2 hx;simp only [ky6,cB,Ky.mk.injEq] at e;exact (kk_ne k).2.2.2.2 e.1.symm
structure PG (T:List Te) (n:Nat) (t:Tm):Prop where
 no:∀ k,(∀ x,T[n]? = some x->x.1.kd≠kk k)->dK k t=true
 yes:∀ k i j b,T[n]? = some (cB k i j,b)->(∃ a c,t=.aW k a c)/\∀ l,kF T k n l->∀ x,x∈memT k t↔∃ m∈l,Rp T m x
theorem PG.other {T:List Te} {n:Nat} {t:Tm} {x:Te} (hx:T[n]? = some x) (h1:∀ k,dK k t=true) (h2:∀ k,x.1.kd≠kk k):PG T n t:=
 ⟨fun k _=>h1 k,fun k i j b h=>by rw [hx] at h;cases h;exact absurd rfl (h2 k)⟩
theorem PG.set {T:List Te} {n:Nat} {t:Tm} (p:PG T n t) (h:Rp T n t) {q:ah} (e:t=.set q):∃ b,T[n]? = some (kD (encS q),b)/\Tidy q:=by
 cases h with
 | set h hl=>cases e;exact ⟨_,h,hl⟩
 | aW h _ _=>obtain ⟨⟨a,c,e'⟩,_⟩:=p.yes _ _ _ _ h;rw [e'] at e;cases e
 | _=>cases e
theorem PG.chain {T:List Te} {n:Nat} {t:Tm} (p:PG T n t) (h:Rp T n t) {x y:Tm} (e:t=.chain x y):∃ i j b,T[n]? = some (bR i j,b)/\Rp T i x/\Rp T j y:=by
 cases h with
 | chain h h1 h2=>cases e;exact ⟨_,_,_,h,h1,h2⟩
 | aW h _ _=>obtain ⟨⟨a,c,e'⟩,_⟩:=p.yes _ _ _ _ h;rw [e'] at e;cases e
 | _=>cases e
theorem PG.star {T:List Te} {n:Nat} {t:Tm} (p:PG T n t) (h:Rp T n t) {x:Tm} (e:t=.star x):∃ i b,T[n]? = some (ed i,b)/\Rp T i x:=by
 cases h with
 | star h h1=>cases e;exact ⟨_,_,h,h1⟩
 | aW h _ _=>obtain ⟨⟨a,c,e'⟩,_⟩:=p.yes _ _ _ _ h;rw [e'] at e;cases e
 | _=>cases e
theorem PG.not {T:List Te} {n:Nat} {t:Tm} (p:PG T n t) (h:Rp T n t) {x:Tm} (e:t=.not x):∃ i b,T[n]? = some (ek i,b)/\Rp T i x:=by
 cases h with
 | not h h1=>cases e;exact ⟨_,_,h,h1⟩
 | aW h _ _=>obtain ⟨⟨a,c,e'⟩,_⟩:=p.yes _ _ _ _ h;rw [e'] at e;cases e
 | _=>cases e
theorem PG.aW {T:List Te} {n:Nat} {t:Tm} (p:PG T n t) (h:Rp T n t) {k:Bool} {x y:Tm} (e:t=.aW k x y):∃ i j b s u,T[n]? = some (cB k i j,b)/\Rp T i s/\Rp T j u/\t=aj k [s,u]:=by
 cases h with
 | @aW _ i j k' s u b h h1 h2=>
  obtain ⟨⟨a,c,e'⟩,_⟩:=p.yes _ _ _ _ h
  have e2:=e'
  rw [e] at e'
  have:k=k':=by injection e'
  subst this
  exact ⟨_,_,_,_,_,h,h1,h2,rfl⟩
 | _=>cases e
theorem filter_one {l:List Tm} (h:∀ m∈l,m≠aF/\m≠whole) (k:Bool):l.filter (fun t=>decide (t≠bG k))=l:=by
 refine List.filter_eq_self.2 fun m hm=>?_
 have:=h m hm
 cases k
 ·simpa [bG] using this.1
 ·simpa [bG] using this.2
theorem TJ.Yk {T:List Te} (h:TJ T) {N:Nat} (hinj:∀ n m t,n<N->m<N->Rp T n t->Rp T m t->n=m):∀ n,n<=N->∀ t,Rp T n t->PG T n t:=by
 intro n
 induction n using Nat.strongRecOn with
 | _ n ih=>
  intro hn t ht
  cases ht with
  | set hx _=>exact .other hx (fun _=>rfl) fun k e=>(kk_ne k).1 e.symm
  | eps hx=>exact .other hx (fun _=>rfl) fun k e=>(kk_ne k).2.1 e.symm
  | chain hx _ _=>exact .other hx (fun _=>rfl) fun k e=>(kk_ne k).2.2.1 e.symm
  | star hx _=>exact .other hx (fun _=>rfl) fun k e=>(kk_ne k).2.2.2.1 e.symm
  | not hx _=>exact .other hx (fun _=>rfl) fun k e=>(kk_ne k).2.2.2.2 e.symm
  | @aW _ i j k s t b hx hi hj=>
   obtain ⟨l,hl⟩:=kF.rp (k:=k) hj
   have hln:=kF.more hx hl
   have hg:=h.gok n k i j b hx _ hln
   obtain ⟨hin,hjn⟩:=vz h.wf hx
   have h3:=h.aeE hx
   have hle:∀ m∈i::l,m<n:=fun m hm=>by
    rcases List.mem_cons.1 hm with rfl | hm
    ·exact hin
    ·have:=hl.le h.wf m hm;omega
   have hnot:∀ m∈i::l,∀ x,Rp T m x->dK k x=true:=fun m hm x hr=>by
    obtain ⟨y,hy,hk⟩:=(hg.mem m hm).2.2
    exact (ih m (hle m hm) (by have:=hle m hm;omega) x hr).no k fun z hz=>by rw [hy] at hz;cases hz;exact hk
   have hsi:dK k s=true:=hnot i (List.mem_cons_self ..) s hi
   have hmt:∀ x,x∈memT k t↔∃ m∈l,Rp T m x:=by
    have pj:=ih j hjn (by omega) t hj
    cases hl with
    | one hy hk=>
     have:dK k t=true:=pj.no k fun z hz=>by rw [hy] at hz;cases hz;exact hk
     rw [bu this]
     intro x
     constructor
     ·intro hx'
      have:x=t:=by simpa using hx'
      subst this;exact ⟨j,by simp,hj⟩
     ·rintro ⟨m,hm,hr⟩
      have:m=j:=by simpa using hm
      subst this
      rw [hr.uniq hj];simp
    | more hy h4=>exact (pj.yes k _ _ _ hy).2 _ (.more hy h4)
   have hF:∀ x,x∈s::memT k t↔∃ m∈i::l,Rp T m x:=by
    intro x
    rw [List.mem_cons,hmt]
    constructor
    ·rintro (rfl | ⟨m,hm,hr⟩)
     ·exact ⟨i,List.mem_cons_self ..,hi⟩
     ·exact ⟨m,List.mem_cons_of_mem _ hm,hr⟩
    ·rintro ⟨m,hm,hr⟩
     rcases List.mem_cons.1 hm with rfl | hm
     ·exact .inl (hr.uniq hi)
     ·exact .inr ⟨m,hm,hr⟩
   have hne:∀ x∈s::memT k t,x≠aF/\x≠whole:=by
    intro x hx'
    obtain ⟨m,hm,hr⟩:=(hF x).1 hx'
    have hm':=hg.mem m hm
    have hmn:=hle m hm
    constructor
    ·rintro rfl;exact hm'.1 (hinj _ _ _ (by omega) (by omega) hr h.r0)
    ·rintro rfl;exact hm'.2.1 (hinj _ _ _ (by omega) (by omega) hr h.r2)
   have hcs:=h.cn hi
   have hct:=h.cn hj
   have hs0:aP s=Option.none:=by
    cases hq:aP s with
    | none=>rfl
    | some q=>
     exfalso
     have e:=l_ hq
     subst e
     have hb:¬ Ng T i:=by
      cases hl':l with
      | nil=>exact absurd hl' hl.ne
      | cons m r=>
       have:=hg.ord
       rw [hl'] at this
       exact ((List.pairwise_cons.1 this).1 m (List.mem_cons_self ..)).1
     have pi:=ih i hin (by omega) _ hi
     obtain ⟨b0,hy,_⟩:=pi.set hi rfl
     exact hb ⟨_,hy,rfl⟩
   have hfil:(s::memT k t).filterMap aP=(memT k t).filterMap aP:=by rw [List.filterMap_cons,hs0]
   have hone:((memT k t).filterMap aP).length<=1:=by
    obtain ⟨_,h1 | ⟨h1,_⟩⟩:=E8 (k:=k) hct
    ·have:=List.length_filterMap_le aP (memT k t);omega
    ·exact h1
   have qW:[s,t].flatMap (memT k)=s::memT k t:=by
    rw [List.flatMap_cons,bu hsi];simp
   have hW:∀ x,x∈aV k (s::memT k t)↔x∈s::memT k t:=by
    intro x
    rw [aN,hfil]
    constructor
    ·rintro (⟨h1,_⟩ | ⟨q,h1,rfl⟩)
     ·exact h1
     ·cases hq:(memT k t).filterMap aP with
      | nil=>rw [hq] at h1;cases h1
      | cons a r=>
       rw [hq] at h1 hone
       cases r with
       | nil=>
        simp only [f_,List.foldl_nil,Option.some.injEq] at h1
        subst h1
        exact List.mem_cons_of_mem _ (b_.1 (by rw [hq];simp))
       | cons _ _=>simp at hone
    ·intro hx'
     cases hq:aP x with
     | none=>exact .inl ⟨hx',rfl⟩
     | some q=>
      have e:=l_ hq
      subst e
      have hx2:Tm.set q∈memT k t:=by
       rcases List.mem_cons.1 hx' with e | e
       ·rw [<-e] at hs0;cases hs0
       ·exact e
      have:=b_.2 hx2
      cases hq2:(memT k t).filterMap aP with
      | nil=>rw [hq2] at this;cases this
      | cons a r=>
       rw [hq2] at this hone
       cases r with
       | nil=>
        have e:q=a:=by simpa using this
        subst e
        exact .inr ⟨q,rfl,rfl⟩
       | cons _ _=>simp at hone
   have adF:∀ x∈aV k (s::memT k t),x≠aF/\x≠whole:=fun x hx'=>hne x ((hW x).1 hx')
   have hz:eT k∉aV k (s::memT k t):=fun q=>by
    have:=adF _ q
    cases k
    ·exact this.2 rfl
    ·exact this.1 rfl
   have hWn:∀ x∈aV k (s::memT k t),dK k x=true:=fun x hx'=>by
    obtain ⟨m,hm,hr⟩:=(hF x).1 ((hW x).1 hx')
    exact hnot m hm x hr
   have hend:aj k [s,t]=gX k (aV k (s::memT k t)):=by
    unfold aj oV
    rw [qW,if_neg hz,filter_one adF]
    split
    ·rename_i e
     have:=(hW s).2 (List.mem_cons_self ..)
     rw [e] at this;cases this
    ·rfl
   obtain ⟨y,hy⟩:∃ y,y∈memT k t:=by
    cases hq:memT k t with
    | nil=>exact absurd hq (wo k t)
    | cons y r=>exact ⟨y,by simp⟩
   have hsy:y≠s:=by
    rintro rfl
    obtain ⟨m,hm,hr⟩:=(hmt _).1 hy
    have e:=hinj _ _ _ (by have:=hle m (List.mem_cons_of_mem _ hm);omega) (by omega) hr hi
    subst e
    have:=(List.pairwise_cons.1 hg.ord).1 _ hm
    rcases this.2 with q | q
    ·exact this.1 q
    ·omega
   have h2:∃ a c r,aV k (s::memT k t)=a::c::r:=by
    have m1:=(hW s).2 (List.mem_cons_self ..)
    have m2:=(hW y).2 (List.mem_cons_of_mem _ hy)
    cases hq:aV k (s::memT k t) with
    | nil=>rw [hq] at m1;cases m1
    | cons a r=>
     cases r with
     | nil=>
      rw [hq] at m1 m2
      simp at m1 m2
      exact absurd (m2.trans m1.symm) hsy
     | cons c r=>exact ⟨a,c,r,rfl⟩
   obtain ⟨a,c,r,hac⟩:=h2
   have adG:∃ a c,aj k [s,t]=.aW k a c:=⟨a,gX k (c::r),by rw [hend,hac];rfl⟩
   refine ⟨fun k' hk'=>?_,fun k' i' j' b' hx'=>?_⟩
   ·obtain ⟨a,c,e⟩:=adG
    rw [e]
    have:k≠k':=fun q=>hk' _ hx (by rw [q];rfl)
    simpa [dK] using this
   ·have e:=az hx hx'
    simp only [cB,Ky.mk.injEq] at e
    have e0:=Ck e.1
    subst e0
    refine ⟨adG,fun l' hl' x=>?_⟩
    rw [hl'.uniq hln,hend,nQ k (by rw [hac];simp) hWn,hW,hF]
end Go.Proofs.YtfolanohokflkaaGreatDoor
namespace Go.Proofs.YtfolanohokflkaaGreatDoor
open Tm (eps)
variable {B:List Int}
theorem Sd {k:Bool} {l:List Tm} (hl:∀ t∈l,Cn t):bZ (aj k l)=if k=true then l.all bZ else l.any bZ:=by
 have h:=tQ (k:=k) (l:=l) (fun t ht=>(hl t ht).ok) (w:=[]) (fun c hc=>by cases hc)
 rw [<-ib] at h
 rw [Bool.eq_iff_iff,h]
 cases k
 ·simp only [oC,Bool.false_eq_true,if_false,List.any_eq_true]
  exact ⟨fun ⟨t,h1,h2⟩=>⟨t,h1,(ib t).2 h2⟩,fun ⟨t,h1,h2⟩=>⟨t,h1,(ib t).1 h2⟩⟩
 ·simp only [oC,if_true,List.all_eq_true]
  exact ⟨fun q t h1=>(ib t).2 (q t h1),fun q t h1=>(ib t).1 (q t h1)⟩
inductive Fm (B:List Int) (T:List Te):Ky->Tm->Prop where
 | set {l:ah}:Tidy l->cu B l->Fm B T (kD (encS l)) (.set l)
 | chain {i j:Nat} {s t:Tm}:Rp T i s->Rp T j t->Cn (.chain s t)->Fm B T (bR i j) (.chain s t)
 | star {i:Nat} {s:Tm}:Rp T i s->Cn (.star s)->Fm B T (ed i) (.star s)
 | not {i:Nat} {s:Tm}:Rp T i s->Cn (.not s)->Fm B T (ek i) (.not s)
 | aW {k:Bool} {i j:Nat} {s t:Tm} {l:List Nat}:Rp T i s->Rp T j t->kF T k j l->Yj T k (i::l)->Fm B T (cB k i j) (aj k [s,t])
theorem Fm.rp {T:List Te} {κ:Ky} {t:Tm} (h:Fm B T κ t) {n:Nat} {b:Bool} {X:List Te} (hx:(T++X)[n]? = some (κ,b)):Rp (T++X) n t:=by
 cases h with
 | set hl _=>exact .set hx hl
 | chain h1 h2 _=>exact .chain hx h1.mono h2.mono
 | star h1 _=>exact .star hx h1.mono
 | not h1 _=>exact .not hx h1.mono
 | aW h1 h2 _ _=>exact .aW hx h1.mono h2.mono
theorem Fm.kin {T:List Te} {κ:Ky} {t:Tm} (h:Fm B T κ t):AB T κ:=by
 cases h with
 | set _ _=>exact .inl rfl
 | chain h1 h2 _=>exact xL h1.lt h2.lt
 | star h1 _=>exact .inr (.inr (.inr ⟨.inl rfl,_,h1.lt,rfl⟩))
 | not h1 _=>exact .inr (.inr (.inr ⟨.inr rfl,_,h1.lt,rfl⟩))
 | @aW k i j s t l h1 h2 _ _=>exact .inr (.inr (.inl ⟨by cases k<;>simp [cB,kk],⟨_,h1.lt,rfl⟩,_,h2.lt,rfl⟩))
theorem Fm.cn {T:List Te} (hj:TJ T) {κ:Ky} {t:Tm} (h:Fm B T κ t):Cn t:=by
 cases h with
 | set hl _=>exact ⟨hl,fun e=>absurd rfl e⟩
 | chain _ _ h=>exact h
 | star _ h=>exact h
 | not _ h=>exact h
 | aW h1 h2 _ _=>exact kN (by simpa using ⟨hj.cn h1,hj.cn h2⟩)
theorem Co {T:List Te} (hj:TJ T) {i:Nat} {s:Tm} (h:Rp T i s):heB T (i:Int)=bZ s:=by
 have hx:=List.getElem?_eq_getElem h.lt
 rw [FW hx];exact hj.null h hx
theorem Fm.null {T:List Te} (hj:TJ T) {κ:Ky} {t:Tm} (h:Fm B T κ t):gq T κ=bZ t:=by
 cases h with
 | set _ _=>simp [gq,kD,bZ]
 | chain h1 h2 _=>simp [gq,bR,bZ,Co hj h1,Co hj h2]
 | star h1 _=>simp [gq,ed,bZ]
 | not h1 _=>simp [gq,ek,bZ,Co hj h1]
 | @aW k i j s t l h1 h2 _ _=>
  rw [Sd (by simpa using ⟨hj.cn h1,hj.cn h2⟩)]
  cases k<;>simp [gq,cB,kk,Co hj h1,Co hj h2]
theorem Ae {T X:List Te} {a:Nat} (h:a<T.length):Ng (T++X) a↔Ng T a:=by
 unfold Ng
 rw [List.getElem?_append_left h]
theorem Yj.app {T X:List Te} {k:Bool} {l:List Nat} (h:Yj T k l):Yj (T++X) k l:=by
 have hlt:∀ m∈l,m<T.length:=fun m hm=>by
  obtain ⟨x,hx,_⟩:=(h.mem m hm).2.2
  exact (List.getElem?_eq_some_iff.1 hx).1
 refine ⟨fun m hm=>?_,?_⟩
 ·obtain ⟨h1,h2,x,hx,h3⟩:=h.mem m hm
  exact ⟨h1,h2,x,lK hx,h3⟩
 ·refine h.ord.imp_of_mem fun {a b} ha hb q=>?_
  unfold Bf at q ⊢
  rw [Ae (hlt a ha),Ae (hlt b hb)]
  exact q
theorem Bf.irr {T:List Te} (a:Nat):¬ Bf T a a:=fun h=>h.2.elim h.1 (Nat.lt_irrefl _)
theorem Bf.trans {T:List Te} {a b c:Nat} (h:Bf T a b) (h':Bf T b c):Bf T a c:=by
 refine ⟨h.1,h'.2.imp id fun q=>?_⟩
 rcases h.2 with e | e
 ·exact absurd e h'.1
 ·omega
open Classical in
theorem ab2 {T:List Te} {l m:List Nat} (hl:l.Pairwise (Bf T)) (hm:m.Pairwise (Bf T)) (h:∀ x,x∈l↔x∈m):l=m:=
 uS (gt:=fun b a=>decide (Bf T a b)) (fun a=>by simpa using Bf.irr a) (fun a b c h1 h2=>by simpa using Bf.trans (by simpa using h1) (by simpa using h2))
  (hl.imp fun h=>by simpa using h) (hm.imp fun h=>by simpa using h) h
theorem Fm.sin {T:List Te} (h:TI B T) {κ:Ky} {t:Tm} (hf:Fm B T κ t):gy B t:=by
 cases hf with
 | set _ h1=>exact h1
 | chain h1 h2 _=>exact ⟨h.sin _ _ h1,h.sin _ _ h2⟩
 | @star i s h1 _=>exact (show gy B (.star s) from (h.sin i s h1:gy B s))
 | @not i s h1 _=>exact (show gy B (.not s) from (h.sin i s h1:gy B s))
 | aW h1 h2 _ _=>exact R8 (by simpa using ⟨h.cn h1,h.cn h2⟩) (by simpa using ⟨h.sin _ _ h1,h.sin _ _ h2⟩)
theorem TI.keep {T:List Te} (h:TI B T) {κ:Ky} {t:Tm} (hf:Fm B T κ t):TI B (d_ T κ).1/\Rp (d_ T κ).1 (d_ T κ).2 t:=by
 have hwf:=h.wf.keep hf.kin
 rcases eG T κ with ⟨i,b,hi,e⟩ | ⟨hn,e⟩
 ·rw [e]
  refine ⟨h,?_⟩
  have:=hf.rp (X:=[]) (n:=i) (b:=b) (by simpa using hi)
  simpa using this
 ·rw [e] at hwf ⊢
  dsimp only at hwf ⊢
  have hnew:(T++[(κ,gq T κ)])[T.length]? = some (κ,gq T κ):=by simp
  have hr:=hf.rp hnew
  have hJ:TJ (T++[(κ,gq T κ)]):=by
   refine ⟨?_,hwf,fun n hnl=>?_,fun n k i j b hx l hl=>?_,lK h.t0,lK h.t1,lK h.t2⟩
   ·rw [List.map_append]
    refine List.nodup_append.2 ⟨h.nd,by simp,fun x hx y hy=>?_⟩
    have:y=κ:=by simpa using hy
    subst this
    obtain ⟨z,hz,rfl⟩:=List.mem_map.1 hx
    exact hn z hz
   ·by_cases hlt:n<T.length
    ·obtain ⟨s,h1,h2,h3⟩:=h.all n hlt
     exact ⟨s,h1.mono,h2,fun x hx=>h3 x (n_ hx hlt)⟩
    ·have:n=T.length:=by simp at hnl;omega
     subst this
     refine ⟨t,hr,hf.cn h.toTJ,fun x hx=>?_⟩
     rw [hnew] at hx
     cases hx
     exact hf.null h.toTJ
   ·by_cases hlt:n<T.length
    ·exact (h.gok n k i j b (n_ hx hlt) l (hl.old h.wf hlt)).app
    ·have:n=T.length:=by
      have:=(List.getElem?_eq_some_iff.1 hx).1
      simp at this;omega
     subst this
     have e2:=az hnew hx
     subst e2
     generalize hκ:cB k i j=κ at *
     cases hf with
     | @aW k' i' j' s u l' h1 h2 h3 h4=>
      simp only [cB,Ky.mk.injEq] at hκ
      have e0:=Ck hκ.1
      have e1:=cast_inj hκ.2.2.1
      have e2:=cast_inj hκ.2.2.2
      subst e0 e1 e2
      rw [hl.uniq (.more hnew h3.mono)]
      exact h4.app
     | set _ _=>simp only [cB,kD,Ky.mk.injEq] at hκ;exact absurd hκ.1 (kk_ne _).1
     | chain _ _ _=>simp only [cB,bR,Ky.mk.injEq] at hκ;exact absurd hκ.1 (kk_ne _).2.2.1
     | star _ _=>simp only [cB,ed,Ky.mk.injEq] at hκ;exact absurd hκ.1 (kk_ne _).2.2.2.1
     | not _ _=>simp only [cB,ek,Ky.mk.injEq] at hκ;exact absurd hκ.1 (kk_ne _).2.2.2.2
  have hold:∀ n m s,n<T.length->m<T.length->Rp (T++[(κ,gq T κ)]) n s->Rp (T++[(κ,gq T κ)]) m s->n=m:=fun n m s h1 h2 h3 h4=>h.inj n m s (h3.old h.wf h1) (h4.old h.wf h2)
  have pg:=hJ.Yk hold
  have hno:∀ m b,m<T.length->(T++[(κ,gq T κ)])[m]? = some (κ,b)->False:=fun m b hm hx=>hn _ (List.mem_iff_getElem?.2 ⟨m,n_ hx hm⟩) rfl
  have key:∀ m,m<T.length->Rp (T++[(κ,gq T κ)]) m t->False:=by
   intro m hm hrm
   have pm:=pg m (by omega) t hrm
   have pn:=pg T.length (Nat.le_refl _) t hr
   cases hf with
   | set hl _=>
    obtain ⟨b,hx,_⟩:=pm.set hrm rfl
    exact hno m b hm hx
   | @chain i j s u h1 h2 _=>
    obtain ⟨i',j',b,hx,h3,h4⟩:=pm.chain hrm rfl
    have hw:=sH hwf hx
    have e1:=hold i' i _ (by omega) h1.lt h3 h1.mono
    have e2:=hold j' j _ (by omega) h2.lt h4 h2.mono
    subst e1 e2
    exact hno m b hm hx
   | @star i s h1 _=>
    obtain ⟨i',b,hx,h3⟩:=pm.star hrm rfl
    have hw:=wZ hwf hx
    have e1:=hold i' i _ (by omega) h1.lt h3 h1.mono
    subst e1
    exact hno m b hm hx
   | @not i s h1 _=>
    obtain ⟨i',b,hx,h3⟩:=pm.not hrm rfl
    have hw:=Cm hwf hx
    have e1:=hold i' i _ (by omega) h1.lt h3 h1.mono
    subst e1
    exact hno m b hm hx
   | @aW k i j s u l h1 h2 h3 h4=>
    obtain ⟨⟨a,c,e1⟩,hmem⟩:=pn.yes k i j _ hnew
    obtain ⟨i',j',b,s',u',hx,h5,h6,_⟩:=pm.aW hrm e1
    obtain ⟨l2,hl2⟩:=kF.rp (k:=k) h6
    have hm2:=(pm.yes k i' j' b hx).2 _ (.more hx hl2)
    have hm1:=hmem _ (.more hnew h3.mono)
    have hg2:=hJ.gok m k i' j' b hx _ (.more hx hl2)
    have hlt1:∀ x∈i::l,x<T.length:=fun x hx'=>by
     obtain ⟨y,hy,_⟩:=(h4.mem x hx').2.2
     exact (List.getElem?_eq_some_iff.1 hy).1
    have hlt2:∀ x∈i'::l2,x<T.length:=fun x hx'=>by
     have:=(kF.more hx hl2).le hwf x hx'
     omega
    have hrep:∀ x,x<T.length->∃ y,Rp (T++[(cB k i j,gq T (cB k i j))]) x y:=fun x hx'=>by
     obtain ⟨y,hy,_⟩:=h.all x hx'
     exact ⟨y,hy.mono⟩
    have hl:i::l=i'::l2:=by
     refine ab2 (h4.app (X:=[(cB k i j,gq T (cB k i j))])).ord hg2.ord fun x=>?_
     constructor
     ·intro hx'
      obtain ⟨y,hy⟩:=hrep x (hlt1 x hx')
      obtain ⟨z,hz,hzr⟩:=(hm2 y).1 ((hm1 y).2 ⟨x,hx',hy⟩)
      rw [hold x z y (hlt1 x hx') (hlt2 z hz) hy hzr];exact hz
     ·intro hx'
      obtain ⟨y,hy⟩:=hrep x (hlt2 x hx')
      obtain ⟨z,hz,hzr⟩:=(hm1 y).1 ((hm2 y).2 ⟨x,hx',hy⟩)
      rw [hold x z y (hlt2 x hx') (hlt1 z hz) hy hzr];exact hz
    injection hl with e2 e3
    subst e2 e3
    have e4:=(h3.mono (X:=[(cB k i j,gq T (cB k i j))])).inj hJ.nd hl2
    subst e4
    exact hno m b hm hx
  refine ⟨⟨hJ,fun n m s h1 h2=>?_,fun n s h1=>?_⟩,hr⟩
  rotate_left
  ·by_cases q1:n<T.length
   ·exact h.sin n s (h1.old h.wf q1)
   ·have e0:n=T.length:=by
     have c1:=h1.lt
     simp only [List.length_append,List.length_cons,List.length_nil] at c1
     omega
    subst e0
    rw [h1.uniq hr];exact hf.sin h
  have c1:=h1.lt
  have c2:=h2.lt
  simp only [List.length_append,List.length_cons,List.length_nil] at c1 c2
  by_cases q1:n<T.length
  ·by_cases q2:m<T.length
   ·exact hold n m s q1 q2 h1 h2
   ·exfalso
    have:m=T.length:=by omega
    subst this
    have e3:=h2.uniq hr
    subst e3
    exact key n q1 h1
  ·have e0:n=T.length:=by omega
   subst e0
   by_cases q2:m<T.length
   ·exfalso
    have e3:=h1.uniq hr
    subst e3
    exact key m q2 h2
   ·omega
theorem TI.Yk {T:List Te} (h:TI B T) {n:Nat} {t:Tm} (hr:Rp T n t):PG T n t:=h.toTJ.Yk (N:=n) (fun n m t _ _=>h.inj n m t) n (Nat.le_refl _) t hr
theorem ti0:TI B nZ:=by
 have g:∀ n x,nZ[n]? = some x->(n=0/\x=(ky0,false))\/(n=1/\x=(vK,true))\/(n=2/\x=(ky6,true)):=fun n x hx=>by
  match n,hx with
  | 0,hx=>exact .inl ⟨rfl,by cases hx;rfl⟩
  | 1,hx=>exact .inr (.inl ⟨rfl,by cases hx;rfl⟩)
  | 2,hx=>exact .inr (.inr ⟨rfl,by cases hx;rfl⟩)
  | n+3,hx=>simp [nZ] at hx
 have r0:Rp nZ 0 aF:=.set (l:=[]) (b:=false) rfl trivial
 have r1:Rp nZ 1 eps:=.eps (b:=true) rfl
 have r2:Rp nZ 2 whole:=.not (i:=0) (b:=true) rfl r0
 have hw:uL nZ:=fun n x hx=>by
  rcases g n x hx with ⟨rfl,rfl⟩ | ⟨rfl,rfl⟩ | ⟨rfl,rfl⟩
  ·exact .inl rfl
  ·exact .inr (.inl rfl)
  ·exact .inr (.inr (.inr ⟨.inr rfl,0,by decide,rfl⟩))
 have hJ:TJ nZ:=by
  refine ⟨?_,hw,fun n hn=>?_,fun n k i j b hx l hl=>?_,rfl,rfl,rfl⟩
  ·simp [nZ]
  ·have:n<3:=hn
   match n,this with
   | 0,_=>exact ⟨_,r0,zW,fun x hx=>by cases hx;rfl⟩
   | 1,_=>exact ⟨_,r1,abI,fun x hx=>by cases hx;rfl⟩
   | 2,_=>exact ⟨_,r2,MQ true,fun x hx=>by cases hx;rfl⟩
  ·exfalso
   rcases g n _ hx with ⟨_,e⟩ | ⟨_,e⟩ | ⟨_,e⟩
   ·simp only [cB,ky0,Prod.mk.injEq,Ky.mk.injEq] at e;exact (kk_ne k).1 e.1.1
   ·simp only [cB,vK,Prod.mk.injEq,Ky.mk.injEq] at e;exact (kk_ne k).2.1 e.1.1
   ·simp only [cB,ky6,Prod.mk.injEq,Ky.mk.injEq] at e;exact (kk_ne k).2.2.2.2 e.1.1
 refine ⟨hJ,fun n m t h1 h2=>?_,fun n t h1=>?_⟩
 rotate_left
 ·have c1:n<3:=h1.lt
  match n,c1 with
  | 0,_=>rw [h1.uniq r0];exact gT B
  | 1,_=>rw [h1.uniq r1];trivial
  | 2,_=>rw [h1.uniq r2];exact gT B
 have c1:n<3:=h1.lt
 have c2:m<3:=h2.lt
 have e:∀ n,n<3->∀ t,Rp nZ n t->(n=0/\t=aF)\/(n=1/\t=eps)\/(n=2/\t=whole):=fun n hn t h=>by
  match n,hn with
  | 0,_=>exact .inl ⟨rfl,h.uniq r0⟩
  | 1,_=>exact .inr (.inl ⟨rfl,h.uniq r1⟩)
  | 2,_=>exact .inr (.inr ⟨rfl,h.uniq r2⟩)
 rcases e n c1 t h1 with ⟨rfl,rfl⟩ | ⟨rfl,rfl⟩ | ⟨rfl,rfl⟩<;>rcases e m c2 _ h2 with ⟨rfl,q⟩ | ⟨rfl,q⟩ | ⟨rfl,q⟩<;>first | rfl | cases q
end Go.Proofs.YtfolanohokflkaaGreatDoor
namespace Go.Proofs.YtfolanohokflkaaGreatDoor
open Tm (eps)
variable {B:List Int}
structure Op (B:List Int) (T:List Te) (R:List Te×Nat) (t:Tm) (g:Nat):Prop where
 sub:∃ X,R.1=T++X
 ti:TI B R.1
 rp:Rp R.1 R.2 t
 len:R.1.length<=T.length+g
theorem Op.mono {T:List Te} {R:List Te×Nat} {t:Tm} {g g':Nat} (h:Op B T R t g) (hg:g<=g'):Op B T R t g':=⟨h.sub,h.ti,h.rp,Nat.le_trans h.len (by omega)⟩
theorem Op.same {T:List Te} (h:TI B T) {n:Nat} {t:Tm} (hr:Rp T n t):Op B T (T,n) t 0:=⟨⟨[],by simp⟩,h,hr,Nat.le_refl _⟩
theorem Op.up {T:List Te} {R:List Te×Nat} {t:Tm} {g:Nat} (h:Op B T R t g) {n:Nat} {s:Tm} (hr:Rp T n s):Rp R.1 n s:=by
 obtain ⟨X,e⟩:=h.sub
 rw [e];exact hr.mono
theorem Op.trans {T:List Te} {R R':List Te×Nat} {t t':Tm} {g g':Nat} (h:Op B T R t g) (h':Op B R.1 R' t' g'):Op B T R' t' (g+g'):=by
 obtain ⟨X,e⟩:=h.sub
 obtain ⟨Y,e'⟩:=h'.sub
 exact ⟨⟨X++Y,by rw [e',e,List.append_assoc]⟩,h'.ti,h'.rp,by have:=h.len;have:=h'.len;omega⟩
theorem Op.get {T:List Te} {R:List Te×Nat} {t:Tm} {g:Nat} (h:Op B T R t g) {n:Nat} {x:Te} (hx:T[n]? = some x):R.1[n]? = some x:=by
 obtain ⟨X,e⟩:=h.sub
 rw [e];exact lK hx
theorem Op.keep {T:List Te} (h:TI B T) {κ:Ky} {t:Tm} (hf:Fm B T κ t):Op B T (d_ T κ) t 1:=by
 obtain ⟨h1,h2⟩:=h.keep hf
 refine ⟨pF T κ,h1,h2,?_⟩
 rcases eG T κ with ⟨i,b,_,e⟩ | ⟨_,e⟩<;>rw [e]<;>simp
theorem Op.set {T:List Te} (h:TI B T) {l:ah} (hl:Tidy l) (hb:cu B l):Op B T (fO T (encS l)) (.set l) 1:=Op.keep h (.set hl hb)
theorem TI.kind {T:List Te} (_:TI B T) {n:Nat} {t:Tm} (hr:Rp T n t) {x:Te} (hx:T[n]? = some x) :
  (x.1.kd=3->∃ i s b,x=(ed i,b)/\t=.star s/\Rp T i s)/\(x.1.kd=6->∃ i s b,x=(ek i,b)/\t=.not s/\Rp T i s) /\
  (x.1.kd=2->∃ i j s u b,x=(bR i j,b)/\t=.chain s u/\Rp T i s/\Rp T j u)/\(x.1.kd=0->∃ l b,x=(kD (encS l),b)/\t=.set l/\Tidy l):=by
 cases hr with
 | set h hl=>rw [h] at hx;cases hx;exact ⟨by simp [kD],by simp [kD],by simp [kD],fun _=>⟨_,_,rfl,rfl,hl⟩⟩
 | eps h=>rw [h] at hx;cases hx;exact ⟨by simp [vK],by simp [vK],by simp [vK],by simp [vK]⟩
 | chain h h1 h2=>rw [h] at hx;cases hx;exact ⟨by simp [bR],by simp [bR],fun _=>⟨_,_,_,_,_,rfl,rfl,h1,h2⟩,by simp [bR]⟩
 | star h h1=>rw [h] at hx;cases hx;exact ⟨fun _=>⟨_,_,_,rfl,rfl,h1⟩,by simp [ed],by simp [ed],by simp [ed]⟩
 | @aW _ _ _ k _ _ _ h h1 h2=>rw [h] at hx;cases hx;cases k<;>exact ⟨by simp [cB,kk],by simp [cB,kk],by simp [cB,kk],by simp [cB,kk]⟩
 | not h h1=>rw [h] at hx;cases hx;exact ⟨by simp [ek],fun _=>⟨_,_,_,rfl,rfl,h1⟩,by simp [ek],by simp [ek]⟩
theorem TI.at {T:List Te} (_:TI B T) {n:Nat} {t:Tm} (hr:Rp T n t):∃ x,T[n]? = some x:=⟨_,List.getElem?_eq_getElem hr.lt⟩
theorem TI.Zw {T:List Te} (h:TI B T) {n:Nat} {t:Tm} (hr:Rp T n t) {x:Te} (hx:T[n]? = some x) (hk:x.1.kd≠3):oW t=false:=by
 cases t with
 | star s=>
  obtain ⟨i,b,h1,_⟩:=(h.Yk hr).star hr rfl
  rw [h1] at hx;cases hx;exact absurd rfl hk
 | _=>rfl
theorem TI.ab3 {T:List Te} (h:TI B T) {n:Nat} {t:Tm} (hr:Rp T n t) {x:Te} (hx:T[n]? = some x) (hk:x.1.kd≠6):O3 t=false:=by
 cases t with
 | not s=>
  obtain ⟨i,b,h1,_⟩:=(h.Yk hr).not hr rfl
  rw [h1] at hx;cases hx;exact absurd rfl hk
 | _=>rfl
theorem TI.VC {T:List Te} (h:TI B T) {n:Nat} {t:Tm} (hr:Rp T n t) {x:Te} (hx:T[n]? = some x) (hk:x.1.kd≠2):bL t=false:=by
 cases t with
 | chain s u=>
  obtain ⟨i,j,b,h1,_⟩:=(h.Yk hr).chain hr rfl
  rw [h1] at hx;cases hx;exact absurd rfl hk
 | _=>rfl
theorem TI.zero {T:List Te} (h:TI B T) {n:Nat} {t:Tm} (hr:Rp T n t):n=0↔t=aF:=
 ⟨fun e=>by subst e;exact hr.uniq h.r0,fun e=>by subst e;exact h.inj _ _ _ hr h.r0⟩
theorem TI.one {T:List Te} (h:TI B T) {n:Nat} {t:Tm} (hr:Rp T n t):n=1↔t=eps:=
 ⟨fun e=>by subst e;exact hr.uniq h.r1,fun e=>by subst e;exact h.inj _ _ _ hr h.r1⟩
theorem Op.star {T:List Te} (h:TI B T) {i:Nat} {s:Tm} (hr:Rp T i s):Op B T (uB T i) (gN s) 1:=by
 unfold uB
 split
 ·rename_i q
  have:gN s=eps:=by
   unfold gN
   rw [if_pos (q.imp (h.zero hr).1 (h.one hr).1)]
  rw [this]
  exact (Op.same h h.r1).mono (by omega)
 ·rename_i q
  obtain ⟨x,hx⟩:=h.at hr
  rw [hx]
  dsimp only
  have hv:s≠aF:=fun e=>q (.inl ((h.zero hr).2 e))
  have he:s≠eps:=fun e=>q (.inr ((h.one hr).2 e))
  split
  ·rename_i hk
   obtain ⟨i',s',b,_,rfl,_⟩:=(h.kind hr hx).1 hk
   rw [show gN (.star s')=.star s' from by simp [gN]]
   exact (Op.same h hr).mono (by omega)
  ·rename_i hk
   have hst:=h.Zw hr hx hk
   have e:gN s=.star s:=by
    unfold gN
    rw [if_neg (by simp [hv,he])]
    cases s<;>first | rfl | cases hst
   rw [e]
   exact Op.keep h (.star hr ⟨h.cn hr,hv,he,hst⟩)
theorem Op.not {T:List Te} (h:TI B T) {i:Nat} {s:Tm} (hr:Rp T i s):Op B T (vS T i) (jO s) 1:=by
 unfold vS
 obtain ⟨x,hx⟩:=h.at hr
 rw [hx]
 dsimp only
 split
 ·rename_i hk
  obtain ⟨i',s',b,rfl,rfl,h1⟩:=(h.kind hr hx).2.1 hk
  exact (Op.same h (t:=s') (by simpa [ek] using h1)).mono (by omega)
 ·rename_i hk
  have hst:=h.ab3 hr hx hk
  have e:jO s=.not s:=by cases s<;>first | rfl | cases hst
  rw [e]
  exact Op.keep h (.not hr ⟨h.cn hr,hst,fun e=>absurd rfl e⟩)
theorem Op.chain:∀ (f:Nat) {T:List Te} (_:TI B T) {i j:Nat} {s t:Tm},i<f->Rp T i s->Rp T j t->Op B T (dH f T i j) (au s t) (dZ s)
 | 0,_,_,_,_,_,_,hf,_,_=>absurd hf (Nat.not_lt_zero _)
 | f+1,T,h,i,j,s,t,hf,hs,ht=>by
  have hp:=sD s
  rw [dH]
  split
  ·rename_i q
   have e:au s t=aF:=by
    rw [kr,if_pos (q.imp (h.zero hs).1 (h.zero ht).1)]
   rw [e]
   exact (Op.same h h.r0).mono (by omega)
  rename_i q0
  have hsv:s≠aF:=fun e=>q0 (.inl ((h.zero hs).2 e))
  have htv:t≠aF:=fun e=>q0 (.inr ((h.zero ht).2 e))
  split
  ·rename_i q
   rw [(h.one hs).1 q,bA]
   exact (Op.same h ht).mono (by omega)
  rename_i q1
  have hse:s≠eps:=fun e=>q1 ((h.one hs).2 e)
  split
  ·rename_i q
   rw [(h.one ht).1 q,ai]
   exact (Op.same h hs).mono (by omega)
  rename_i q2
  have hte:t≠eps:=fun e=>q2 ((h.one ht).2 e)
  obtain ⟨x,hx⟩:=h.at hs
  rw [hx]
  dsimp only
  split
  ·rename_i hk
   obtain ⟨a,b,u,v,b0,rfl,rfl,hu,hv⟩:=(h.kind hs hx).2.2.1 hk
   have hw:=sH h.wf hx
   simp only [bR,Int.toNat_natCast]
   have r1:=Op.chain f h (i:=b) (by omega) hv ht
   have r2:=Op.chain f r1.ti (i:=a) (by omega) (r1.up hu) r1.rp
   rw [au,if_neg htv,if_neg hte]
   exact (r1.trans r2).mono (by simp only [dZ];omega)
  ·rename_i hk
   have hc:=h.VC hs hx hk
   rw [bE hc hsv hse htv hte]
   exact (Op.keep h (.chain hs ht ⟨h.cn hs,h.cn ht,hc,hsv,hse,htv,hte⟩)).mono (by omega)
end Go.Proofs.YtfolanohokflkaaGreatDoor
namespace Go.Proofs.YtfolanohokflkaaGreatDoor
open Tm (eps)
variable {B:List Int}
theorem Cq {k:Bool} {X Y:List Tm} (hX:∀ t∈X,Cn t) (hY:∀ t∈Y,Cn t) (h:∀ t,t≠bG k->(t∈X↔t∈Y)):aj k X=aj k Y:=by
 have hu:memT k (bG k)=[bG k]:=by cases k<;>rfl
 have side:∀ {X Y:List Tm},(∀ t,t≠bG k->(t∈X↔t∈Y))->∀ x,x≠bG k->x∈X.flatMap (memT k)->x∈Y.flatMap (memT k):=fun {X Y} h x hx hm=>by
  obtain ⟨d,hd,hm⟩:=List.mem_flatMap.1 hm
  by_cases e:d=bG k
  ·subst e
   rw [hu] at hm
   exact absurd (by simpa using hm) hx
  ·exact List.mem_flatMap.2 ⟨d,(h d e).1 hd,hm⟩
 have h':∀ t,t≠bG k->(t∈Y↔t∈X):=fun t ht=>(h t ht).symm
 refine tZ hX hY ⟨fun x _ hx=>⟨side h x hx,side h' x hx⟩,fun c hc=>?_,fun e=>?_⟩
 ·unfold comb
  cases k
  ·simp only [Bool.false_eq_true,if_false]
   have go:∀ {X Y:List Tm},(∀ t,t≠bG false->(t∈X↔t∈Y))->(∃ s,Tm.set s∈X.flatMap (memT false)/\dD s c=true)->∃ s,Tm.set s∈Y.flatMap (memT false)/\dD s c=true:=fun {X Y} h ⟨s,h1,h2⟩=>by
    have hs:Tm.set s≠bG false:=by
     intro e
     have:s=[]:=by simpa [bG] using e
     subst this;simp [dD] at h2
    refine ⟨s,?_,h2⟩
    obtain ⟨d,hd,hm⟩:=List.mem_flatMap.1 h1
    by_cases e:d=bG false
    ·subst e
     exact absurd (by simpa [bG,memT] using hm) hs
    ·exact List.mem_flatMap.2 ⟨d,(h d e).1 hd,hm⟩
   exact ⟨go h,go h'⟩
  ·simp only [if_true]
   exact ⟨fun q s hs=>q s (side h' _ (by simp [bG]) hs),fun q s hs=>q s (side h _ (by simp [bG]) hs)⟩
 ·subst e
  exact ⟨fun ⟨s,hs⟩=>⟨s,side h _ (by simp [bG]) hs⟩,fun ⟨s,hs⟩=>⟨s,side h' _ (by simp [bG]) hs⟩⟩
inductive iA (T:List Te):List Nat->List Tm->Prop where
 | nil:iA T [] []
 | cons {n:Nat} {t:Tm} {l:List Nat} {ts:List Tm}:Rp T n t->iA T l ts->iA T (n::l) (t::ts)
theorem iA.mono {T X:List Te} {l:List Nat} {ts:List Tm} (h:iA T l ts):iA (T++X) l ts:=by
 induction h with
 | nil=>exact .nil
 | cons h _ ih=>exact .cons h.mono ih
theorem iA.mem {T:List Te} {l:List Nat} {ts:List Tm} (h:iA T l ts) {t:Tm}:t∈ts↔∃ n∈l,Rp T n t:=by
 induction h with
 | nil=>simp
 | @cons n s l ts h _ ih=>
  rw [List.mem_cons,ih]
  constructor
  ·rintro (rfl | ⟨m,hm,hr⟩)
   ·exact ⟨n,List.mem_cons_self ..,h⟩
   ·exact ⟨m,List.mem_cons_of_mem _ hm,hr⟩
  ·rintro ⟨m,hm,hr⟩
   rcases List.mem_cons.1 hm with rfl | hm
   ·exact .inl (hr.uniq h)
   ·exact .inr ⟨m,hm,hr⟩
theorem iA.lt {T:List Te} {l:List Nat} {ts:List Tm} (h:iA T l ts):∀ n∈l,n<T.length:=by
 induction h with
 | nil=>intro n hn;cases hn
 | cons h _ ih=>
  intro n hn
  rcases List.mem_cons.1 hn with rfl | hn
  ·exact h.lt
  ·exact ih n hn
theorem iA.len {T:List Te} {l:List Nat} {ts:List Tm} (h:iA T l ts):ts.length=l.length:=by
 induction h with
 | nil=>rfl
 | cons _ _ ih=>simp [ih]
theorem iA.of {T:List Te}:∀ {l:List Nat},(∀ n∈l,∃ t,Rp T n t)->∃ ts,iA T l ts
 | [],_=>⟨_,.nil⟩
 | n::l,h=>by
  obtain ⟨t,ht⟩:=h n (List.mem_cons_self ..)
  obtain ⟨ts,hts⟩:=iA.of (l:=l) fun m hm=>h m (List.mem_cons_of_mem _ hm)
  exact ⟨_,.cons ht hts⟩
theorem iA.cn {T:List Te} (hT:TJ T) {l:List Nat} {ts:List Tm} (h:iA T l ts):∀ t∈ts,Cn t:=fun t ht=>by
 obtain ⟨n,_,hr⟩:=h.mem.1 ht
 exact hT.cn hr
theorem iA.app {T:List Te} {l l':List Nat} {ts ts':List Tm} (h:iA T l ts) (h':iA T l' ts'):iA T (l++l') (ts++ts'):=by
 induction h with
 | nil=>exact h'
 | cons h _ ih=>exact .cons h ih
theorem iA.nodup {T:List Te} (hT:TI B T) {l:List Nat} {ts:List Tm} (h:iA T l ts) (hn:l.Nodup):ts.Nodup:=by
 induction h with
 | nil=>exact List.nodup_nil
 | cons h h2 ih=>
  have hn':=List.nodup_cons.1 hn
  refine List.nodup_cons.2 ⟨fun q=>?_,ih hn'.2⟩
  obtain ⟨m,hm,hr⟩:=h2.mem.1 q
  rw [hT.inj _ _ _ hr h] at hm
  exact hn'.1 hm
theorem Cr (T:List Te) (κ:Ky):∃ b,(d_ T κ).1[(d_ T κ).2]? = some (κ,b):=by
 rcases eG T κ with ⟨i,b,h,e⟩ | ⟨_,e⟩
 ·exact ⟨b,by rw [e];exact h⟩
 ·exact ⟨gq T κ,by rw [e];simp⟩
def joinL (T:List Te) (k:Bool):List Nat->List Te×Nat
 | []=>(T,0)
 | [a]=>(T,a)
 | a::b::r=>d_ (joinL T k (b::r)).1 (cB k a (joinL T k (b::r)).2)
theorem Nh {k:Bool} {s:Tm} {X:List Tm} (hs:Cn s) (hX:∀ t∈X,Cn t):aj k [s,aj k X]=aj k (s::X):=by
 have h1:∀ t∈[s],Cn t:=by simpa using hs
 rw [fM (Y:=[aj k X,s]) (by simpa using ⟨hs,kN hX⟩) (by simp [or_comm]),lH hX h1]
 exact fM (fun t ht=>by
  rcases List.mem_append.1 ht with ht | ht
  ·exact hX t ht
  ·exact h1 t ht) (by simp [or_comm])
theorem Cs {T:List Te} (h:TI B T) {k:Bool}:∀ {l:List Nat} {ts:List Tm},l≠[]->Yj T k l->iA T l ts->Op B T (joinL T k l) (aj k ts) (l.length - 1)/\kF (joinL T k l).1 k (joinL T k l).2 l
 | [],_,hne,_,_=>absurd rfl hne
 | [a],_,_,hg,hr=>by
  cases hr with
  | cons h1 h2=>
   cases h2
   obtain ⟨x,hx,hk⟩:=(hg.mem a (List.mem_cons_self ..)).2.2
   rw [group_one' (h.cn h1)]
   exact ⟨Op.same h h1,.one hx hk⟩
 | a::b::r,_,_,hg,hr=>by
  cases hr with
  | @cons _ s _ ts h1 h2=>
   have hg2:Yj T k (b::r):=⟨fun m hm=>hg.mem m (List.mem_cons_of_mem _ hm),(List.pairwise_cons.1 hg.ord).2⟩
   obtain ⟨o1,sp⟩:=Cs h (by simp) hg2 h2
   obtain ⟨X,eX⟩:=o1.sub
   have hga:Yj (joinL T k (b::r)).1 k (a::b::r):=by rw [eX];exact hg.app
   have o2:=Op.keep o1.ti (.aW (o1.up h1) o1.rp sp hga)
   rw [Nh (h.cn h1) (h2.cn h.toTJ)] at o2
   have o3:=o1.trans o2
   obtain ⟨b0,hb0⟩:=Cr (joinL T k (b::r)).1 (cB k a (joinL T k (b::r)).2)
   refine ⟨o3.mono (by simp),?_⟩
   obtain ⟨Y,eY⟩:=o2.sub
   refine .more hb0 ?_
   show kF (d_ (joinL T k (b::r)).1 (cB k a (joinL T k (b::r)).2)).1 k _ _
   rw [eY]
   exact sp.mono
theorem TI.mem {T:List Te} (h:TI B T) {k:Bool} {n:Nat} {t:Tm} {l:List Nat} (hr:Rp T n t) (sp:kF T k n l) (x:Tm):x∈memT k t↔∃ m∈l,Rp T m x:=by
 have pg:=h.Yk hr
 cases sp with
 | one hx hk=>
  rw [bu (pg.no k fun y hy=>by rw [hx] at hy;cases hy;exact hk)]
  constructor
  ·intro q
   have:x=t:=by simpa using q
   subst this;exact ⟨n,by simp,hr⟩
  ·rintro ⟨m,hm,hmr⟩
   have:m=n:=by simpa using hm
   subst this
   rw [hmr.uniq hr];simp
 | more hx h5=>exact (pg.yes k _ _ _ hx).2 _ (.more hx h5) x
def bg (k:Bool):Nat:=if k=true then 2 else 0
def dO (k:Bool):Nat:=if k=true then 0 else 2
def iO (T:List Te) (k:Bool) (ms:List Nat):List Te×Nat:=
 if ms.filter (fun m=>decide (m≠bg k))=[] then (T,bg k)
 else if dO k∈ms.filter (fun m=>decide (m≠bg k)) then (T,dO k)
 else joinL T k (ms.filter fun m=>decide (m≠bg k))
theorem TI.idle {T:List Te} (h:TI B T) (k:Bool):Rp T (bg k) (bG k):=by
 cases k
 ·exact h.r0
 ·exact h.r2
theorem TI.abb {T:List Te} (h:TI B T) (k:Bool):Rp T (dO k) (eT k):=by
 cases k
 ·exact h.r2
 ·exact h.r0
structure MOk (T:List Te) (k:Bool) (l:List Nat):Prop where
 mem:∀ m∈l,∃ x,T[m]? = some x/\x.1.kd≠kk k
 ord:l.Pairwise (Bf T)
theorem qa {T:List Te} {l:List Nat} (h:l.Pairwise (Bf T)):l.Nodup:=h.imp fun {a b} q e=>by subst e;exact Bf.irr _ q
theorem ui {T:List Te} (h:TI B T) {k:Bool} {ms:List Nat} {us:List Tm} (hm:MOk T k ms) (hr:iA T ms us):Op B T (iO T k ms) (aj k us) (memT k (aj k us)).length:=by
 generalize hL:ms.filter (fun m=>decide (m≠bg k))=L
 have hsub:∀ m,m∈L↔m∈ms/\m≠bg k:=fun m=>by rw [<-hL];simp
 obtain ⟨ts,hts⟩:=iA.of (T:=T) (l:=L) fun n hn=>by
  obtain ⟨t,ht,_⟩:=h.all n (hr.lt n ((hsub n).1 hn).1)
  exact ⟨t,ht⟩
 have hsame:aj k us=aj k ts:=by
  refine Cq (hr.cn h.toTJ) (hts.cn h.toTJ) fun t ht=>?_
  rw [hr.mem,hts.mem]
  constructor
  ·rintro ⟨n,hn,h1⟩
   refine ⟨n,(hsub n).2 ⟨hn,?_⟩,h1⟩
   rintro rfl
   exact ht (h1.uniq (h.idle k))
  ·rintro ⟨n,hn,h1⟩
   exact ⟨n,((hsub n).1 hn).1,h1⟩
 rw [hsame]
 unfold iO
 rw [hL]
 split
 ·rename_i e
  subst e
  cases hts
  rw [show aj k []=bG k from by cases k<;>rfl]
  exact (Op.same h (h.idle k)).mono (Nat.zero_le _)
 ·rename_i hne
  split
  ·rename_i hz
   have hz2:eT k∈ts:=hts.mem.2 ⟨_,hz,h.abb k⟩
   have:aj k ts=eT k:=by
    refine je (Ab (jW (hts.cn h.toTJ)) (List.mem_flatMap.2 ⟨_,hz2,?_⟩))
    cases k<;>simp [eT,memT]
   rw [this]
   exact (Op.same h (h.abb k)).mono (Nat.zero_le _)
  ·rename_i hz
   have hg:Yj T k L:=by
    refine ⟨fun m hmL=>?_,?_⟩
    ·obtain ⟨h1,h2⟩:=(hsub m).1 hmL
     have h3:m≠dO k:=by rintro rfl;exact hz hmL
     obtain ⟨x,hx,hk⟩:=hm.mem m h1
     cases k
     ·exact ⟨by simpa [bg] using h2,by simpa [dO] using h3,x,hx,hk⟩
     ·exact ⟨by simpa [dO] using h3,by simpa [bg] using h2,x,hx,hk⟩
    ·rw [<-hL];exact hm.ord.filter _
   obtain ⟨o,sp⟩:=Cs h hne hg hts
   refine o.mono ?_
   have hlen:L.length<=(memT k (aj k ts)).length:=by
    have hup:iA (joinL T k L).1 L ts:=by
     obtain ⟨X,e⟩:=o.sub
     rw [e];exact hts.mono
    rw [<-hup.len]
    have hn:=hup.nodup o.ti (qa hg.ord)
    refine jr hn fun t ht=>?_
    exact (o.ti.mem o.rp sp t).2 (hup.mem.1 ht)
   omega
end Go.Proofs.YtfolanohokflkaaGreatDoor
namespace Go.Proofs.YtfolanohokflkaaGreatDoor
open Tm (eps)
variable {B:List Int}
theorem Sg {k:Bool} (a b:ah):aj k [.set a,.set b]=.set (gW k a b):=by
 have e1:[Tm.set a,Tm.set b].flatMap (memT k)=[.set a,.set b]:=by simp [memT]
 have e2:aV k [Tm.set a,Tm.set b]=[.set (gW k a b)]:=by
  have:outs [Tm.set a,Tm.set b]=[]:=by simp [outs,zT,aP]
  simp [aV,aP,f_,this,pJ,zF]
 unfold aj
 rw [e1,e2]
 generalize gW k a b=s
 unfold oV
 cases k
 ·rw [if_neg (by simp [eT])]
  cases s with
  | nil=>rfl
  | cons x r=>simp [bG,gX]
 ·cases s with
  | nil=>rw [if_pos (by simp [eT])];rfl
  | cons x r=>
   rw [if_neg (by simp [eT])]
   simp [bG,gX]
theorem yu {s:ah} (h:Tidy s):Cn (.set s):=⟨h,fun e=>absurd rfl e⟩
theorem Ct {k:Bool} {A:List Tm} (hA:∀ t∈A,Cn t):∀ (r:List ah) (s:ah),Tidy s->(∀ x∈r,Tidy x)->aj k (A++(s::r).map Tm.set)=aj k (A++[.set (r.foldl (gW k) s)])
 | [],_,_,_=>rfl
 | x::r,s,hs,hr=>by
  have hx:=hr x (List.mem_cons_self ..)
  have ho:Tidy (gW k s x):=opS_tidy' k hs hx
  have ih:=Ct (k:=k) hA r (gW k s x) ho fun y hy=>hr y (List.mem_cons_of_mem _ hy)
  rw [List.foldl_cons,<-ih]
  have hc:∀ t∈r.map Tm.set,Cn t:=fun t ht=>by
   obtain ⟨y,hy,rfl⟩:=List.mem_map.1 ht
   exact yu (hr y (List.mem_cons_of_mem _ hy))
  have hAr:∀ t∈A++r.map Tm.set,Cn t:=fun t ht=>(List.mem_append.1 ht).elim (hA t) (hc t)
  have h2:∀ t∈[Tm.set s,Tm.set x],Cn t:=by simpa using ⟨yu hs,yu hx⟩
  have e1:aj k (A++(s::x::r).map Tm.set)=aj k ([Tm.set s,Tm.set x]++(A++r.map Tm.set)):=
   fM (fun t ht=>by
    rcases List.mem_append.1 ht with q | q
    ·exact hA t q
    ·obtain ⟨y,hy,rfl⟩:=List.mem_map.1 q
     rcases List.mem_cons.1 hy with rfl | hy
     ·exact yu hs
     ·exact yu (hr y hy)) (fun t=>by simp only [List.map_cons,List.mem_append,List.mem_cons,List.not_mem_nil,or_false];grind)
  rw [e1,<-lH h2 hAr,Sg]
  exact fM (fun t ht=>by
   rcases List.mem_cons.1 ht with rfl | q
   ·exact yu ho
   ·exact hAr t q) (fun t=>by
    simp only [List.map_cons,List.mem_append,List.mem_cons]
    constructor
    ·rintro (h | h | h)<;>simp_all
    ·rintro (h | h | h)<;>simp_all)
theorem Si {T:List Te} (hT:TJ T) {k:Bool} {n:Nat} {l:List Nat} (sp:kF T k n l):∀ {t:Tm} {ts Y:List Tm},Rp T n t->iA T l ts->(∀ y∈Y,Cn y)->aj k (t::Y)=aj k (ts++Y):=by
 induction sp with
 | one hx hk=>
  intro t ts Y hr hl _
  cases hl with
  | cons h1 h2=>
   cases h2
   rw [hr.uniq h1];rfl
 | @more n i j b l hx sp ih=>
  intro t ts Y hr hl hY
  cases hl with
  | @cons _ s _ ts h1 h2=>
   cases hr with
   | @aW _ i' j' k' s' u b' hx' hi hj=>
    have e:=az hx hx'
    simp only [cB,Ky.mk.injEq,true_and] at e
    have e0:=Ck e.1
    have e1:=cast_inj e.2.1
    have e2:=cast_inj e.2.2
    subst e0 e1 e2
    have es:=hi.uniq h1
    subst es
    have hs:=hT.cn hi
    have hu:=hT.cn hj
    have hts:=h2.cn hT
    have h2':∀ t∈[s',u],Cn t:=by simpa using ⟨hs,hu⟩
    rw [lH h2' hY,fM (Y:=u::(s'::Y)) (fun t ht=>(List.mem_append.1 ht).elim (h2' t) (hY t)) (fun t=>by simp;constructor<;>(rintro (h | h | h)<;>simp_all)),ih hj h2 (fun y hy=>by
     rcases List.mem_cons.1 hy with rfl | hy
     ·exact hs
     ·exact hY y hy)]
    exact fM (fun t ht=>by
     rcases List.mem_append.1 ht with q | q
     ·exact hts t q
     ·rcases List.mem_cons.1 q with rfl | q
      ·exact hs
      ·exact hY t q) (fun t=>by simp;constructor<;>(rintro (h | h | h)<;>simp_all))
   | set hx' _=>have e:=az hx hx';simp only [kD,cB,Ky.mk.injEq] at e;exact absurd e.1 (kk_ne _).1
   | eps hx'=>have e:=az hx hx';simp only [vK,cB,Ky.mk.injEq] at e;exact absurd e.1 (kk_ne _).2.1
   | chain hx' _ _=>have e:=az hx hx';simp only [bR,cB,Ky.mk.injEq] at e;exact absurd e.1 (kk_ne _).2.2.1
   | star hx' _=>have e:=az hx hx';simp only [ed,cB,Ky.mk.injEq] at e;exact absurd e.1 (kk_ne _).2.2.2.1
   | not hx' _=>have e:=az hx hx';simp only [ek,cB,Ky.mk.injEq] at e;exact absurd e.1 (kk_ne _).2.2.2.2
theorem kF.kinds {T:List Te} (h:TJ T) {k:Bool} {n:Nat} {l:List Nat} (sp:kF T k n l):∀ m∈l,∃ x,T[m]? = some x/\x.1.kd≠kk k:=by
 intro m hm
 cases sp with
 | one hx hk=>
  have:m=n:=by simpa using hm
  subst this;exact ⟨_,hx,hk⟩
 | more hx sp=>exact ((h.gok _ _ _ _ _ hx _ (.more hx sp)).mem m hm).2.2
inductive JZ (T:List Te) (k:Bool):List Nat->List Nat->Prop where
 | nil:JZ T k [] []
 | cons {n:Nat} {sp l L:List Nat}:kF T k n sp->JZ T k l L->JZ T k (n::l) (sp++L)
theorem JZ.kinds {T:List Te} (h:TJ T) {k:Bool} {l L:List Nat} (sp:JZ T k l L):∀ m∈L,∃ x,T[m]? = some x/\x.1.kd≠kk k:=by
 induction sp with
 | nil=>intro m hm;cases hm
 | cons s _ ih=>
  intro m hm
  rcases List.mem_append.1 hm with q | q
  ·exact s.kinds h m q
  ·exact ih m q
theorem Ni {T:List Te} (hT:TJ T) {k:Bool} {l L:List Nat} (sp:JZ T k l L):∀ {ts us Y:List Tm},iA T l ts->iA T L us->(∀ y∈Y,Cn y)->aj k (ts++Y)=aj k (us++Y):=by
 induction sp with
 | nil=>intro ts us Y h1 h2 _;cases h1;cases h2;rfl
 | @cons n sp l L s _ ih=>
  intro ts us Y h1 h2 hY
  cases h1 with
  | @cons _ t _ ts hr hl=>
   obtain ⟨u1,hu1⟩:=iA.of (T:=T) (l:=sp) fun m hm=>by
    obtain ⟨x,hx,_⟩:=s.kinds hT m hm
    obtain ⟨y,hy,_⟩:=hT.all m (List.getElem?_eq_some_iff.1 hx).1
    exact ⟨y,hy⟩
   obtain ⟨u2,hu2⟩:=iA.of (T:=T) (l:=L) fun m hm=>by
    obtain ⟨y,hy,_⟩:=hT.all m (h2.lt m (List.mem_append_right _ hm))
    exact ⟨y,hy⟩
   have hts:=hl.cn hT
   have hc1:=hu1.cn hT
   have hc2:=hu2.cn hT
   have e0:∀ x,x∈us↔x∈u1++u2:=fun x=>by rw [h2.mem,(hu1.app hu2).mem]
   have hYY:∀ y∈ts++Y,Cn y:=fun y hy=>(List.mem_append.1 hy).elim (hts y) (hY y)
   show aj k (t::(ts++Y))=_
   rw [Si hT s hr hu1 hYY]
   have e1:aj k (u1++(ts++Y))=aj k (ts++(u1++Y)):=fM (fun x hx=>(List.mem_append.1 hx).elim (hc1 x) (hYY x)) (fun x=>by simp;constructor<;>(rintro (h | h | h)<;>simp_all))
   rw [e1,ih hl hu2 (fun y hy=>(List.mem_append.1 hy).elim (hc1 y) (hY y))]
   exact fM (fun x hx=>by
    rcases List.mem_append.1 hx with q | q
    ·exact hc2 x q
    ·exact (List.mem_append.1 q).elim (hc1 x) (hY x)) (fun x=>by
     rw [List.mem_append,List.mem_append,List.mem_append,e0,List.mem_append]
     constructor
     ·rintro (h | h | h)<;>simp_all
     ·rintro ((h | h) | h)<;>simp_all)
def aY (T:List Te) (m:Nat):Bool:=match T[m]? with
 | some x=>decide (x.1.kd=0)
 | none=>false
theorem mi {T:List Te} {m:Nat}:aY T m=true↔Ng T m:=by
 unfold aY Ng
 cases h:T[m]? with
 | none=>simp
 | some x=>simp
def Zx (T:List Te) (k:Bool) (L:List Nat):Option ah->List Te×Nat
 | Option.none=>iO T k (L.filter fun m=>!aY T m)
 | some s=>iO (fO T (encS s)).1 k ((L.filter fun m=>!aY T m)++[(fO T (encS s)).2])
theorem VD {T:List Te} (h:TI B T) {k:Bool} {l L0 L:List Nat} {ts:List Tm} {ss:List ah} (hr:iA T l ts) (hsp:JZ T k l L0) (hL:L.Pairwise (· < ·)) (hmem:∀ m,m∈L↔m∈L0) (hss:iA T (L.filter fun m=>aY T m) (ss.map Tm.set)) (ht:∀ s∈ss,Tidy s) :
  Op B T (Zx T k L (f_ k ss)) (aj k ts) ((memT k (aj k ts)).length+1):=by
 have hJ:=h.toTJ
 have hkind:∀ m∈L,∃ x,T[m]? = some x/\x.1.kd≠kk k:=fun m hm=>hsp.kinds hJ m ((hmem m).1 hm)
 have hex:∀ m∈L,∃ t,Rp T m t:=fun m hm=>by
  obtain ⟨x,hx,_⟩:=hkind m hm
  obtain ⟨y,hy,_⟩:=hJ.all m (List.getElem?_eq_some_iff.1 hx).1
  exact ⟨y,hy⟩
 obtain ⟨u0,hu0⟩:=iA.of (T:=T) (l:=L0) fun m hm=>hex m ((hmem m).2 hm)
 obtain ⟨zs,has⟩:=iA.of (T:=T) (l:=L.filter fun m=>!aY T m) fun m hm=>hex m (List.mem_filter.1 hm).1
 have Yl:=has.cn hJ
 have hcs:∀ t∈ss.map Tm.set,Cn t:=hss.cn hJ
 have e1:aj k ts=aj k (zs++ss.map Tm.set):=by
  have q:=Ni hJ hsp hr hu0 (Y:=[]) (by simp)
  simp only [List.append_nil] at q
  rw [q]
  refine fM (hu0.cn hJ) fun t=>?_
  rw [hu0.mem,List.mem_append,has.mem,hss.mem]
  constructor
  ·rintro ⟨m,hm,hmr⟩
   have hm':=(hmem m).2 hm
   cases hb:aY T m with
   | true=>exact .inr ⟨m,List.mem_filter.2 ⟨hm',hb⟩,hmr⟩
   | false=>exact .inl ⟨m,List.mem_filter.2 ⟨hm',by simp [hb]⟩,hmr⟩
  ·rintro (⟨m,hm,hmr⟩ | ⟨m,hm,hmr⟩)
   ·exact ⟨m,(hmem m).1 (List.mem_filter.1 hm).1,hmr⟩
   ·exact ⟨m,(hmem m).1 (List.mem_filter.1 hm).1,hmr⟩
 have hns:∀ m∈L.filter (fun m=>!aY T m),¬ Ng T m:=fun m hm q=>by
  have:=(List.mem_filter.1 hm).2
  rw [mi.2 q] at this;cases this
 have hbf:(L.filter fun m=>!aY T m).Pairwise (Bf T):=(hL.filter _).imp_of_mem fun {a b} ha hb q=>⟨hns a ha,.inr q⟩
 have hM:MOk T k (L.filter fun m=>!aY T m):=⟨fun m hm=>hkind m (List.mem_filter.1 hm).1,hbf⟩
 cases ss with
 | nil=>
  simp only [List.map_nil,List.append_nil] at e1
  rw [e1]
  exact (ui h hM has).mono (by omega)
 | cons s r=>
  have hs:=ht s (List.mem_cons_self ..)
  have hrt:∀ x∈r,Tidy x:=fun x hx=>ht x (List.mem_cons_of_mem _ hx)
  have hin:∀ x∈s::r,cu B x:=fun x hx=>by
   obtain ⟨m,_,hmr⟩:=hss.mem.1 (List.mem_map.2 ⟨x,hx,rfl⟩)
   exact h.sin _ _ hmr
  have hf2:=j4 (B:=B) (k:=k) (l:=r) (s:=s) (fun x hx=>⟨hrt x hx,hin x (List.mem_cons_of_mem _ hx)⟩) hs (hin s (List.mem_cons_self ..))
  have hf:=hf2.1
  rw [Ct Yl r s hs hrt] at e1
  have oQ:=Op.set h hf hf2.2
  obtain ⟨X,eX⟩:=oQ.sub
  obtain ⟨b0,hb0⟩:=Cr T (kD (encS (r.foldl (gW k) s)))
  have hup:iA (fO T (encS (r.foldl (gW k) s))).1 (L.filter fun m=>!aY T m) zs:=by rw [eX];exact has.mono
  have hM2:MOk (fO T (encS (r.foldl (gW k) s))).1 k ((L.filter fun m=>!aY T m)++[(fO T (encS (r.foldl (gW k) s))).2]):=by
   refine ⟨fun m hm=>?_,?_⟩
   ·rcases List.mem_append.1 hm with q | q
    ·obtain ⟨x,hx,hk⟩:=hM.mem m q
     exact ⟨x,oQ.get hx,hk⟩
    ·have:m=(fO T (encS (r.foldl (gW k) s))).2:=by simpa using q
     subst this
     exact ⟨_,hb0,fun e=>(kk_ne k).1 e.symm⟩
   ·have hnew:∀ m∈L.filter (fun m=>!aY T m),¬ Ng (fO T (encS (r.foldl (gW k) s))).1 m:=fun m hm=>by
     rw [eX,Ae (has.lt m hm)];exact hns m hm
    refine List.pairwise_append.2 ⟨hbf.imp_of_mem fun {a b} ha hb q=>⟨hnew a ha,?_⟩,by simp,fun a ha b hb=>?_⟩
    ·exact .inr (q.2.resolve_left (hns b hb))
    ·have:b=(fO T (encS (r.foldl (gW k) s))).2:=by simpa using hb
     subst this
     exact ⟨hnew a ha,.inl ⟨_,hb0,rfl⟩⟩
  have o2:=ui oQ.ti hM2 (hup.app (.cons oQ.rp .nil))
  rw [<-e1] at o2
  exact (oQ.trans o2).mono (by omega)
end Go.Proofs.YtfolanohokflkaaGreatDoor
namespace Go.Proofs.YtfolanohokflkaaGreatDoor
open Tm (eps)
def jC (l:ah):List Int:=(l++fU l).map (·.1)
def sI:Tm->Int->Prop
 | .set l,c=>c∈jC l
 | .eps,c=>c=0
 | .chain a b,c=>sI a c\/(bZ a=true/\sI b c)
 | .star a,c=>sI a c
 | .not a,c=>sI a c
 | .aW _ a b,c=>sI a c\/sI b c
def Seg (t:Tm) (c d:Int):Prop:=∀ b,sI t b->(b<=c↔b<=d)
theorem Seg.refl (t:Tm) (c:Int):Seg t c c:=fun _ _=>Iff.rfl
theorem Seg.symm {t:Tm} {c d:Int} (h:Seg t c d):Seg t d c:=fun b hb=>(h b hb).symm
theorem Seg.trans {t:Tm} {c d e:Int} (h:Seg t c d) (h':Seg t d e):Seg t c e:=fun b hb=>(h b hb).trans (h' b hb)
theorem GL {k:Bool} {b:Int}:∀ (t:Tm),sI t b↔∃ m∈memT k t,sI m b:=by
 intro t
 induction t with
 | aW k' x y _ ih=>
  rw [memT]
  split
  ·simp only [List.mem_cons,exists_eq_or_imp,sI]
   rw [ih]
  ·simp
 | _=>simp [memT]
theorem J2 {l:ah} {c:Int} (h:dD l c=true):∃ x∈l,x.1<=c/\c<=x.2:=by
 simp only [dD,List.any_eq_true,Bool.and_eq_true,decide_eq_true_eq] at h
 exact h
theorem mq {l:ah} {x:Int×Int} {c:Int} (hx:x∈l) (h1:x.1<=c) (h2:c<=x.2):dD l c=true:=by
 simp only [dD,List.any_eq_true,Bool.and_eq_true,decide_eq_true_eq]
 exact ⟨x,hx,h1,h2⟩
theorem j5 {l:ah} (h:Tidy l) {x:Int×Int} (hx:x∈l):jN x:=bD h x hx
theorem sJ {l:ah} (h:Tidy l) {c:Int} (hc:c∈jC l):aD c=true:=by
 obtain ⟨x,hx,rfl⟩:=List.mem_map.1 hc
 rcases List.mem_append.1 hx with q | q
 ·exact (j5 h q).1
 ·exact (j5 (dI h.pos) q).1
theorem yw {l:ah} (h:Tidy l):0∈jC l:=by
 have h0:aD 0=true:=by decide
 have go:∀ {m:ah},Tidy m->dD m 0=true->∃ x∈m,x.1=0:=fun {m} hm q=>by
  obtain ⟨x,hx,h1,h2⟩:=J2 q
  have:=(aC.1 (j5 hm hx).1).1
  exact ⟨x,hx,by omega⟩
 cases hq:dD l 0 with
 | true=>
  obtain ⟨x,hx,e⟩:=go h hq
  exact List.mem_map.2 ⟨x,List.mem_append_left _ hx,e⟩
 | false=>
  obtain ⟨x,hx,e⟩:=go (dI h.pos) (by rw [kK h.pos h0,hq];rfl)
  exact List.mem_map.2 ⟨x,List.mem_append_right _ hx,e⟩
theorem Zy {l:ah} (h:Tidy l) {c d:Int} (hc:aD c=true) (hd:aD d=true) (hs:Seg (.set l) c d):dD l c=dD l d:=by
 have up:∀ {m m':ah} {c d:Int},(∀ x∈m',x∈l++fU l)->(∀ e,aD e=true->dD m e=!dD m' e)->aD c=true->aD d=true->Seg (.set l) c d->c<=d->dD m c=true->dD m d=true:=fun {m m' c d} hm' hx hc hd hs hcd q=>by
  cases hq:dD m d with
  | true=>rfl
  | false=>
   exfalso
   have h2:dD m' d=true:=by
    have:=hx d hd
    rw [hq] at this
    cases h3:dD m' d with
    | true=>rfl
    | false=>rw [h3] at this;cases this
   obtain ⟨x,hx',h3,h4⟩:=J2 h2
   have h5:=(hs x.1 (List.mem_map.2 ⟨x,hm' x hx',rfl⟩)).2 h3
   have h6:dD m' c=true:=mq hx' h5 (by omega)
   have:=hx c hc
   rw [h6,q] at this;cases this
 have ho:=fun e he=>kK (a:=l) h.pos (c:=e) he
 have main:∀ {c d:Int},aD c=true->aD d=true->Seg (.set l) c d->c<=d->dD l c=dD l d:=fun {c d} hc hd hs hcd=>by
  cases hq:dD l c with
  | true=>exact (up (m:=l) (m':=fU l) (fun x hx=>List.mem_append_right _ hx) (fun e he=>by rw [ho e he];simp) hc hd hs hcd hq).symm
  | false=>
   have h1:dD (fU l) c=true:=by rw [ho c hc,hq];rfl
   have h2:=up (m:=fU l) (m':=l) (fun x hx=>List.mem_append_left _ hx) ho hc hd hs hcd h1
   rw [ho d hd] at h2
   cases h3:dD l d with
   | true=>rw [h3] at h2;cases h2
   | false=>rfl
 rcases Int.le_total c d with q | q
 ·exact main hc hd hs q
 ·exact (main hd hc hs.symm q).symm
theorem Seg.mem {t m:Tm} {k:Bool} {c d:Int} (h:Seg t c d) (hm:m∈memT k t):Seg m c d:=fun b hb=>h b ((GL (k:=k) t).2 ⟨m,hm,hb⟩)
theorem oK {c d:Int} (hc:aD c=true) (hd:aD d=true):∀ (n:Nat) {t:Tm},eP t<=n->gp t->Seg t c d->aG c t=aG d t:=by
 intro n
 induction n with
 | zero=>intro t ht;cases t<;>simp [eP] at ht
 | succ n ih=>
  intro t hn ht hs
  cases t with
  | set l=>rw [il,il,Zy ht hc hd hs]
  | eps=>rfl
  | chain a b=>
   simp only [eP] at hn
   have h1:=ih (t:=a) (by omega) ht.1 fun b' hb=>hs b' (.inl hb)
   rw [fu,fu,h1]
   split
   ·rename_i q
    rw [ih (t:=b) (by omega) ht.2 fun b' hb=>hs b' (.inr ⟨q,hb⟩)]
   ·rfl
  | star a=>
   simp only [eP] at hn
   rw [pU,pU,ih (t:=a) (by omega) ht hs]
  | not a=>
   simp only [eP] at hn
   rw [rR,rR,ih (t:=a) (by omega) ht hs]
  | aW k a b=>
   rw [l9,l9]
   congr 1
   refine List.map_congr_left fun m hm=>?_
   exact ih (by have:=vg hm;omega) (OX k ht m hm) (hs.mem hm)
theorem og:∀ {t:Tm},gp t->sI t 0
 | .set _,h=>yw h
 | .eps,_=>rfl
 | .chain _ _,h=>.inl (og h.1)
 | .star a,h=>og (t:=a) h
 | .not a,h=>og (t:=a) h
 | .aW _ _ _,h=>.inl (og h.1)
theorem m_:∀ {t:Tm},gp t->∀ {c:Int},sI t c->aD c=true
 | .set _,h,_,hc=>sJ h hc
 | .eps,_,_,hc=>by rw [show _=(0:Int) from hc];decide
 | .chain _ _,h,_,hc=>hc.elim (m_ h.1) fun q=>m_ h.2 q.2
 | .star a,h,_,hc=>m_ (t:=a) h hc
 | .not a,h,_,hc=>m_ (t:=a) h hc
 | .aW _ _ _,h,_,hc=>hc.elim (m_ h.1) (m_ h.2)
def uz (c:Int):Int:=if c=57344 then 55295 else c - 1
theorem sK {c:Int} (h:aD c=true) (h0:c≠0):aD (uz c)=true/\uz c<c/\∀ d,aD d=true->d<c->d<=uz c:=by
 rw [aC] at h
 refine ⟨?_,?_,fun d hd hlt=>?_⟩
 ·rw [aC];unfold uz;split<;>omega
 ·unfold uz;split<;>omega
 ·rw [aC] at hd
  unfold uz;split<;>omega
theorem vB:∀ {m:Int} {l:ah},fC m l->∀ x∈l,x.1≠0->dD l (uz x.1)=false
 | _,[],_,x,hx,_=>by cases hx
 | m,y::r,h,x,hx,h0=>by
  obtain ⟨h1,h2,h3,h4,h5⟩:=h
  have hy2:=aC.1 h3
  rcases List.mem_cons.1 hx with rfl | hx
  ·obtain ⟨b1,b2,b3⟩:=sK h2 h0
   cases hq:dD (x::r) (uz x.1) with
   | false=>rfl
   | true=>
    rcases bY.1 hq with q | q
    ·omega
    ·have:=fC.ge h5 q
     unfold kJ at this
     split at this<;>omega
  ·have hxs:=(bD h5 x hx).1
   have hgt:kJ y.2<x.1:=fC.ge h5 (mq hx (Int.le_refl _) (bD h5 x hx).2.2)
   obtain ⟨b1,b2,b3⟩:=sK hxs h0
   have ih:=vB h5 x hx h0
   rw [ig,ih,Bool.or_false]
   have hxs':=aC.1 hxs
   have:y.2<uz x.1:=by
    unfold kJ at hgt
    unfold uz
    split at hgt<;>split<;>omega
   simp
   omega
theorem oL {B:List Int} {l:ah} (h:Tidy l) (hb:cu B l) {c:Int} (hc:c∈jC l) (h0:c≠0):∃ b∈B,uz c<b/\b<=c:=by
 have hs:=sJ h hc
 obtain ⟨b1,b2,_⟩:=sK hs h0
 have hne:dD l (uz c)≠dD l c:=by
  obtain ⟨x,hx,rfl⟩:=List.mem_map.1 hc
  rcases List.mem_append.1 hx with q | q
  ·rw [vB h x q h0,mq q (Int.le_refl _) (j5 h q).2.2];simp
  ·have ho:=dI (a:=l) h.pos
   have e1:=vB ho x q h0
   have e2:=mq q (Int.le_refl _) (j5 ho q).2.2
   rw [kK h.pos b1] at e1
   rw [kK h.pos hs] at e2
   intro e
   rw [e] at e1
   rw [e1] at e2;cases e2
 refine Classical.byContradiction fun hn=>hne (hb _ _ b1 hs fun b hbB=>?_)
 constructor
 ·intro q;omega
 ·intro q
  refine Classical.byContradiction fun q2=>hn ⟨b,hbB,by omega,q⟩
theorem j6 {B:List Int}:∀ {t:Tm},gp t->gy B t->∀ {c:Int},sI t c->c≠0->∃ b∈B,uz c<b/\b<=c
 | .set _,h,hb,_,hc,h0=>oL h hb hc h0
 | .eps,_,_,_,hc,h0=>absurd hc h0
 | .chain _ _,h,hb,_,hc,h0=>hc.elim (fun q=>j6 h.1 hb.1 q h0) fun q=>j6 h.2 hb.2 q.2 h0
 | .star a,h,hb,_,hc,h0=>j6 (t:=a) h hb hc h0
 | .not a,h,hb,_,hc,h0=>j6 (t:=a) h hb hc h0
 | .aW _ _ _,h,hb,_,hc,h0=>hc.elim (fun q=>j6 h.1 hb.1 q h0) fun q=>j6 h.2 hb.2 q h0
theorem qG {B L:List Int} (hL:L.Nodup) (hs:∀ c∈L,aD c=true) (hb:∀ c∈L,c≠0->∃ b∈B,uz c<b/\b<=c):L.length<=B.length+1:=by
 have e:=BZ (fun c:Int=>decide (c=0)) L
 have h1:(L.filter fun c=>decide (c=0)).length<=1:=jr (m:=[0]) (hL.filter _) fun x hx=>by
  have:=(List.mem_filter.1 hx).2
  simpa using this
 have h2:(L.filter fun c=>!decide (c=0)).length<=B.length:=by
  have hex:∀ c:Int,∃ b,(c∈L->c≠0->b∈B/\uz c<b/\b<=c):=fun c=>by
   by_cases hc:c∈L/\c≠0
   ·obtain ⟨b,h1,h2⟩:=hb c hc.1 hc.2
    exact ⟨b,fun _ _=>⟨h1,h2⟩⟩
   ·exact ⟨0,fun h h'=>absurd ⟨h,h'⟩ hc⟩
  let f:=fun c=>(hex c).choose
  have hf:∀ c,c∈L->c≠0->f c∈B/\uz c<f c/\f c<=c:=fun c=>(hex c).choose_spec
  have hmem:∀ c∈L.filter (fun c=>!decide (c=0)),c∈L/\c≠0:=fun c hc=>by
   have:=List.mem_filter.1 hc
   exact ⟨this.1,by simpa using this.2⟩
  rw [<-List.length_map (f:=f)]
  refine jr ?_ fun x hx=>?_
  ·rw [List.nodup_iff_pairwise_ne,List.pairwise_map]
   refine List.Pairwise.imp_of_mem (fun {a b} ha hb' hab e=>?_) (hL.filter _)
   obtain ⟨a1,a2⟩:=hmem a ha
   obtain ⟨b1,b2⟩:=hmem b hb'
   have fa:=hf a a1 a2
   have fb:=hf b b1 b2
   rcases Int.lt_or_gt_of_ne hab with q | q
   ·have:=(sK (hs b b1) b2).2.2 a (hs a a1) q
    rw [e] at fa;omega
   ·have:=(sK (hs a a1) a2).2.2 b (hs b b1) q
    rw [e] at fa;omega
  ·obtain ⟨c,hc,rfl⟩:=List.mem_map.1 hx
   obtain ⟨c1,c2⟩:=hmem c hc
   exact (hf c c1 c2).1
 omega
structure yx (t:Tm) (l:List Int):Prop where
 rise:l.Pairwise (· < ·)
 mem:∀ c,c∈l↔sI t c
theorem yx.len {B:List Int} {t:Tm} {l:List Int} (h:yx t l) (ht:gp t) (hb:gy B t):l.length<=B.length+1:=
 qG (h.rise.imp fun q e=>by omega) (fun c hc=>m_ ht ((h.mem c).1 hc)) fun c hc h0=>j6 ht hb ((h.mem c).1 hc) h0
theorem yx.Ig {t:Tm} {l:List Int} (h:yx t l) {c d:Int} (hdc:d<=c) (hm:∀ b∈l,b<=c->b<=d):Seg t c d:=fun b hb=>⟨fun q=>hm b ((h.mem b).2 hb) q,fun q=>by omega⟩
theorem gz {B:List Int} {l:ah} (h:Tidy l) (hb:cu B l):l.length<=B.length+1/\(fU l).length<=B.length+1:=by
 have go:∀ {m:Int} {l:ah},fC m l->(l.map (·.1)).Nodup:=by
  intro m l
  induction l generalizing m with
  | nil=>intro _;simp
  | cons x r ih=>
   intro h
   obtain ⟨h1,h2,h3,h4,h5⟩:=h
   rw [List.map_cons]
   refine List.nodup_cons.2 ⟨fun q=>?_,ih h5⟩
   obtain ⟨y,hy,e⟩:=List.mem_map.1 q
   have:=fC.ge h5 (mq hy (Int.le_refl _) (bD h5 y hy).2.2)
   unfold kJ at this
   split at this<;>omega
 refine ⟨?_,?_⟩
 ·rw [show l.length=(l.map (·.1)).length from by simp]
  exact qG (go h) (fun c hc=>sJ h (by unfold jC;rw [List.map_append];exact List.mem_append_left _ hc)) fun c hc h0=>oL h hb (by unfold jC;rw [List.map_append];exact List.mem_append_left _ hc) h0
 ·rw [show (fU l).length=((fU l).map (·.1)).length from by simp]
  exact qG (go (dI h.pos)) (fun c hc=>sJ h (by unfold jC;rw [List.map_append];exact List.mem_append_right _ hc)) fun c hc h0=>oL h hb (by unfold jC;rw [List.map_append];exact List.mem_append_right _ hc) h0
end Go.Proofs.YtfolanohokflkaaGreatDoor
