import Derived.Test.YtfolanohokflkaaGreatDoorApB
import Derived.Test.YtfolanohokflkaaGreatDoorClsB
import Derived.Test.YtfolanohokflkaaGreatDoorSoM
import Derived.Test.YtfolanohokflkaaGreatDoorRpG
import Derived.WalkKit
import Derived.WalkSpells
import Derived.WalkLawsBesides
import Derived.WalkMore
import Derived.Deep.QuietTactic
import Derived.BigQuiet
import Derived.BigRegion
import Derived.Deep.RegionHeld3
namespace Go.Proofs.YtfolanohokflkaaGreatDoor
open Go.RowKit
theorem acg (q:List (Int×Int)):∀ u∈aJ q,u.oneCell'=true:=by
 induction q with
 | nil=>intro u hu;simp [aJ] at hu
 | cons y q ih=>intro u hu;simp only [aJ,List.mem_cons] at hu;rcases hu with rfl | rfl | hu;rfl;rfl;exact ih u hu
theorem Ku {ops:Array Oper} {rest:List Oper} {o:Oper} {a:Act} {Q:Exit->Act->World->Prop} (B B':Nat) (wr:World) (zs p:List (Int×Int)) (v x:Value) (so xo:Operand) (hg:o.guard=none)
  (hop:o.op=.call { callee:=.builtin .append,args:=#[so,xo],argTypes:=#[237,237] }) (hs:a.eval so=v) (hx:a.eval xo=x)
  (ho:Hid (wr.ownsRow B 248 2 v zs.length (aJ zs))) (ho2:Hid (wr.ownsRow B' 248 2 x p.length (aJ p))) (hB:B<=wr.heap.size) (hl:zs.length+p.length<=2000000)
  (K:∀ ao n cap w',Hid (w'.ownsRow B 248 2 (.slice ao n cap) (zs++p).length (aJ (zs++p)))->Hid (wr.grownBy w' v.ownBlock)->wpList Tryz.prog ops Q rest (a.put o.dst (.slice ao n cap)) w') :
  wpList Tryz.prog ops Q (o::rest) a wr:=by
 obtain ⟨i0,hi0,hz0,hz1,hz2⟩:=info_parts pI
 refine Jy hg so xo 237 hop B B' 248 i0 (.agg #[.int .i32 0,.int .i32 0]) 2 8 Tryz.underlying237 hi0 hz0 hz1 hz2 rfl (by decide) v x _ _ _ _ hs hx (aa ho) (aa ho2) (acg p) (by unfold maxLen;omega) (by omega) hB ?_
 intro v' w' h1 h2
 have h3:w'.ownsRow B 248 2 v' (zs++p).length (aJ (zs++p)):=by
  rw [iU,List.length_append];exact h1
 obtain ⟨ao,cap,rfl,-⟩:=aO h3
 exact K ao _ cap w' h3 h2
set_option maxRecDepth 100000 in
set_option maxHeartbeats 4000000 in
theorem Kv (w:World) (l:ah) (hl:l.length<=900) (hl2:(fU l).length<=900) (ht:Tidy l) (hot:Tidy (fU l)) (hpos:0<(l++fU l).length) :
  Calls Tryz.prog 167 #[.string (encS l)] w fun e w'=>∃ g cap,e=.returned (.slice (some ⟨g,0,none⟩) (jC l).length cap)/\Hid (w'.ownsRow w.heap.size 21 1 (.slice (some ⟨g,0,none⟩) (jC l).length cap) (jC l).length (runeCells (jD (jC l))))/\Hid (Below w.heap.size w w'):=by
 have hlen:(l++fU l).length=l.length+(fU l).length:=List.length_append
 have HP:=hide (jZ w l (by omega) (bD ht))
 have HO:=hide (fun w1=>nK w1 l (by omega) ht)
 have Pd:=hide (fun w2=>jZ w2 (fU l) (by omega) (bD hot))
 have HLP:Hid (jC l=(l++fU l).map (·.1)):=rfl
 generalize jC l=LP at HLP ⊢
 generalize encS l=s at HP HO
 generalize encS (fU l)=s2 at HO Pd
 clear ht hot
 go_enter Tryz.func167,Tryz.ntmps167
 go_wp2_with (first
  | (go_at_call 161;refine (aa HP).mono ?_;clear HP;rintro e w1 ⟨v1,rfl,hrow,hb⟩;have HB1:=hide hb;have HR1:=hide hrow;clear hrow hb)
  | (go_at_call 156;refine (aa HO _).mono ?_;clear HO;rintro e w2 ⟨rfl,hb⟩;have HB2:=hide hb;clear hb)
  | (go_at_call 161;refine (aa Pd _).mono ?_;clear Pd;rintro e w3 ⟨v3,rfl,hrow,hb⟩;have HB3:=hide hb;have HR3:=hide hrow;clear hrow hb;have HR1':=hide (own_below (own_below (aa HR1) (aa HB2) (Nat.le_refl _)) (aa HB3) (Nat.le_refl _));have hs3:w.heap.size<=w3.heap.size:=Nat.le_trans (aa HB1).size (Nat.le_trans (aa HB2).size (aa HB3).size))
  | (at_builtin;refine Ku w.heap.size w2.heap.size w3 l (fU l) v1 v3 (.tmp 7) (.tmp 10) rfl rfl rfl rfl HR1' HR3 hs3 (by omega) ?_;intro ao4 n4 cap4 w4 yA ZQ))
 have kL:Hid (Below w.heap.size w w4):=by
  have b1:=aa HB1
  have b2:=b1.trans ((aa HB2).mono b1.size)
  have b3:=b2.trans ((aa HB3).mono b2.size)
  exact below_grown b3 (aa HR1') (aa ZQ) hs3
 have hN0:(l++fU l).length<=1800:=by omega
 generalize l++fU l=L at *
 obtain ⟨ao5,cap5,e5,hvw⟩:=aO (aa yA)
 injection e5 with e6 e7 e8
 subst e6
 subst e7
 subst e8
 have ML:=hide hvw
 clear hvw yA ZQ HR1' HR3 HR1 HB1 HB2 HB3 hs3 hlen
 go_loopw [3,13] (fun v i wr=>∃ (k:Nat) (av:Option Addr) (n cv:Nat),k<=L.length/\i=.int .i64 (k:Int)/\v=.slice av n cv/\Hid (n=k)/\Hid (wr.ownsRow w4.heap.size 21 1 (.slice av n cv) k (runeCells ((L.take k).map (·.1))))/\Hid (Below w4.heap.size w4 wr)) (fun _ i _=>L.length - (intOf i).toNat)
 case atStart=>exact ⟨0,none,0,0,Nat.zero_le _,rfl,rfl,rfl,World.ownsRow_nil _ _ _ _,Below.refl _ _⟩
 case round=>
  obtain ⟨k,av,n,cv,hk,rfl,rfl,HN,HOW,HB⟩:=hrel
  by_cases hlt:k<L.length
  ·obtain ⟨g,rfl,-,hg,hc,-⟩:=aa ML (by omega)
   have hget:=iZ L k hlt
   have c1:=hc (k*2) (by omega)
   have c2:=hc (k*2+1) (by omega)
   rw [hget.1,<-(aa HB).cell (p:=⟨g,k*2,none⟩) hg] at c1
   rw [hget.2,<-(aa HB).cell (p:=⟨g,k*2+1,none⟩) hg] at c2
   have Yo:=hide (show ((L.take (k+1)).map (·.1):List Int)=(L.take k).map (·.1)++[L[k].1] from by rw [List.take_succ_eq_append_getElem hlt,List.map_append];rfl)
   have HKL:=hide (show ((L.take k).map (·.1):List Int).length=k from by rw [List.length_map,List.length_take];omega)
   clear hget hc ML
   generalize L[k].1=lo at *
   generalize L[k].2=hi at *
   have HB':=hide ((aa HB).alloc (aa HB).size (.cells #[.int .i32 lo,.int .i32 hi] 248))
   have HO':=hide ((aa HOW).alloc (.cells #[.int .i32 lo,.int .i32 hi] 248))
   have q0:=Gj wr lo hi 0
   clear HB HOW
   have jJ:Hid ((wr.alloc (.cells #[.int .i32 lo,.int .i32 hi] 248)).ownsRow w4.heap.size 21 1 (.slice av n cv) ((L.take k).map (·.1)).length (runeCells ((L.take k).map (·.1)))):=by
    rw [aa HKL]
    exact HO'
   clear HO'
   generalize hTK:(L.take k).map (·.1)=TK at *
   have hTl:TK.length<=2000000:=by have:=aa HKL;omega
   go_wp2_with (at_builtin;refine V5 w4 (wr.alloc (.cells #[.int .i32 lo,.int .i32 hi] 248)) TK _ lo (.tmp 17) (.tmp 20) rfl rfl rfl (wr.heap.size+1) (by simp) rfl jJ HB' hTl ?_;intro TY oU w6 YT Rh)
   go_roundw
   case rel=>exact ⟨k+1,TY,_,oU,by omega,by go_num,rfl,(by show _=_;rw [aa HKL]),(by rw [aa Yo];rw [aa HKL] at YT ⊢;exact YT),Rh⟩
   case measure=>simp [intOf];omega
  ·obtain rfl:k=L.length:=by omega
   obtain rfl:n=L.length:=aa HN
   rw [List.take_length,<-aa HLP] at HOW
   have hLP:LP.length=L.length:=by rw [aa HLP,List.length_map]
   obtain ⟨ao7,afi,e7,hv7⟩:=aO (aa HOW)
   injection e7 with e8 e9 e10
   subst e8
   subst e10
   obtain ⟨g,rfl,hgb,SK,-,-⟩:=hv7 hpos
   have HS:=hide (Kt wr g L.length cv LP hLP hpos (by omega) (hide (fB (aa HOW) (Nat.zero_le _))))
   have hw4:w.heap.size<=w4.heap.size:=(aa kL).size
   clear ML HOW
   go_wp2_with (go_at_call 239;refine (aa HS).mono ?_;rintro e w7 ⟨rfl,CJ⟩;have hr7:=(aa CJ).1;have hg7:=(aa CJ).2)
   go_ret
   refine ⟨g,cv,by rw [hLP];rfl,?_,?_⟩
   ·rw [hLP]
    exact Nu hr7 (by omega)
   ·have hb:=(aa kL).trans ((aa HB).mono hw4)
    exact ⟨hg7.os.trans hb.os,hg7.tape.trans hb.tape,hg7.output.trans hb.output,Nat.le_trans hb.size hg7.size,fun k hk=>(hg7.block k (by have:=hb.size;omega) (fun e=>by injection e with e;omega)).trans (hb.block k hk)⟩
theorem SL {l:ah} (h:Tidy l):0<(l++fU l).length:=by
 have:=yw h
 unfold jC at this
 cases hq:l++fU l with
 | nil=>rw [hq] at this;cases this
 | cons x r=>simp
theorem Fu {l:List Int} {x:Int}:x∈jD l↔x∈l:=by unfold jD;exact List.mem_mergeSort
theorem yC (l:List Int):(jD l).length=l.length:=by unfold jD;exact List.length_mergeSort l
theorem Kw (l:List Int):(jD l).Pairwise (·<=·):=by
 have:=List.pairwise_mergeSort (le:=fun x y=>!Sort.ltInt y x) (fun a b c h1 h2=>by simp [Sort.ltInt] at *;omega) (fun a b=>by simp [Sort.ltInt];omega) l
 exact this.imp fun h=>by simpa [Sort.ltInt] using h
theorem Kz {l:List Int} (h:l.Nodup):(jD l).Nodup:=(List.mergeSort_perm l _).symm.nodup h
theorem Wj {l:List Int} (h:l.Nodup):(jD l).Pairwise (· < ·):=(List.Pairwise.and (Kw l) (Kz h)).imp fun ⟨h1,h2⟩=>by omega
theorem NB {l:ah} (h:Tidy l):(jC l).Nodup:=by
 have go:∀ {m:Int} {l:ah},fC m l->(l.map (·.1)).Nodup:=by
  intro m l
  induction l generalizing m with
  | nil=>intro _;simp
  | cons x r ih=>
   intro h
   obtain ⟨h1,h2,h3,h4,h5⟩:=h
   rw [List.map_cons]
   refine List.nodup_cons.2 ⟨fun q=>?_,ih h5⟩
   obtain ⟨y,hy,e⟩:=List.mem_map.1 q
   have:=fC.ge h5 (mq hy (Int.le_refl _) (bD h5 y hy).2.2)
   unfold kJ at this
   split at this<;>omega
 unfold jC
 rw [List.map_append]
 refine List.nodup_append.2 ⟨go h,go (dI h.pos),fun a ha b hb e=>?_⟩
 subst e
 obtain ⟨x,hx,e1⟩:=List.mem_map.1 ha
 obtain ⟨y,hy,e2⟩:=List.mem_map.1 hb
 have g1:=j5 h hx
 have g2:=j5 (dI h.pos) hy
 have i1:=mq hx (Int.le_refl _) g1.2.2
 have i2:=mq hy (Int.le_refl _) g2.2.2
 rw [e2,kK h.pos (by rw [<-e2];exact g2.1),<-e1,i1] at i2
 cases i2
theorem Wl {l:ah} (h:Tidy l):yx (.set l) (jD (jC l)):=⟨Wj (NB h),fun _=>Fu⟩
theorem ze (w:World) (B:List Int) (hB:B.length<=480) (l:ah) (ht:Tidy l) (hb:cu B l) :
  Calls Tryz.prog 167 #[.string (encS l)] w fun e w'=>∃ g cap dE,yx (.set l) dE/\0<dE.length/\e=.returned (.slice (some ⟨g,0,none⟩) dE.length cap)/\Hid (w'.ownsRow w.heap.size 21 1 (.slice (some ⟨g,0,none⟩) dE.length cap) dE.length (runeCells dE))/\Hid (Below w.heap.size w w'):=by
 have hf:=gz ht hb
 have hp:=SL ht
 refine (Kv w l (by omega) (by omega) ht (dI ht.pos) hp).mono ?_
 rintro e w' ⟨g,cap,rfl,h1,h2⟩
 have hlen:=yC (jC l)
 refine ⟨g,cap,jD (jC l),Wl ht,by rw [hlen,jC,List.length_map];exact hp,by rw [hlen],?_,h2⟩
 rw [hlen];exact h1
end Go.Proofs.YtfolanohokflkaaGreatDoor
namespace Go.Proofs.YtfolanohokflkaaGreatDoor
open Go.RowKit
open Tm (eps)
def iQ (w:World) (t:TB) (T:List Te) (C:List (Value×Value)):Prop:=
 (C.map (·.1)).Nodup/\∀ p∈C,∃ (n g cap:Nat) (dE:List Int) (y:Tm),p=(.int .i64 (n:Int),.slice (some ⟨g,0,none⟩) dE.length cap)/\n<=gH/\Rp T n y/\yx y dE/\kZ w t g cap dE
theorem iQ.move {w w':World} {t:TB} {T:List Te} {C:List (Value×Value)} (h:Hid (iQ w t T C)) (hm:∀ k,k<w.heap.size->¬ TF t k->w'.heap[k]? = w.heap[k]?):Hid (iQ w' t T C):=by
 refine ⟨(aa h).1,fun p hp=>?_⟩
 obtain ⟨n,g,cap,l,y,e,h1,h2,h2',h3⟩:=(aa h).2 p hp
 exact ⟨n,g,cap,l,y,e,h1,h2,h2',h3.move (hm g h3.lt h3.apart)⟩
theorem iQ.below {w w':World} {t:TB} {T:List Te} {C:List (Value×Value)} (h:Hid (iQ w t T C)) (hb:Below w.heap.size w w'):Hid (iQ w' t T C):=iQ.move h fun k hk _=>hb.block k hk
theorem iQ.fr {w w':World} {t t':TB} {T:List Te} {C:List (Value×Value)} (h:Hid (iQ w t T C)) (hf:Hid (bq t t' w w')):Hid (iQ w' t' T C):=by
 refine ⟨(aa h).1,fun p hp=>?_⟩
 obtain ⟨n,g,cap,l,y,e,h1,h2,h2',h3⟩:=(aa h).2 p hp
 have h4:=h3.move ((aa hf).block g h3.lt h3.apart)
 refine ⟨n,g,cap,l,y,e,h1,h2,h2',h4.own,fun hh=>?_⟩
 rcases (aa hf).foot hh with h5 | h5
 ·exact h3.apart h5
 ·have:=h3.lt;omega
theorem iQ.grow {w:World} {t:TB} {T X:List Te} {C:List (Value×Value)} (h:iQ w t T C):iQ w t (T++X) C:=by
 refine ⟨h.1,fun p hp=>?_⟩
 obtain ⟨n,g,cap,l,y,e,h1,h2,h2',h3⟩:=h.2 p hp
 exact ⟨n,g,cap,l,y,e,h1,h2.mono,h2',h3⟩
theorem iQ.keys {w:World} {t:TB} {T:List Te} {C:List (Value×Value)} (h:iQ w t T C):∀ p∈C,∃ x,keyOf Tryz.prog 3 p.1=some x:=fun p hp=>by
 obtain ⟨n,g,cap,l,y,e,h1,-⟩:=h.2 p hp
 rw [e]
 exact uP h1
theorem iQ.add {w:World} {t:TB} {T:List Te} {C:List (Value×Value)} {n g cap:Nat} {dE:List Int} {y:Tm} (h:iQ w t T C) (hn:n<=gH) (hy:Rp T n y) (hcl:yx y dE) (hr:kZ w t g cap dE) (hm:∀ p∈C,p.1≠.int .i64 (n:Int)):iQ w t T (C++[(.int .i64 (n:Int),.slice (some ⟨g,0,none⟩) dE.length cap)]):=by
 refine ⟨?_,fun p hp=>?_⟩
 ·rw [List.map_append]
  refine List.nodup_append.2 ⟨h.1,by simp,fun a ha c hc e=>?_⟩
  obtain ⟨p,hp,rfl⟩:=List.mem_map.1 ha
  simp at hc
  exact hm p hp (e.trans hc)
 ·rcases List.mem_append.1 hp with hp | hp
  ·exact h.2 p hp
  ·rw [List.mem_singleton] at hp
   exact ⟨n,g,cap,dE,y,hp,hn,hy,hcl,hr⟩
def Av (P:Nat->Prop) (C:List (Value×Value)):Prop:=∀ p∈C,∀ g n c,p.2=.slice (some ⟨g,0,none⟩) n c->¬ P g
def mP (y:Tm) (w:World) (t:TB) (T:List Te) (S C:List (Value×Value)) (ok:Nat->Prop) (e:Ending) (w':World):Prop:=
 ∃ (dE:List Int) (g cap:Nat) (C':List (Value×Value)),e=.returned (.slice (some ⟨g,0,none⟩) dE.length cap)/\yx y dE/\Hid (kZ w' t g cap dE)/\Hid (bf w' t T (ak T) S C')/\Hid (iQ w' t T C')/\Hid (bq t t w w')/\(∀ p∈C',p∈C\/∃ i,ok i/\p.1=.int .i64 ((i:Nat):Int))/\∀ P:Nat->Prop,(∀ k,P k->k<w.heap.size)->Av P C->Av P C'/\¬ P g
def adN (y:Tm) (T:List Te) (n:Nat) (t:TB) (S C:List (Value×Value)) (k:Ky) (f:Nat):Prop:=∀ W:World,Hid (bf W t T (ak T) S C)->Hid (iQ W t T C)->Calls Tryz.prog f #[.pointer (some ⟨t.tb,0,none⟩),iL k] W (mP y W t T S C (fun i=>i<n))
section
variable {w:World} {t:TB} {T:List Te} {N S C:List (Value×Value)} {k:Ky} {B:List Int}
set_option maxRecDepth 100000 in
set_option maxHeartbeats 4000000 in
theorem ach {l:ah} (h:Hid (bf w t T (ak T) S C)) (hc:Hid (iQ w t T C)) (hB:B.length<=480) (ht:Tidy l) (hb:cu B l) (ok:Nat->Prop) :
  Calls Tryz.prog 166 #[.pointer (some ⟨t.tb,0,none⟩),iL (kD (encS l))] w (mP (.set l) w t T S C ok):=by
 have HBD:=hide (ze (w.alloc (.cells #[.int .i64 0,.string (encS l),.int .i64 0,.int .i64 0] 135)) B hB l ht hb)
 unfold iL kD
 dsimp only
 have hsz:w.heap.size<(w.alloc (.cells #[.int .i64 0,.string (encS l),.int .i64 0,.int .i64 0] 135)).heap.size:=by simp
 have HA:Hid (Below w.heap.size w (w.alloc (.cells #[.int .i64 0,.string (encS l),.int .i64 0,.int .i64 0] 135))):=(Below.refl _ _).alloc (Nat.le_refl _) _
 clear ht hb
 generalize encS l=es at *
 go_enter Tryz.func166,Tryz.ntmps166
 go_wp2_with (go_at_call 167;refine (aa HBD).mono ?_;clear HBD;rintro e w2 ⟨g,cap,dE,hcl,hpos,rfl,HO,HB⟩)
 go_ret
 have hb2:Below w.heap.size w w2:=(aa HA).trans ((aa HB).mono (by omega))
 have hgb:=((aa HO).lt g rfl).1
 have hnot:¬ TF t g:=bf.eF h (by omega)
 exact ⟨dE,g,cap,C,rfl,hcl,⟨fB (aa HO) (Nat.zero_le _),hnot⟩,bf.below h hb2,iQ.below hc hb2,bq.below hb2,fun p hp=>.inl hp,fun P hP hA=>⟨hA,fun q=>by have:=hP g q;omega⟩⟩
theorem ZZ (c:Int):sI (.set []) c↔sI eps c:=by
 have h0:0∈jC []:=yw (l:=[]) trivial
 constructor
 ·intro h
  have hs:=sJ (l:=[]) trivial h
  by_cases hc:c=0
  ·exact hc
  ·obtain ⟨b,hb,_⟩:=oL (B:=[]) (l:=[]) trivial (gT _) h hc
   cases hb
 ·intro h
  have:c=0:=h
  rw [this];exact h0
set_option maxRecDepth 100000 in
set_option maxHeartbeats 4000000 in
theorem Wm (h:Hid (bf w t T (ak T) S C)) (hc:Hid (iQ w t T C)) (ok:Nat->Prop) :
  Calls Tryz.prog 170 #[.pointer (some ⟨t.tb,0,none⟩),iL vK] w (mP eps w t T S C ok):=by
 have HBD:=hide (ze (w.alloc (.cells #[.int .i64 1,.string ⟨#[]⟩,.int .i64 0,.int .i64 0] 135)) [] (by simp) [] trivial (gT _))
 rw [show encS []=⟨#[]⟩ from rfl] at HBD
 unfold iL vK
 dsimp only
 have hsz:w.heap.size<(w.alloc (.cells #[.int .i64 1,.string ⟨#[]⟩,.int .i64 0,.int .i64 0] 135)).heap.size:=by simp
 have HA:Hid (Below w.heap.size w (w.alloc (.cells #[.int .i64 1,.string ⟨#[]⟩,.int .i64 0,.int .i64 0] 135))):=(Below.refl _ _).alloc (Nat.le_refl _) _
 go_enter Tryz.func170,Tryz.ntmps170
 go_wp2_with (go_at_call 167;refine (aa HBD).mono ?_;clear HBD;rintro e w2 ⟨g,cap,dE,hcl,hpos,rfl,HO,HB⟩)
 go_ret
 have hb2:Below w.heap.size w w2:=(aa HA).trans ((aa HB).mono (by omega))
 have hgb:=((aa HO).lt g rfl).1
 have hnot:¬ TF t g:=bf.eF h (by omega)
 exact ⟨dE,g,cap,C,rfl,⟨hcl.rise,fun c=>(hcl.mem c).trans (ZZ c)⟩,⟨fB (aa HO) (Nat.zero_le _),hnot⟩,bf.below h hb2,iQ.below hc hb2,bq.below hb2,fun p hp=>.inl hp,fun P hP hA=>⟨hA,fun q=>by have:=hP g q;omega⟩⟩
set_option maxRecDepth 100000 in
set_option maxHeartbeats 4000000 in
theorem jv {n m f:Nat} {b:Bool} {y:Tm} (hy:Rp T n y) (h:Hid (bf w t T (ak T) S C)) (hc:Hid (iQ w t T C)) (hx:T[n]? = some (k,b)) (hn:n<=gH) (hkd:k.kd=(m:Int)) (hm7:m<7) (hcell:dY[m*3+2]? = some (fv f))
  (hcf:∀ (args:Array Value) (w:World),(callFunc f args).run Tryz.prog w=.ok (.enter f args) w) (HF:Hid (adN y T n t S C k f)) :
  Calls Tryz.prog 125 #[.pointer (some ⟨t.tb,0,none⟩),.int .i64 n] w (mP y w t T S C (fun i=>i<=n)):=by
 obtain ⟨q1,q2,q3,q4⟩:=(aa h).cells
 by_cases hit:∃ p∈C,p.1=.int .i64 (n:Int)
 ·obtain ⟨p,hp,hpn⟩:=hit
  obtain ⟨n',g,cap,dE,y',e,h1,h2,h2',h3⟩:=(aa hc).2 p hp
  have hnn:n'=n:=by
   rw [e] at hpn
   injection hpn with _ hpn
   omega
  subst hnn
  rw [h2.uniq hy] at h2'
  obtain ⟨j,hj⟩:=List.mem_iff_getElem?.1 hp
  rw [e] at hj
  have hlk:=vN rH Tryz.underlying128 (aa h).cb (aa hc).keys (uP hn) (aa hc).1 hj
  have HE:Hid (mP y w t T S C (fun i=>i<=n') (.returned (.slice (some ⟨g,0,none⟩) dE.length cap)) w):=⟨dE,g,cap,C,rfl,h2',h3,h,hc,bq.refl _ _,fun p hp=>.inl hp,fun P hP hA=>⟨hA,hA p hp g _ _ (by rw [e])⟩⟩
  clear h hc hx hkd hcell hcf HF h1 h2 h2' h3 e hp hpn hy
  go_enter Tryz.func125,Tryz.ntmps125
  go_wp2_with fail
  go_ret
  exact aa HE
 ·have hmiss:∀ p∈C,p.1≠.int .i64 (n:Int):=fun p hp e=>hit ⟨p,hp,e⟩
  have hlk:=tF rH Tryz.underlying128 (aa h).cb (aa hc).keys (uP hn) hmiss (z:=.slice none 0 0) (by simp [go_sem])
  obtain ⟨gt,q5,a0,a1,a2,a3,-⟩:=(aa h).at hx
  rw [hkd] at a0
  have hlt:n<T.length:=(List.getElem?_eq_some_iff.1 hx).1
  have hnI:(n:Int)<(T.length:Int):=by omega
  have hn0:(0:Int)<=(n:Int):=by omega
  have hm0:(0:Int)<=(m:Int):=by omega
  have YX:(m:Int)<7:=by omega
  obtain ⟨kd,st,fi,se⟩:=k
  dsimp only at hkd a0 a1 a2 a3
  subst hkd
  have HA:=bf.alloc h (.cells #[.int .i64 m,.string st,.int .i64 fi,.int .i64 se] 135)
  have uu:Hid (bq t t w (w.alloc (.cells #[.int .i64 m,.string st,.int .i64 fi,.int .i64 se] 135))):=bq.below ((Below.refl _ _).alloc (Nat.le_refl _) _)
  have ql:=iQ.move (w':=w.alloc (.cells #[.int .i64 m,.string st,.int .i64 fi,.int .i64 se] 135)) hc (fun k hk _=>Below.heap_alloc w _ k hk)
  have PW:=hide (fun q=>aa HF _ (hide ((aa HA).drew q)) (iQ.move (w':=(w.alloc (.cells #[.int .i64 m,.string st,.int .i64 fi,.int .i64 se] 135)).drewN q) ql (fun _ _ _=>rfl)))
  unfold iL at PW
  dsimp only at PW
  have DK:=hide (heap_alloc_new w (.cells #[.int .i64 m,.string st,.int .i64 fi,.int .i64 se] 135))
  have hnot:¬ TF t w.heap.size:=bf.eF h (Nat.le_refl _)
  have rz:w.heap.size<(w.alloc (.cells #[.int .i64 m,.string st,.int .i64 fi,.int .i64 se] 135)).heap.size:=by simp
  have qk:=(aa HA).kind hcell
  have KA:=hide hcell
  have HY:=hide hy
  clear h hc hx hy HF ql hit hcell hm7 q2
  go_enter Tryz.func125,Tryz.ntmps125
  go_wp2_with fail
  generalize w.alloc (.cells #[.int .i64 m,.string st,.int .i64 fi,.int .i64 se] 135)=Wk at *
  obtain ⟨k0,k1,k2,k3⟩:=bQ (aa DK)
  clear q1 q3 q4 q5 a0 a1 a2 a3 hlk HA
  generalize hkb:w.heap.size=kb at *
  go_region_held3 (fun w'=>w'.cell? ⟨kb,0,none⟩=some (.int .i64 m)/\w'.cell? ⟨kb,1,none⟩=some (.string st)/\w'.cell? ⟨kb,2,none⟩=some (.int .i64 fi)/\w'.cell? ⟨kb,3,none⟩=some (.int .i64 se)/\w'.cell? ⟨t.tb,m*3+2,none⟩=some (fv f)) (go_keep)
   ((refine Calls.mono (aa PW 1) ?_;clear PW;rintro x w2 ⟨dE,g2,cap2,C2,rfl,hcl,KD,HT2,xK,uM,hk2,MM⟩;obtain ⟨r0,r1,r2,r3⟩:=bQ (bq.own uM rz hnot (aa DK));have rk:=(aa HT2).kind (aa KA);obtain ⟨p1,p2,p3,p4⟩:=(aa HT2).cells))
  have NC:∀ p∈C2,p.1≠.int .i64 (n:Int):=fun p hp e=>by
   rcases hk2 p hp with h1 | ⟨i,hi,h1⟩
   ·exact hmiss p h1 e
   ·rw [h1] at e
    injection e with _ e
    omega
  have hup:=vO rH Tryz.underlying128 (aa HT2).cb (aa xK).keys (uP hn) NC (.slice (some ⟨g2,0,none⟩) dE.length cap2)
  have HT3:=hide ((aa HT2).ZU (C2++[(.int .i64 (n:Int),.slice (some ⟨g2,0,none⟩) dE.length cap2)]))
  have aci:TF t t.cb:=.inr (.inr (.inr (.inl rfl)))
  have NA:Hid (iQ (ChangeMaps.setBlock w2 t.cb (mkMap (C2++[(.int .i64 (n:Int),.slice (some ⟨g2,0,none⟩) dE.length cap2)]))) t T (C2++[(.int .i64 (n:Int),.slice (some ⟨g2,0,none⟩) dE.length cap2)])):=by
   refine iQ.move (hide ((aa xK).add hn (aa HY) hcl (aa KD) NC)) fun k hk hf=>bW (fun e=>hf (by rw [e];exact aci))
  have HR3:Hid (kZ (ChangeMaps.setBlock w2 t.cb (mkMap (C2++[(.int .i64 (n:Int),.slice (some ⟨g2,0,none⟩) dE.length cap2)]))) t g2 cap2 dE):=(aa KD).move (bW (fun e=>(aa KD).apart (by rw [e];exact aci)))
  have hf2:=aa uM
  have vw:Hid (bq t t w (ChangeMaps.setBlock w2 t.cb (mkMap (C2++[(.int .i64 (n:Int),.slice (some ⟨g2,0,none⟩) dE.length cap2)])))):=bq.set ((aa uu).trans ⟨hf2.os,hf2.tape,hf2.output,hf2.size,hf2.block,hf2.tb,hf2.nb,hf2.sb,hf2.cb,hf2.row⟩) aci _
  have Z0:Hid (∀ p∈C2++[(.int .i64 (n:Int),Value.slice (some ⟨g2,0,none⟩) dE.length cap2)],p∈C\/∃ i,i<=n/\p.1=.int .i64 ((i:Nat):Int)):=fun p hp=>by
   rcases List.mem_append.1 hp with hp | hp
   ·rcases hk2 p hp with h1 | ⟨i,hi,h1⟩
    ·exact .inl h1
    ·exact .inr ⟨i,by omega,h1⟩
   ·rw [List.mem_singleton] at hp
    exact .inr ⟨n,Nat.le_refl _,by rw [hp]⟩
  have HAV:Hid (∀ P:Nat->Prop,(∀ k,P k->k<kb)->Av P C->Av P (C2++[(.int .i64 (n:Int),Value.slice (some ⟨g2,0,none⟩) dE.length cap2)])/\¬ P g2):=fun P hP hA=>by
   obtain ⟨q1,q2⟩:=MM P (fun k hk=>Nat.lt_trans (hP k hk) rz) hA
   refine ⟨fun p hp g' n' c' e=>?_,q2⟩
   rcases List.mem_append.1 hp with hp | hp
   ·exact q1 p hp g' n' c' e
   ·rw [List.mem_singleton] at hp
    rw [hp] at e
    injection e with e1
    injection e1 with e1
    injection e1 with e1
    rw [<-e1];exact q2
  have zJ:=hide hcl
  clear MM hmiss NC hk2 hf2 hcl xK KD HT2 uM DK r0 r1 r2 r3 rk
  go_wp2_with fail
  go_ret
  exact ⟨dE,g2,cap2,_,rfl,aa zJ,HR3,HT3,NA,vw,aa Z0,by rw [hkb];exact aa HAV⟩
end
end Go.Proofs.YtfolanohokflkaaGreatDoor
