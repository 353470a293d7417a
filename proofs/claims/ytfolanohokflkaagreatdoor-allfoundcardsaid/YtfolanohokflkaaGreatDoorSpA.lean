import Derived.Test.YtfolanohokflkaaGreatDoorApA
import Derived.Test.YtfolanohokflkaaGreatDoorOnlA
import Derived.Test.YtfolanohokflkaaGreatDoorSoM
import Derived.Test.YtfolanohokflkaaGreatDoorRpG
import Derived.WalkKit
import Derived.WalkSpells
import Derived.WalkLawsBesides
import Derived.WalkMore
import Derived.Deep.QuietTactic
import Derived.BigQuiet
import Derived.BigRegion
import Derived.Deep.RegionHeld3
import Derived.Test.YtfolanohokflkaaGreatDoorProC
namespace Go.Proofs.YtfolanohokflkaaGreatDoor
open Go.RowKit
theorem abJ (q:List (Int×Int)):∀ u∈aJ q,u.oneCell'=true:=by
 induction q with
 | nil=>intro u hu;simp [aJ] at hu
 | cons y q ih=>intro u hu;simp only [aJ,List.mem_cons] at hu;rcases hu with rfl | rfl | hu;rfl;rfl;exact ih u hu
theorem JZ {ops:Array Oper} {rest:List Oper} {o:Oper} {a:Act} {Q:Exit->Act->World->Prop} (B B':Nat) (wr:World) (zs p:List (Int×Int)) (v x:Value) (so xo:Operand) (hg:o.guard=none)
  (hop:o.op=.call { callee:=.builtin .append,args:=#[so,xo],argTypes:=#[237,237] }) (hs:a.eval so=v) (hx:a.eval xo=x)
  (ho:Hid (wr.ownsRow B 248 2 v zs.length (aJ zs))) (ho2:Hid (wr.ownsRow B' 248 2 x p.length (aJ p))) (hB:B<=wr.heap.size) (hl:zs.length+p.length<=2000000)
  (K:∀ ao n cap w',Hid (w'.ownsRow B 248 2 (.slice ao n cap) (zs++p).length (aJ (zs++p)))->Hid (wr.grownBy w' v.ownBlock)->wpList Tryz.prog ops Q rest (a.put o.dst (.slice ao n cap)) w') :
  wpList Tryz.prog ops Q (o::rest) a wr:=by
 obtain ⟨i0,hi0,hz0,hz1,hz2⟩:=info_parts oZ
 refine Jo hg so xo 237 hop B B' 248 i0 (.agg #[.int .i32 0,.int .i32 0]) 2 8 Tryz.underlying237 hi0 hz0 hz1 hz2 rfl (by decide) v x _ _ _ _ hs hx (aa ho) (aa ho2) (abJ p) (by unfold maxLen;omega) (by omega) hB ?_
 intro v' w' h1 h2
 have h3:w'.ownsRow B 248 2 v' (zs++p).length (aJ (zs++p)):=by
  rw [iJ,List.length_append];exact h1
 obtain ⟨ao,cap,rfl,-⟩:=aN h3
 exact K ao _ cap w' h3 h2
set_option maxRecDepth 100000 in
set_option maxHeartbeats 4000000 in
theorem J2 (w:World) (l:af) (hl:l.length<=900) (hl2:(fE l).length<=900) (ht:Tidy l) (hot:Tidy (fE l)) (hpos:0<(l++fE l).length) :
  Calls Tryz.prog 167 #[.string (encS l)] w fun e w'=>∃ g cap,e=.returned (.slice (some ⟨g,0,none⟩) (jk l).length cap)/\Hid (w'.ownsRow w.heap.size 21 1 (.slice (some ⟨g,0,none⟩) (jk l).length cap) (jk l).length (runeCells (ji (jk l))))/\Hid (Below w.heap.size w w'):=by
 have hlen:(l++fE l).length=l.length+(fE l).length:=List.length_append
 have HP:=hide (jM w l (by omega) (bA ht))
 have HO:=hide (fun w1=>nk w1 l (by omega) ht)
 have OT:=hide (fun w2=>jM w2 (fE l) (by omega) (bA hot))
 have HLP:Hid (jk l=(l++fE l).map (·.1)):=rfl
 generalize jk l=LP at HLP ⊢
 generalize encS l=s at HP HO
 generalize encS (fE l)=s2 at HO OT
 clear ht hot
 go_enter Tryz.func167,Tryz.ntmps167
 go_wp2_with (first
  | (go_at_call 161;refine (aa HP).mono ?_;clear HP;rintro e w1 ⟨v1,rfl,hrow,hb⟩;have HB1:=hide hb;have HR1:=hide hrow;clear hrow hb)
  | (go_at_call 156;refine (aa HO _).mono ?_;clear HO;rintro e w2 ⟨rfl,hb⟩;have HB2:=hide hb;clear hb)
  | (go_at_call 161;refine (aa OT _).mono ?_;clear OT;rintro e w3 ⟨v3,rfl,hrow,hb⟩;have HB3:=hide hb;have HR3:=hide hrow;clear hrow hb;have HR1':=hide (own_below (own_below (aa HR1) (aa HB2) (Nat.le_refl _)) (aa HB3) (Nat.le_refl _));have hs3:w.heap.size<=w3.heap.size:=Nat.le_trans (aa HB1).size (Nat.le_trans (aa HB2).size (aa HB3).size))
  | (at_builtin;refine JZ w.heap.size w2.heap.size w3 l (fE l) v1 v3 (.tmp 7) (.tmp 10) rfl rfl rfl rfl HR1' HR3 hs3 (by omega) ?_;intro ao4 n4 cap4 w4 z8 YJ))
 have qh:Hid (Below w.heap.size w w4):=by
  have b1:=aa HB1
  have b2:=b1.trans ((aa HB2).mono b1.size)
  have b3:=b2.trans ((aa HB3).mono b2.size)
  exact below_grown b3 (aa HR1') (aa YJ) hs3
 have hN0:(l++fE l).length<=1800:=by omega
 generalize l++fE l=L at *
 obtain ⟨ao5,cap5,e5,hvw⟩:=aN (aa z8)
 injection e5 with e6 e7 e8
 subst e6
 subst e7
 subst e8
 have Mw:=hide hvw
 clear hvw z8 YJ HR1' HR3 HR1 HB1 HB2 HB3 hs3 hlen
 go_loopw [3,13] (fun v i wr=>∃ (k:Nat) (av:Option Addr) (n cv:Nat),k<=L.length/\i=.int .i64 (k:Int)/\v=.slice av n cv/\Hid (n=k)/\Hid (wr.ownsRow w4.heap.size 21 1 (.slice av n cv) k (runeCells ((L.take k).map (·.1))))/\Hid (Below w4.heap.size w4 wr)) (fun _ i _=>L.length - (intOf i).toNat)
 case atStart=>exact ⟨0,none,0,0,Nat.zero_le _,rfl,rfl,rfl,World.ownsRow_nil _ _ _ _,Below.refl _ _⟩
 case round=>
  obtain ⟨k,av,n,cv,hk,rfl,rfl,HN,HOW,HB⟩:=hrel
  by_cases hlt:k<L.length
  ·obtain ⟨g,rfl,-,hg,hc,-⟩:=aa Mw (by omega)
   have hget:=iO L k hlt
   have c1:=hc (k*2) (by omega)
   have c2:=hc (k*2+1) (by omega)
   rw [hget.1,<-(aa HB).cell (p:=⟨g,k*2,none⟩) hg] at c1
   rw [hget.2,<-(aa HB).cell (p:=⟨g,k*2+1,none⟩) hg] at c2
   have RX:=hide (show ((L.take (k+1)).map (·.1):List Int)=(L.take k).map (·.1)++[L[k].1] from by rw [List.take_succ_eq_append_getElem hlt,List.map_append];rfl)
   have HKL:=hide (show ((L.take k).map (·.1):List Int).length=k from by rw [List.length_map,List.length_take];omega)
   clear hget hc Mw
   generalize L[k].1=lo at *
   generalize L[k].2=hi at *
   have HB':=hide ((aa HB).alloc (aa HB).size (.cells #[.int .i32 lo,.int .i32 hi] 248))
   have HO':=hide ((aa HOW).alloc (.cells #[.int .i32 lo,.int .i32 hi] 248))
   have q0:=Ga wr lo hi 0
   clear HB HOW
   have jh:Hid ((wr.alloc (.cells #[.int .i32 lo,.int .i32 hi] 248)).ownsRow w4.heap.size 21 1 (.slice av n cv) ((L.take k).map (·.1)).length (runeCells ((L.take k).map (·.1)))):=by
    rw [aa HKL]
    exact HO'
   clear HO'
   generalize hTK:(L.take k).map (·.1)=TK at *
   have hTl:TK.length<=2000000:=by have:=aa HKL;omega
   go_wp2_with (at_builtin;refine UM w4 (wr.alloc (.cells #[.int .i32 lo,.int .i32 hi] 248)) TK _ lo (.tmp 17) (.tmp 20) rfl rfl rfl (wr.heap.size+1) (by simp) rfl jh HB' hTl ?_;intro Tt pq w6 Mg Dz)
   go_roundw
   case rel=>exact ⟨k+1,Tt,_,pq,by omega,by go_num,rfl,(by show _=_;rw [aa HKL]),(by rw [aa RX];rw [aa HKL] at Mg ⊢;exact Mg),Dz⟩
   case measure=>simp [intOf];omega
  ·obtain rfl:k=L.length:=by omega
   obtain rfl:n=L.length:=aa HN
   rw [List.take_length,<-aa HLP] at HOW
   have hLP:LP.length=L.length:=by rw [aa HLP,List.length_map]
   obtain ⟨ao7,ae3,e7,hv7⟩:=aN (aa HOW)
   injection e7 with e8 e9 e10
   subst e8
   subst e10
   obtain ⟨g,rfl,hgb,RY,-,-⟩:=hv7 hpos
   have HS:=hide (Jv wr g L.length cv LP hLP hpos (by omega) (hide (dU (aa HOW) (Nat.zero_le _))))
   have hw4:w.heap.size<=w4.heap.size:=(aa qh).size
   clear Mw HOW
   go_wp2_with (go_at_call 239;refine (aa HS).mono ?_;rintro e w7 ⟨rfl,BV⟩;have hr7:=(aa BV).1;have hg7:=(aa BV).2)
   go_ret
   refine ⟨g,cv,by rw [hLP];rfl,?_,?_⟩
   ·rw [hLP]
    exact MS hr7 (by omega)
   ·have hb:=(aa qh).trans ((aa HB).mono hw4)
    exact ⟨hg7.os.trans hb.os,hg7.tape.trans hb.tape,hg7.output.trans hb.output,Nat.le_trans hb.size hg7.size,fun k hk=>(hg7.block k (by have:=hb.size;omega) (fun e=>by injection e with e;omega)).trans (hb.block k hk)⟩
theorem RZ {l:af} (h:Tidy l):0<(l++fE l).length:=by
 have:=yo h
 unfold jk at this
 cases hq:l++fE l with
 | nil=>rw [hq] at this;cases this
 | cons x r=>simp
theorem E8 {l:List Int} {x:Int}:x∈ji l↔x∈l:=by unfold ji;exact List.mem_mergeSort
theorem yu (l:List Int):(ji l).length=l.length:=by unfold ji;exact List.length_mergeSort l
theorem J3 (l:List Int):(ji l).Pairwise (·<=·):=by
 have:=List.pairwise_mergeSort (le:=fun x y=>!Sort.ltInt y x) (fun a b c h1 h2=>by simp [Sort.ltInt] at *;omega) (fun a b=>by simp [Sort.ltInt];omega) l
 exact this.imp fun h=>by simpa [Sort.ltInt] using h
theorem J4 {l:List Int} (h:l.Nodup):(ji l).Nodup:=(List.mergeSort_perm l _).symm.nodup h
theorem Vz {l:List Int} (h:l.Nodup):(ji l).Pairwise (· < ·):=(List.Pairwise.and (J3 l) (J4 h)).imp fun ⟨h1,h2⟩=>by omega
theorem Nf {l:af} (h:Tidy l):(jk l).Nodup:=by
 have go:∀ {m:Int} {l:af},eD m l->(l.map (·.1)).Nodup:=by
  intro m l
  induction l generalizing m with
  | nil=>intro _;simp
  | cons x r ih=>
   intro h
   obtain ⟨h1,h2,h3,h4,h5⟩:=h
   rw [List.map_cons]
   refine List.nodup_cons.2 ⟨fun q=>?_,ih h5⟩
   obtain ⟨y,hy,e⟩:=List.mem_map.1 q
   have:=eD.ge h5 (l9 hy (Int.le_refl _) (bA h5 y hy).2.2)
   unfold kD at this
   split at this<;>omega
 unfold jk
 rw [List.map_append]
 refine List.nodup_append.2 ⟨go h,go (dC h.pos),fun a ha b hb e=>?_⟩
 subst e
 obtain ⟨x,hx,e1⟩:=List.mem_map.1 ha
 obtain ⟨y,hy,e2⟩:=List.mem_map.1 hb
 have g1:=jR h hx
 have g2:=jR (dC h.pos) hy
 have i1:=l9 hx (Int.le_refl _) g1.2.2
 have i2:=l9 hy (Int.le_refl _) g2.2.2
 rw [e2,kE h.pos (by rw [<-e2];exact g2.1),<-e1,i1] at i2
 cases i2
theorem VA {l:af} (h:Tidy l):yt (.set l) (ji (jk l)):=⟨Vz (Nf h),fun _=>E8⟩
theorem za (w:World) (B:List Int) (hB:B.length<=480) (l:af) (ht:Tidy l) (hb:bU B l) :
  Calls Tryz.prog 167 #[.string (encS l)] w fun e w'=>∃ g cap dn,yt (.set l) dn/\0<dn.length/\e=.returned (.slice (some ⟨g,0,none⟩) dn.length cap)/\Hid (w'.ownsRow w.heap.size 21 1 (.slice (some ⟨g,0,none⟩) dn.length cap) dn.length (runeCells dn))/\Hid (Below w.heap.size w w'):=by
 have hf:=fQ ht hb
 have hp:=RZ ht
 refine (J2 w l (by omega) (by omega) ht (dC ht.pos) hp).mono ?_
 rintro e w' ⟨g,cap,rfl,h1,h2⟩
 have hlen:=yu (jk l)
 refine ⟨g,cap,ji (jk l),VA ht,by rw [hlen,jk,List.length_map];exact hp,by rw [hlen],?_,h2⟩
 rw [hlen];exact h1
end Go.Proofs.YtfolanohokflkaaGreatDoor
namespace Go.Proofs.YtfolanohokflkaaGreatDoor
open Go.RowKit
open Tm (eps)
def iC (w:World) (t:TB) (T:List Te) (C:List (Value×Value)):Prop:=
 (C.map (·.1)).Nodup/\∀ p∈C,∃ (n g cap:Nat) (dn:List Int) (y:Tm),p=(.int .i64 (n:Int),.slice (some ⟨g,0,none⟩) dn.length cap)/\n<=fU/\Rp T n y/\yt y dn/\kU w t g cap dn
theorem iC.move {w w':World} {t:TB} {T:List Te} {C:List (Value×Value)} (h:Hid (iC w t T C)) (hm:∀ k,k<w.heap.size->¬ TF t k->w'.heap[k]? = w.heap[k]?):Hid (iC w' t T C):=by
 refine ⟨(aa h).1,fun p hp=>?_⟩
 obtain ⟨n,g,cap,l,y,e,h1,h2,h2',h3⟩:=(aa h).2 p hp
 exact ⟨n,g,cap,l,y,e,h1,h2,h2',h3.move (hm g h3.lt h3.apart)⟩
theorem iC.below {w w':World} {t:TB} {T:List Te} {C:List (Value×Value)} (h:Hid (iC w t T C)) (hb:Below w.heap.size w w'):Hid (iC w' t T C):=iC.move h fun k hk _=>hb.block k hk
theorem iC.fr {w w':World} {t t':TB} {T:List Te} {C:List (Value×Value)} (h:Hid (iC w t T C)) (hf:Hid (a_ t t' w w')):Hid (iC w' t' T C):=by
 refine ⟨(aa h).1,fun p hp=>?_⟩
 obtain ⟨n,g,cap,l,y,e,h1,h2,h2',h3⟩:=(aa h).2 p hp
 have h4:=h3.move ((aa hf).block g h3.lt h3.apart)
 refine ⟨n,g,cap,l,y,e,h1,h2,h2',h4.own,fun hh=>?_⟩
 rcases (aa hf).foot hh with h5 | h5
 ·exact h3.apart h5
 ·have:=h3.lt;omega
theorem iC.grow {w:World} {t:TB} {T X:List Te} {C:List (Value×Value)} (h:iC w t T C):iC w t (T++X) C:=by
 refine ⟨h.1,fun p hp=>?_⟩
 obtain ⟨n,g,cap,l,y,e,h1,h2,h2',h3⟩:=h.2 p hp
 exact ⟨n,g,cap,l,y,e,h1,h2.mono,h2',h3⟩
theorem iC.keys {w:World} {t:TB} {T:List Te} {C:List (Value×Value)} (h:iC w t T C):∀ p∈C,∃ x,keyOf Tryz.prog 3 p.1=some x:=fun p hp=>by
 obtain ⟨n,g,cap,l,y,e,h1,-⟩:=h.2 p hp
 rw [e]
 exact uH h1
theorem iC.add {w:World} {t:TB} {T:List Te} {C:List (Value×Value)} {n g cap:Nat} {dn:List Int} {y:Tm} (h:iC w t T C) (hn:n<=fU) (hy:Rp T n y) (hcl:yt y dn) (hr:kU w t g cap dn) (hm:∀ p∈C,p.1≠.int .i64 (n:Int)):iC w t T (C++[(.int .i64 (n:Int),.slice (some ⟨g,0,none⟩) dn.length cap)]):=by
 refine ⟨?_,fun p hp=>?_⟩
 ·rw [List.map_append]
  refine List.nodup_append.2 ⟨h.1,by simp,fun a ha c hc e=>?_⟩
  obtain ⟨p,hp,rfl⟩:=List.mem_map.1 ha
  simp at hc
  exact hm p hp (e.trans hc)
 ·rcases List.mem_append.1 hp with hp | hp
  ·exact h.2 p hp
  ·rw [List.mem_singleton] at hp
   exact ⟨n,g,cap,dn,y,hp,hn,hy,hcl,hr⟩
def Av (P:Nat->Prop) (C:List (Value×Value)):Prop:=∀ p∈C,∀ g n c,p.2=.slice (some ⟨g,0,none⟩) n c->¬ P g
def mG (y:Tm) (w:World) (t:TB) (T:List Te) (S C:List (Value×Value)) (ok:Nat->Prop) (e:Ending) (w':World):Prop:=
 ∃ (dn:List Int) (g cap:Nat) (C':List (Value×Value)),e=.returned (.slice (some ⟨g,0,none⟩) dn.length cap)/\yt y dn/\Hid (kU w' t g cap dn)/\Hid (aX w' t T (ak T) S C')/\Hid (iC w' t T C')/\Hid (a_ t t w w')/\(∀ p∈C',p∈C\/∃ i,ok i/\p.1=.int .i64 ((i:Nat):Int))/\∀ P:Nat->Prop,(∀ k,P k->k<w.heap.size)->Av P C->Av P C'/\¬ P g
def adr (y:Tm) (T:List Te) (n:Nat) (t:TB) (S C:List (Value×Value)) (k:Ky) (f:Nat):Prop:=∀ W:World,Hid (aX W t T (ak T) S C)->Hid (iC W t T C)->Calls Tryz.prog f #[.pointer (some ⟨t.tb,0,none⟩),iD k] W (mG y W t T S C (fun i=>i<n))
section
variable {w:World} {t:TB} {T:List Te} {N S C:List (Value×Value)} {k:Ky} {B:List Int}
set_option maxRecDepth 100000 in
set_option maxHeartbeats 4000000 in
theorem abK {l:af} (h:Hid (aX w t T (ak T) S C)) (hc:Hid (iC w t T C)) (hB:B.length<=480) (ht:Tidy l) (hb:bU B l) (ok:Nat->Prop) :
  Calls Tryz.prog 166 #[.pointer (some ⟨t.tb,0,none⟩),iD (kg (encS l))] w (mG (.set l) w t T S C ok):=by
 have Y6:=hide (za (w.alloc (.cells #[.int .i64 0,.string (encS l),.int .i64 0,.int .i64 0] 135)) B hB l ht hb)
 unfold iD kg
 dsimp only
 have hsz:w.heap.size<(w.alloc (.cells #[.int .i64 0,.string (encS l),.int .i64 0,.int .i64 0] 135)).heap.size:=by simp
 have HA:Hid (Below w.heap.size w (w.alloc (.cells #[.int .i64 0,.string (encS l),.int .i64 0,.int .i64 0] 135))):=(Below.refl _ _).alloc (Nat.le_refl _) _
 clear ht hb
 generalize encS l=es at *
 go_enter Tryz.func166,Tryz.ntmps166
 go_wp2_with (go_at_call 167;refine (aa Y6).mono ?_;clear Y6;rintro e w2 ⟨g,cap,dn,hcl,hpos,rfl,HO,HB⟩)
 go_ret
 have hb2:Below w.heap.size w w2:=(aa HA).trans ((aa HB).mono (by omega))
 have hgb:=((aa HO).lt g rfl).1
 have hnot:¬ TF t g:=aX.dS h (by omega)
 exact ⟨dn,g,cap,C,rfl,hcl,⟨dU (aa HO) (Nat.zero_le _),hnot⟩,aX.below h hb2,iC.below hc hb2,a_.below hb2,fun p hp=>.inl hp,fun P hP hA=>⟨hA,fun q=>by have:=hP g q;omega⟩⟩
theorem Y7 (c:Int):si (.set []) c↔si eps c:=by
 have h0:0∈jk []:=yo (l:=[]) trivial
 constructor
 ·intro h
  have hs:=sj (l:=[]) trivial h
  by_cases hc:c=0
  ·exact hc
  ·obtain ⟨b,hb,_⟩:=oC (B:=[]) (l:=[]) trivial (gF _) h hc
   cases hb
 ·intro h
  have:c=0:=h
  rw [this];exact h0
set_option maxRecDepth 100000 in
set_option maxHeartbeats 4000000 in
theorem VB (h:Hid (aX w t T (ak T) S C)) (hc:Hid (iC w t T C)) (ok:Nat->Prop) :
  Calls Tryz.prog 170 #[.pointer (some ⟨t.tb,0,none⟩),iD vH] w (mG eps w t T S C ok):=by
 have Y6:=hide (za (w.alloc (.cells #[.int .i64 1,.string ⟨#[]⟩,.int .i64 0,.int .i64 0] 135)) [] (by simp) [] trivial (gF _))
 rw [show encS []=⟨#[]⟩ from rfl] at Y6
 unfold iD vH
 dsimp only
 have hsz:w.heap.size<(w.alloc (.cells #[.int .i64 1,.string ⟨#[]⟩,.int .i64 0,.int .i64 0] 135)).heap.size:=by simp
 have HA:Hid (Below w.heap.size w (w.alloc (.cells #[.int .i64 1,.string ⟨#[]⟩,.int .i64 0,.int .i64 0] 135))):=(Below.refl _ _).alloc (Nat.le_refl _) _
 go_enter Tryz.func170,Tryz.ntmps170
 go_wp2_with (go_at_call 167;refine (aa Y6).mono ?_;clear Y6;rintro e w2 ⟨g,cap,dn,hcl,hpos,rfl,HO,HB⟩)
 go_ret
 have hb2:Below w.heap.size w w2:=(aa HA).trans ((aa HB).mono (by omega))
 have hgb:=((aa HO).lt g rfl).1
 have hnot:¬ TF t g:=aX.dS h (by omega)
 exact ⟨dn,g,cap,C,rfl,⟨hcl.rise,fun c=>(hcl.mem c).trans (Y7 c)⟩,⟨dU (aa HO) (Nat.zero_le _),hnot⟩,aX.below h hb2,iC.below hc hb2,a_.below hb2,fun p hp=>.inl hp,fun P hP hA=>⟨hA,fun q=>by have:=hP g q;omega⟩⟩
set_option maxRecDepth 100000 in
set_option maxHeartbeats 4000000 in
theorem jd {n m f:Nat} {b:Bool} {y:Tm} (hy:Rp T n y) (h:Hid (aX w t T (ak T) S C)) (hc:Hid (iC w t T C)) (hx:T[n]? = some (k,b)) (hn:n<=fU) (hkd:k.kd=(m:Int)) (hm7:m<7) (hcell:dN[m*3+2]? = some (fv f))
  (hcf:∀ (args:Array Value) (w:World),(callFunc f args).run Tryz.prog w=.ok (.enter f args) w) (HF:Hid (adr y T n t S C k f)) :
  Calls Tryz.prog 125 #[.pointer (some ⟨t.tb,0,none⟩),.int .i64 n] w (mG y w t T S C (fun i=>i<=n)):=by
 obtain ⟨q1,q2,q3,q4⟩:=(aa h).cells
 by_cases hit:∃ p∈C,p.1=.int .i64 (n:Int)
 ·obtain ⟨p,hp,hpn⟩:=hit
  obtain ⟨n',g,cap,dn,y',e,h1,h2,h2',h3⟩:=(aa hc).2 p hp
  have hnn:n'=n:=by
   rw [e] at hpn
   injection hpn with _ hpn
   omega
  subst hnn
  rw [h2.uniq hy] at h2'
  obtain ⟨j,hj⟩:=List.mem_iff_getElem?.1 hp
  rw [e] at hj
  have hlk:=vK rq Tryz.underlying128 (aa h).cb (aa hc).keys (uH hn) (aa hc).1 hj
  have HE:Hid (mG y w t T S C (fun i=>i<=n') (.returned (.slice (some ⟨g,0,none⟩) dn.length cap)) w):=⟨dn,g,cap,C,rfl,h2',h3,h,hc,a_.refl _ _,fun p hp=>.inl hp,fun P hP hA=>⟨hA,hA p hp g _ _ (by rw [e])⟩⟩
  clear h hc hx hkd hcell hcf HF h1 h2 h2' h3 e hp hpn hy
  go_enter Tryz.func125,Tryz.ntmps125
  go_wp2_with fail
  go_ret
  exact aa HE
 ·have hmiss:∀ p∈C,p.1≠.int .i64 (n:Int):=fun p hp e=>hit ⟨p,hp,e⟩
  have hlk:=sS rq Tryz.underlying128 (aa h).cb (aa hc).keys (uH hn) hmiss (z:=.slice none 0 0) (by simp [go_sem])
  obtain ⟨gt,q5,a0,a1,a2,a3,-⟩:=(aa h).at hx
  rw [hkd] at a0
  have hlt:n<T.length:=(List.getElem?_eq_some_iff.1 hx).1
  have hnI:(n:Int)<(T.length:Int):=by omega
  have hn0:(0:Int)<=(n:Int):=by omega
  have hm0:(0:Int)<=(m:Int):=by omega
  have hmI:(m:Int)<7:=by omega
  obtain ⟨kd,st,fi,se⟩:=k
  dsimp only at hkd a0 a1 a2 a3
  subst hkd
  have HA:=aX.alloc h (.cells #[.int .i64 m,.string st,.int .i64 fi,.int .i64 se] 135)
  have uh:Hid (a_ t t w (w.alloc (.cells #[.int .i64 m,.string st,.int .i64 fi,.int .i64 se] 135))):=a_.below ((Below.refl _ _).alloc (Nat.le_refl _) _)
  have p_:=iC.move (w':=w.alloc (.cells #[.int .i64 m,.string st,.int .i64 fi,.int .i64 se] 135)) hc (fun k hk _=>Below.heap_alloc w _ k hk)
  have DZ:=hide (fun q=>aa HF _ (hide ((aa HA).drew q)) (iC.move (w':=(w.alloc (.cells #[.int .i64 m,.string st,.int .i64 fi,.int .i64 se] 135)).drewN q) p_ (fun _ _ _=>rfl)))
  unfold iD at DZ
  dsimp only at DZ
  have DC:=hide (heap_alloc_new w (.cells #[.int .i64 m,.string st,.int .i64 fi,.int .i64 se] 135))
  have hnot:¬ TF t w.heap.size:=aX.dS h (Nat.le_refl _)
  have qW:w.heap.size<(w.alloc (.cells #[.int .i64 m,.string st,.int .i64 fi,.int .i64 se] 135)).heap.size:=by simp
  have qk:=(aa HA).kind hcell
  have J5:=hide hcell
  have HY:=hide hy
  clear h hc hx hy HF p_ hit hcell hm7 q2
  go_enter Tryz.func125,Tryz.ntmps125
  go_wp2_with fail
  generalize w.alloc (.cells #[.int .i64 m,.string st,.int .i64 fi,.int .i64 se] 135)=Wk at *
  obtain ⟨k0,k1,k2,k3⟩:=bI (aa DC)
  clear q1 q3 q4 q5 a0 a1 a2 a3 hlk HA
  generalize hkb:w.heap.size=kb at *
  go_region_held3 (fun w'=>w'.cell? ⟨kb,0,none⟩=some (.int .i64 m)/\w'.cell? ⟨kb,1,none⟩=some (.string st)/\w'.cell? ⟨kb,2,none⟩=some (.int .i64 fi)/\w'.cell? ⟨kb,3,none⟩=some (.int .i64 se)/\w'.cell? ⟨t.tb,m*3+2,none⟩=some (fv f)) (go_keep)
   ((refine Calls.mono (aa DZ 1) ?_;clear DZ;rintro x w2 ⟨dn,g2,cap2,C2,rfl,hcl,J6,HT2,xD,uJ,hk2,MB⟩;obtain ⟨r0,r1,r2,r3⟩:=bI (a_.own uJ qW hnot (aa DC));have rk:=(aa HT2).kind (aa J5);obtain ⟨p1,p2,p3,p4⟩:=(aa HT2).cells))
  have Ng:∀ p∈C2,p.1≠.int .i64 (n:Int):=fun p hp e=>by
   rcases hk2 p hp with h1 | ⟨i,hi,h1⟩
   ·exact hmiss p h1 e
   ·rw [h1] at e
    injection e with _ e
    omega
  have hup:=vL rq Tryz.underlying128 (aa HT2).cb (aa xD).keys (uH hn) Ng (.slice (some ⟨g2,0,none⟩) dn.length cap2)
  have HT3:=hide ((aa HT2).YM (C2++[(.int .i64 (n:Int),.slice (some ⟨g2,0,none⟩) dn.length cap2)]))
  have abL:TF t t.cb:=.inr (.inr (.inr (.inl rfl)))
  have MZ:Hid (iC (ChangeMaps.setBlock w2 t.cb (mkMap (C2++[(.int .i64 (n:Int),.slice (some ⟨g2,0,none⟩) dn.length cap2)]))) t T (C2++[(.int .i64 (n:Int),.slice (some ⟨g2,0,none⟩) dn.length cap2)])):=by
   refine iC.move (hide ((aa xD).add hn (aa HY) hcl (aa J6) Ng)) fun k hk hf=>bO (fun e=>hf (by rw [e];exact abL))
  have HR3:Hid (kU (ChangeMaps.setBlock w2 t.cb (mkMap (C2++[(.int .i64 (n:Int),.slice (some ⟨g2,0,none⟩) dn.length cap2)]))) t g2 cap2 dn):=(aa J6).move (bO (fun e=>(aa J6).apart (by rw [e];exact abL)))
  have hf2:=aa uJ
  have u_:Hid (a_ t t w (ChangeMaps.setBlock w2 t.cb (mkMap (C2++[(.int .i64 (n:Int),.slice (some ⟨g2,0,none⟩) dn.length cap2)])))):=a_.set ((aa uh).trans ⟨hf2.os,hf2.tape,hf2.output,hf2.size,hf2.block,hf2.tb,hf2.nb,hf2.sb,hf2.cb,hf2.row⟩) abL _
  have Y8:Hid (∀ p∈C2++[(.int .i64 (n:Int),Value.slice (some ⟨g2,0,none⟩) dn.length cap2)],p∈C\/∃ i,i<=n/\p.1=.int .i64 ((i:Nat):Int)):=fun p hp=>by
   rcases List.mem_append.1 hp with hp | hp
   ·rcases hk2 p hp with h1 | ⟨i,hi,h1⟩
    ·exact .inl h1
    ·exact .inr ⟨i,by omega,h1⟩
   ·rw [List.mem_singleton] at hp
    exact .inr ⟨n,Nat.le_refl _,by rw [hp]⟩
  have HAV:Hid (∀ P:Nat->Prop,(∀ k,P k->k<kb)->Av P C->Av P (C2++[(.int .i64 (n:Int),Value.slice (some ⟨g2,0,none⟩) dn.length cap2)])/\¬ P g2):=fun P hP hA=>by
   obtain ⟨q1,q2⟩:=MB P (fun k hk=>Nat.lt_trans (hP k hk) qW) hA
   refine ⟨fun p hp g' n' c' e=>?_,q2⟩
   rcases List.mem_append.1 hp with hp | hp
   ·exact q1 p hp g' n' c' e
   ·rw [List.mem_singleton] at hp
    rw [hp] at e
    injection e with e1
    injection e1 with e1
    injection e1 with e1
    rw [<-e1];exact q2
  have zF:=hide hcl
  clear MB hmiss Ng hk2 hf2 hcl xD J6 HT2 uJ DC r0 r1 r2 r3 rk
  go_wp2_with fail
  go_ret
  exact ⟨dn,g2,cap2,_,rfl,aa zF,HR3,HT3,MZ,u_,aa Y8,by rw [hkb];exact aa HAV⟩
end
end Go.Proofs.YtfolanohokflkaaGreatDoor
namespace Go.Proofs.YtfolanohokflkaaGreatDoor
open Go.RowKit
theorem Y9:(Tryz.prog.info? 61).map (fun i=>(i.zero,i.size,i.bytes))=some (some (.string ⟨#[]⟩),1,16):=by kernel_rfl
section
variable {w:World} {t:TB} {T:List Te} {S C:List (Value×Value)}
end
theorem R3 {w w':World} {B B':Nat} {e e':TypeId} {size size' n m:Nat} {v u:Value} {xs ys:List Value} (hne:e'≠e) (hv:w.ownsRow B e size v n xs) (hu:w.ownsRow B' e' size' u m ys) (hg:w.grownBy w' v.ownBlock):w'.ownsRow B' e' size' u m ys:=by
 obtain ⟨hl,hx | ⟨g,cap,cur,rfl,hb,hgr,rest⟩⟩:=hu
 ·exact ⟨hl,.inl hx⟩
 ·refine ⟨hl,.inr ⟨g,cap,cur,rfl,hb,?_,rest⟩⟩
  have hlt:=(Array.getElem?_eq_some_iff.1 hgr).1
  rw [hg.block g hlt (fun e2=>?_)]
  ·exact hgr
  ·obtain ⟨_,⟨rfl,_⟩ | ⟨g',cap',cur',rfl,_,hgr',_⟩⟩:=hv
   ·cases e2
   ·have:g=g':=by simpa [Value.ownBlock] using e2
    subst this
    rw [hgr] at hgr'
    injection hgr' with q
    injection q with _ q
    exact hne q
theorem jK {ts e:TypeId} {z:Value} {size bytes:Nat} (hu:Tryz.prog.underlying ts=some (.slice e)) (hinfo:(Tryz.prog.info? e).map (fun i=>(i.zero,i.size,i.bytes))=some (some z,size,bytes)) (hzs:z.cells.size=size) (hsz:0<size) (hby:bytes<=1000)
  {ops:Array Oper} {rest:List Oper} {o:Oper} {a:Act} {Q:Exit->Act->World->Prop} (B:Nat) (w wr:World) (n:Nat) (xs news:List Value) (v:Value) (s x:Operand) (hg:o.guard=none)
  (hop:o.op=.call { callee:=.builtin .append,args:=#[s,x],argTypes:=#[ts,ts] }) (hs:a.eval s=v) (H:Nat) (hH:wr.heap.size=H) (hx:a.eval x=.slice (some ⟨H,0,none⟩) 1 1)
  (ho:Hid (wr.ownsRow B e size v n xs)) (hb:Hid (Below B w wr)) (hB:B<=wr.heap.size) (hl:n<=100000000000) (hnl:news.length=size) (hn1:∀ u∈news,u.oneCell'=true)
  (K:∀ g cap w',Hid (w'.ownsRow B e size (.slice (some ⟨g,0,none⟩) (n+1) cap) (n+1) (xs++news))->Hid (Below B w w')->Hid (∀ B' e' s' u m ys,e'≠e->wr.ownsRow B' e' s' u m ys->w'.ownsRow B' e' s' u m ys)->wpList Tryz.prog ops Q rest (a.put o.dst (.slice (some ⟨g,0,none⟩) (n+1) cap)) w') :
  wpList Tryz.prog ops Q (o::rest) a (wr.alloc (.cells news.toArray e)):=by
 obtain ⟨i0,hi,hz0,hz1,hz2⟩:=info_parts hinfo
 subst hH
 have ho':=aa ho
 refine wpList_append_own _ hg s x ts hop B e i0 z size bytes hu hi hz0 hz1 hz2 hzs hsz _ _ _ hs (ho'.alloc _) ⟨wr.heap.size,0,none⟩ 1 1 news hx (by rw [hnl];omega) (bz wr news _) hn1 (by unfold maxLen;omega) (Nat.le_trans (Nat.mul_le_mul_left _ hby) (by omega)) (by simp;omega) ?_
 intro v' w' h1 h2 _
 obtain ⟨ao,cap,rfl,hv⟩:=aN h1
 obtain ⟨g,rfl,-⟩:=hv (by omega)
 refine K g cap w' h1 (iW (aa hb) ho' h2 hB) fun B' e' s' u m ys hne hu'=>?_
 exact R3 hne (ho'.alloc _) (hu'.alloc _) h2
def strs (l:List ByteArray):List Value:=l.map Value.string
def ay (l:List Nat):List Int:=List.map (fun (n:Nat)=>Int.ofNat n) l
theorem aO (l:List Nat):(ay l).length=l.length:=by simp [ay]
theorem h_ (a b:List Nat):ay (a++b)=ay a++ay b:=by simp [ay]
section
variable {w:World} {t:TB} {T:List Te} {S C:List (Value×Value)}
set_option maxRecDepth 100000 in
set_option maxHeartbeats 4000000 in
theorem Cu {n:Nat} {k:Bool} {l:List Nat} (h:Hid (aX w t T (ak T) S C)) (hw:uI T) (hsp:ky T k n l) (hl:l.length<=1000000) :
  Calls Tryz.prog 153 #[.pointer (some ⟨t.tb,0,none⟩),.int .i64 (kk k),.int .i64 n] w fun e w'=>∃ g cap,e=.returned (.slice (some ⟨g,0,none⟩) l.length cap)/\Hid (w'.ownsRow w.heap.size 3 1 (.slice (some ⟨g,0,none⟩) l.length cap) l.length (ints (ay l)))/\Hid (Below w.heap.size w w'):=by
 have HW:=hide hw
 have aeu:Hid (∃ pre rest,l=pre++rest/\pre=[]/\ky T k n rest):=⟨[],l,rfl,rfl,hsp⟩
 clear hw hsp
 go_enter Tryz.func153,Tryz.ntmps153
 go_wp2_with fail
 go_loopw [7,2] (fun v i wr=>∃ (m:Nat) (pre rest:List Nat),i=.int .i64 (m:Int)/\Hid (l=pre++rest)/\Hid (ky T k m rest)/\Hid (wr.ownsRow w.heap.size 3 1 v (ay pre).length (ints (ay pre)))/\Hid (Below w.heap.size w wr)) (fun _ i _=>(intOf i).toNat)
 case atStart=>
  obtain ⟨pre,rest,e,rfl,hs⟩:=aa aeu
  exact ⟨n,[],rest,rfl,e,hs,World.ownsRow_nil _ _ _ _,Below.refl _ _⟩
 case round=>
  obtain ⟨m,pre,rest,rfl,HE,HS,HO,HB⟩:=hrel
  have hpre:(ay pre).length<=1000000:=by
   have:=congrArg List.length (aa HE)
   rw [List.length_append] at this
   rw [aO];omega
  have HT:=aX.below h (aa HB)
  have hs0:=aa HS
  clear HS
  cases hs0 with
  | @one m x hx hk=>
   obtain ⟨g,q2,c0,-⟩:=(aa HT).at hx
   have hlt:=(List.getElem?_eq_some_iff.1 hx).1
   have hiI:(m:Int)<(T.length:Int):=by omega
   have hi0:(0:Int)<=(m:Int):=by omega
   have hnk:(x.1.kd==kk k)=false:=by simpa using hk
   generalize x.1.kd=xk at *
   generalize kk k=kv at *
   clear hx hk HT
   have HL:Hid (l=pre++[m]):=HE
   go_wp2_with (at_builtin;refine OZ w wr (ay pre) _ (m:Int) (.tmp 40) (.tmp 42) rfl rfl rfl rfl HO HB (by omega) ?_;intro v' w' jh HB2)
   have hl2:(ay pre++[(m:Int)])=ay l:=by rw [aa HL,h_];rfl
   rw [hl2,aO] at jh
   obtain ⟨ao,cap,rfl,hv⟩:=aN (aa jh)
   obtain ⟨g',rfl,-⟩:=hv (by rw [aa HL];simp)
   go_ret
   exact ⟨g',cap,rfl,jh,HB2⟩
  | @more m i j b l' hx hs=>
   obtain ⟨g,q2,c0,c1,c2,c3,c4⟩:=(aa HT).at hx
   have hlt:=(List.getElem?_eq_some_iff.1 hx).1
   have hij:=ve (aa HW) hx
   have hiI:(m:Int)<(T.length:Int):=by omega
   have hi0:(0:Int)<=(m:Int):=by omega
   dsimp only [bW] at c0 c1 c2 c3
   generalize hkv:kk k=kv at *
   have HS2:=hide hs
   have HX:=hide hx
   clear hs hx
   go_wp2_with (at_builtin;refine OZ w wr (ay pre) _ (i:Int) (.tmp 19) (.tmp 29) rfl rfl rfl rfl HO HB (by omega) ?_;intro v' w' jh HB2;obtain ⟨g2,p2,d0,d1,d2,d3,d4⟩:=(aa (aX.below h (aa HB2))).at (aa HX);dsimp only [bW] at d0 d1 d2 d3)
   go_roundw
   case rel=>
    refine ⟨j,pre++[i],l',rfl,?_,HS2,?_,HB2⟩
    ·show _=_
     rw [aa HE,List.append_assoc];rfl
    ·have e2:ay (pre++[i])=ay pre++[(i:Int)]:=by rw [h_];rfl
     show World.ownsRow _ _ _ _ _ _ _
     rw [e2];exact jh
   case measure=>simp [intOf];omega
end
end Go.Proofs.YtfolanohokflkaaGreatDoor
