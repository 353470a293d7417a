import Derived.Test.YtfolanohokflkaaGreatDoorApA
import Derived.Test.YtfolanohokflkaaGreatDoorClsB
import Derived.Test.YtfolanohokflkaaGreatDoorSoM
import Derived.Test.YtfolanohokflkaaGreatDoorRpG
import Derived.WalkKit
import Derived.WalkSpells
import Derived.WalkLawsBesides
import Derived.WalkMore
import Derived.Deep.QuietTactic
import Derived.BigQuiet
import Derived.BigRegion
import Derived.Deep.RegionHeld3
import Derived.Test.YtfolanohokflkaaGreatDoorRefD
import Derived.Test.YtfolanohokflkaaGreatDoorProC
namespace Go.Proofs.YtfolanohokflkaaGreatDoor
open Go.RowKit
theorem aah (q:List (Int×Int)):∀ u∈aI q,u.oneCell'=true:=by
 induction q with
 | nil=>intro u hu;simp [aI] at hu
 | cons y q ih=>intro u hu;simp only [aI,List.mem_cons] at hu;rcases hu with rfl | rfl | hu;rfl;rfl;exact ih u hu
theorem I9 {ops:Array Oper} {rest:List Oper} {o:Oper} {a:Act} {Q:Exit->Act->World->Prop} (B B':Nat) (wr:World) (zs p:List (Int×Int)) (v x:Value) (so xo:Operand) (hg:o.guard=none)
  (hop:o.op=.call { callee:=.builtin .append,args:=#[so,xo],argTypes:=#[237,237] }) (hs:a.eval so=v) (hx:a.eval xo=x)
  (ho:Hid (wr.ownsRow B 248 2 v zs.length (aI zs))) (ho2:Hid (wr.ownsRow B' 248 2 x p.length (aI p))) (hB:B<=wr.heap.size) (hl:zs.length+p.length<=2000000)
  (K:∀ ao n cap w',Hid (w'.ownsRow B 248 2 (.slice ao n cap) (zs++p).length (aI (zs++p)))->Hid (wr.grownBy w' v.ownBlock)->wpList Tryz.prog ops Q rest (a.put o.dst (.slice ao n cap)) w') :
  wpList Tryz.prog ops Q (o::rest) a wr:=by
 obtain ⟨i0,hi0,hz0,hz1,hz2⟩:=info_parts oN
 refine Il hg so xo 237 hop B B' 248 i0 (.agg #[.int .i32 0,.int .i32 0]) 2 8 Tryz.underlying237 hi0 hz0 hz1 hz2 rfl (by decide) v x _ _ _ _ hs hx (aa ho) (aa ho2) (aah p) (by unfold maxLen;omega) (by omega) hB ?_
 intro v' w' h1 h2
 have h3:w'.ownsRow B 248 2 v' (zs++p).length (aI (zs++p)):=by
  rw [iN,List.length_append];exact h1
 obtain ⟨ao,cap,rfl,-⟩:=aN h3
 exact K ao _ cap w' h3 h2
set_option maxRecDepth 100000 in
set_option maxHeartbeats 4000000 in
theorem I_ (w:World) (l:ah) (hl:l.length<=900) (hl2:(fI l).length<=900) (ht:Tidy l) (hot:Tidy (fI l)) (hpos:0<(l++fI l).length) :
  Calls Tryz.prog 167 #[.string (encS l)] w fun e w'=>∃ g cap,e=.returned (.slice (some ⟨g,0,none⟩) (jw l).length cap)/\Hid (w'.ownsRow w.heap.size 21 1 (.slice (some ⟨g,0,none⟩) (jw l).length cap) (jw l).length (runeCells (jv (jw l))))/\Hid (Below w.heap.size w w'):=by
 have hlen:(l++fI l).length=l.length+(fI l).length:=List.length_append
 have HP:=hide (jN w l (by omega) (bC ht))
 have HO:=hide (fun w1=>mY w1 l (by omega) ht)
 have Nl:=hide (fun w2=>jN w2 (fI l) (by omega) (bC hot))
 have HLP:Hid (jw l=(l++fI l).map (·.1)):=rfl
 generalize jw l=LP at HLP ⊢
 generalize encS l=s at HP HO
 generalize encS (fI l)=s2 at HO Nl
 clear ht hot
 go_enter Tryz.func167,Tryz.ntmps167
 go_wp2_with (first
  | (go_at_call 161;refine (aa HP).mono ?_;clear HP;rintro e w1 ⟨v1,rfl,hrow,hb⟩;have HB1:=hide hb;have HR1:=hide hrow;clear hrow hb)
  | (go_at_call 156;refine (aa HO _).mono ?_;clear HO;rintro e w2 ⟨rfl,hb⟩;have HB2:=hide hb;clear hb)
  | (go_at_call 161;refine (aa Nl _).mono ?_;clear Nl;rintro e w3 ⟨v3,rfl,hrow,hb⟩;have HB3:=hide hb;have HR3:=hide hrow;clear hrow hb;have HR1':=hide (own_below (own_below (aa HR1) (aa HB2) (Nat.le_refl _)) (aa HB3) (Nat.le_refl _));have hs3:w.heap.size<=w3.heap.size:=Nat.le_trans (aa HB1).size (Nat.le_trans (aa HB2).size (aa HB3).size))
  | (at_builtin;refine I9 w.heap.size w2.heap.size w3 l (fI l) v1 v3 (.tmp 7) (.tmp 10) rfl rfl rfl rfl HR1' HR3 hs3 (by omega) ?_;intro ao4 n4 cap4 w4 Fx WX))
 have CV:Hid (Below w.heap.size w w4):=by
  have b1:=aa HB1
  have b2:=b1.trans ((aa HB2).mono b1.size)
  have b3:=b2.trans ((aa HB3).mono b2.size)
  exact below_grown b3 (aa HR1') (aa WX) hs3
 have hN0:(l++fI l).length<=1800:=by omega
 generalize l++fI l=L at *
 obtain ⟨ao5,cap5,e5,hvw⟩:=aN (aa Fx)
 injection e5 with e6 e7 e8
 subst e6
 subst e7
 subst e8
 have KW:=hide hvw
 clear hvw Fx WX HR1' HR3 HR1 HB1 HB2 HB3 hs3 hlen
 go_loopw [3,13] (fun v i wr=>∃ (k:Nat) (av:Option Addr) (n cv:Nat),k<=L.length/\i=.int .i64 (k:Int)/\v=.slice av n cv/\Hid (n=k)/\Hid (wr.ownsRow w4.heap.size 21 1 (.slice av n cv) k (runeCells ((L.take k).map (·.1))))/\Hid (Below w4.heap.size w4 wr)) (fun _ i _=>L.length - (intOf i).toNat)
 case atStart=>exact ⟨0,none,0,0,Nat.zero_le _,rfl,rfl,rfl,World.ownsRow_nil _ _ _ _,Below.refl _ _⟩
 case round=>
  obtain ⟨k,av,n,cv,hk,rfl,rfl,HN,HOW,HB⟩:=hrel
  by_cases hlt:k<L.length
  ·obtain ⟨g,rfl,-,hg,hc,-⟩:=aa KW (by omega)
   have hget:=iT L k hlt
   have c1:=hc (k*2) (by omega)
   have c2:=hc (k*2+1) (by omega)
   rw [hget.1,<-(aa HB).cell (p:=⟨g,k*2,none⟩) hg] at c1
   rw [hget.2,<-(aa HB).cell (p:=⟨g,k*2+1,none⟩) hg] at c2
   have VX:=hide (show ((L.take (k+1)).map (·.1):List Int)=(L.take k).map (·.1)++[L[k].1] from by rw [List.take_succ_eq_append_getElem hlt,List.map_append];rfl)
   have HKL:=hide (show ((L.take k).map (·.1):List Int).length=k from by rw [List.length_map,List.length_take];omega)
   clear hget hc KW
   generalize L[k].1=lo at *
   generalize L[k].2=hi at *
   have HB':=hide ((aa HB).alloc (aa HB).size (.cells #[.int .i32 lo,.int .i32 hi] 248))
   have HO':=hide ((aa HOW).alloc (.cells #[.int .i32 lo,.int .i32 hi] 248))
   have q0:=Fa wr lo hi 0
   clear HB HOW
   have lD:Hid ((wr.alloc (.cells #[.int .i32 lo,.int .i32 hi] 248)).ownsRow w4.heap.size 21 1 (.slice av n cv) ((L.take k).map (·.1)).length (runeCells ((L.take k).map (·.1)))):=by
    rw [aa HKL]
    exact HO'
   clear HO'
   generalize hTK:(L.take k).map (·.1)=TK at *
   have hTl:TK.length<=2000000:=by have:=aa HKL;omega
   go_wp2_with (at_builtin;refine SV w4 (wr.alloc (.cells #[.int .i32 lo,.int .i32 hi] 248)) TK _ lo (.tmp 17) (.tmp 20) rfl rfl rfl (wr.heap.size+1) (by simp) rfl lD HB' hTl ?_;intro Rk o5 w6 Ww VN)
   go_roundw
   case rel=>exact ⟨k+1,Rk,_,o5,by omega,by go_num,rfl,(by show _=_;rw [aa HKL]),(by rw [aa VX];rw [aa HKL] at Ww ⊢;exact Ww),VN⟩
   case measure=>simp [intOf];omega
  ·obtain rfl:k=L.length:=by omega
   obtain rfl:n=L.length:=aa HN
   rw [List.take_length,<-aa HLP] at HOW
   have hLP:LP.length=L.length:=by rw [aa HLP,List.length_map]
   obtain ⟨ao7,adf,e7,hv7⟩:=aN (aa HOW)
   injection e7 with e8 e9 e10
   subst e8
   subst e10
   obtain ⟨g,rfl,hgb,Qt,-,-⟩:=hv7 hpos
   have HS:=hide (Iw wr g L.length cv LP hLP hpos (by omega) (hide (eO (aa HOW) (Nat.zero_le _))))
   have hw4:w.heap.size<=w4.heap.size:=(aa CV).size
   clear KW HOW
   go_wp2_with (go_at_call 239;refine (aa HS).mono ?_;rintro e w7 ⟨rfl,AX⟩;have hr7:=(aa AX).1;have hg7:=(aa AX).2)
   go_ret
   refine ⟨g,cv,by rw [hLP];rfl,?_,?_⟩
   ·rw [hLP]
    exact Li hr7 (by omega)
   ·have hb:=(aa CV).trans ((aa HB).mono hw4)
    exact ⟨hg7.os.trans hb.os,hg7.tape.trans hb.tape,hg7.output.trans hb.output,Nat.le_trans hb.size hg7.size,fun k hk=>(hg7.block k (by have:=hb.size;omega) (fun e=>by injection e with e;omega)).trans (hb.block k hk)⟩
theorem Qu {l:ah} (h:Tidy l):0<(l++fI l).length:=by
 have:=xE h
 unfold jw at this
 cases hq:l++fI l with
 | nil=>rw [hq] at this;cases this
 | cons x r=>simp
theorem Eg {l:List Int} {x:Int}:x∈jv l↔x∈l:=by unfold jv;exact List.mem_mergeSort
theorem xH (l:List Int):(jv l).length=l.length:=by unfold jv;exact List.length_mergeSort l
theorem Ja (l:List Int):(jv l).Pairwise (·<=·):=by
 have:=List.pairwise_mergeSort (le:=fun x y=>!Sort.ltInt y x) (fun a b c h1 h2=>by simp [Sort.ltInt] at *;omega) (fun a b=>by simp [Sort.ltInt];omega) l
 exact this.imp fun h=>by simpa [Sort.ltInt] using h
theorem Jb {l:List Int} (h:l.Nodup):(jv l).Nodup:=(List.mergeSort_perm l _).symm.nodup h
theorem TV {l:List Int} (h:l.Nodup):(jv l).Pairwise (· < ·):=(List.Pairwise.and (Ja l) (Jb h)).imp fun ⟨h1,h2⟩=>by omega
theorem LK {l:ah} (h:Tidy l):(jw l).Nodup:=by
 have go:∀ {m:Int} {l:ah},eP m l->(l.map (·.1)).Nodup:=by
  intro m l
  induction l generalizing m with
  | nil=>intro _;simp
  | cons x r ih=>
   intro h
   obtain ⟨h1,h2,h3,h4,h5⟩:=h
   rw [List.map_cons]
   refine List.nodup_cons.2 ⟨fun q=>?_,ih h5⟩
   obtain ⟨y,hy,e⟩:=List.mem_map.1 q
   have:=eP.ge h5 (lV hy (Int.le_refl _) (bC h5 y hy).2.2)
   unfold ko at this
   split at this<;>omega
 unfold jw
 rw [List.map_append]
 refine List.nodup_append.2 ⟨go h,go (dC h.pos),fun a ha b hb e=>?_⟩
 subst e
 obtain ⟨x,hx,e1⟩:=List.mem_map.1 ha
 obtain ⟨y,hy,e2⟩:=List.mem_map.1 hb
 have g1:=jQ h hx
 have g2:=jQ (dC h.pos) hy
 have i1:=lV hx (Int.le_refl _) g1.2.2
 have i2:=lV hy (Int.le_refl _) g2.2.2
 rw [e2,kr h.pos (by rw [<-e2];exact g2.1),<-e1,i1] at i2
 cases i2
theorem TW {l:ah} (h:Tidy l):xG (.set l) (jv (jw l)):=⟨TV (LK h),fun _=>Eg⟩
theorem yt (w:World) (B:List Int) (hB:B.length<=480) (l:ah) (ht:Tidy l) (hb:bY B l) :
  Calls Tryz.prog 167 #[.string (encS l)] w fun e w'=>∃ g cap dw,xG (.set l) dw/\0<dw.length/\e=.returned (.slice (some ⟨g,0,none⟩) dw.length cap)/\Hid (w'.ownsRow w.heap.size 21 1 (.slice (some ⟨g,0,none⟩) dw.length cap) dw.length (runeCells dw))/\Hid (Below w.heap.size w w'):=by
 have hf:=fT ht hb
 have hp:=Qu ht
 refine (I_ w l (by omega) (by omega) ht (dC ht.pos) hp).mono ?_
 rintro e w' ⟨g,cap,rfl,h1,h2⟩
 have hlen:=xH (jw l)
 refine ⟨g,cap,jv (jw l),TW ht,by rw [hlen,jw,List.length_map];exact hp,by rw [hlen],?_,h2⟩
 rw [hlen];exact h1
end Go.Proofs.YtfolanohokflkaaGreatDoor
namespace Go.Proofs.YtfolanohokflkaaGreatDoor
open Go.RowKit
open Tm (eps)
def iK (w:World) (t:TB) (T:List Te) (C:List (Value×Value)):Prop:=
 (C.map (·.1)).Nodup/\∀ p∈C,∃ (n g cap:Nat) (dw:List Int) (y:Tm),p=(.int .i64 (n:Int),.slice (some ⟨g,0,none⟩) dw.length cap)/\n<=gW/\Rp T n y/\xG y dw/\kP w t g cap dw
theorem iK.move {w w':World} {t:TB} {T:List Te} {C:List (Value×Value)} (h:Hid (iK w t T C)) (hm:∀ k,k<w.heap.size->¬ TF t k->w'.heap[k]? = w.heap[k]?):Hid (iK w' t T C):=by
 refine ⟨(aa h).1,fun p hp=>?_⟩
 obtain ⟨n,g,cap,l,y,e,h1,h2,h2',h3⟩:=(aa h).2 p hp
 exact ⟨n,g,cap,l,y,e,h1,h2,h2',h3.move (hm g h3.lt h3.apart)⟩
theorem iK.below {w w':World} {t:TB} {T:List Te} {C:List (Value×Value)} (h:Hid (iK w t T C)) (hb:Below w.heap.size w w'):Hid (iK w' t T C):=iK.move h fun k hk _=>hb.block k hk
theorem iK.fr {w w':World} {t t':TB} {T:List Te} {C:List (Value×Value)} (h:Hid (iK w t T C)) (hf:Hid (bg t t' w w')):Hid (iK w' t' T C):=by
 refine ⟨(aa h).1,fun p hp=>?_⟩
 obtain ⟨n,g,cap,l,y,e,h1,h2,h2',h3⟩:=(aa h).2 p hp
 have h4:=h3.move ((aa hf).block g h3.lt h3.apart)
 refine ⟨n,g,cap,l,y,e,h1,h2,h2',h4.own,fun hh=>?_⟩
 rcases (aa hf).foot hh with h5 | h5
 ·exact h3.apart h5
 ·have:=h3.lt;omega
theorem iK.grow {w:World} {t:TB} {T X:List Te} {C:List (Value×Value)} (h:iK w t T C):iK w t (T++X) C:=by
 refine ⟨h.1,fun p hp=>?_⟩
 obtain ⟨n,g,cap,l,y,e,h1,h2,h2',h3⟩:=h.2 p hp
 exact ⟨n,g,cap,l,y,e,h1,h2.mono,h2',h3⟩
theorem iK.keys {w:World} {t:TB} {T:List Te} {C:List (Value×Value)} (h:iK w t T C):∀ p∈C,∃ x,keyOf Tryz.prog 3 p.1=some x:=fun p hp=>by
 obtain ⟨n,g,cap,l,y,e,h1,-⟩:=h.2 p hp
 rw [e]
 exact tV h1
theorem iK.add {w:World} {t:TB} {T:List Te} {C:List (Value×Value)} {n g cap:Nat} {dw:List Int} {y:Tm} (h:iK w t T C) (hn:n<=gW) (hy:Rp T n y) (hcl:xG y dw) (hr:kP w t g cap dw) (hm:∀ p∈C,p.1≠.int .i64 (n:Int)):iK w t T (C++[(.int .i64 (n:Int),.slice (some ⟨g,0,none⟩) dw.length cap)]):=by
 refine ⟨?_,fun p hp=>?_⟩
 ·rw [List.map_append]
  refine List.nodup_append.2 ⟨h.1,by simp,fun a ha c hc e=>?_⟩
  obtain ⟨p,hp,rfl⟩:=List.mem_map.1 ha
  simp at hc
  exact hm p hp (e.trans hc)
 ·rcases List.mem_append.1 hp with hp | hp
  ·exact h.2 p hp
  ·rw [List.mem_singleton] at hp
   exact ⟨n,g,cap,dw,y,hp,hn,hy,hcl,hr⟩
def Av (P:Nat->Prop) (C:List (Value×Value)):Prop:=∀ p∈C,∀ g n c,p.2=.slice (some ⟨g,0,none⟩) n c->¬ P g
def mg (y:Tm) (w:World) (t:TB) (T:List Te) (S C:List (Value×Value)) (ok:Nat->Prop) (e:Ending) (w':World):Prop:=
 ∃ (dw:List Int) (g cap:Nat) (C':List (Value×Value)),e=.returned (.slice (some ⟨g,0,none⟩) dw.length cap)/\xG y dw/\Hid (kP w' t g cap dw)/\Hid (aZ w' t T (ak T) S C')/\Hid (iK w' t T C')/\Hid (bg t t w w')/\(∀ p∈C',p∈C\/∃ i,ok i/\p.1=.int .i64 ((i:Nat):Int))/\∀ P:Nat->Prop,(∀ k,P k->k<w.heap.size)->Av P C->Av P C'/\¬ P g
def abQ (y:Tm) (T:List Te) (n:Nat) (t:TB) (S C:List (Value×Value)) (k:Ky) (f:Nat):Prop:=∀ W:World,Hid (aZ W t T (ak T) S C)->Hid (iK W t T C)->Calls Tryz.prog f #[.pointer (some ⟨t.tb,0,none⟩),iF k] W (mg y W t T S C (fun i=>i<n))
section
variable {w:World} {t:TB} {T:List Te} {N S C:List (Value×Value)} {k:Ky} {B:List Int}
set_option maxRecDepth 100000 in
set_option maxHeartbeats 4000000 in
theorem aai {l:ah} (h:Hid (aZ w t T (ak T) S C)) (hc:Hid (iK w t T C)) (hB:B.length<=480) (ht:Tidy l) (hb:bY B l) (ok:Nat->Prop) :
  Calls Tryz.prog 166 #[.pointer (some ⟨t.tb,0,none⟩),iF (j4 (encS l))] w (mg (.set l) w t T S C ok):=by
 have HBD:=hide (yt (w.alloc (.cells #[.int .i64 0,.string (encS l),.int .i64 0,.int .i64 0] 135)) B hB l ht hb)
 unfold iF j4
 dsimp only
 have hsz:w.heap.size<(w.alloc (.cells #[.int .i64 0,.string (encS l),.int .i64 0,.int .i64 0] 135)).heap.size:=by simp
 have HA:Hid (Below w.heap.size w (w.alloc (.cells #[.int .i64 0,.string (encS l),.int .i64 0,.int .i64 0] 135))):=(Below.refl _ _).alloc (Nat.le_refl _) _
 clear ht hb
 generalize encS l=es at *
 go_enter Tryz.func166,Tryz.ntmps166
 go_wp2_with (go_at_call 167;refine (aa HBD).mono ?_;clear HBD;rintro e w2 ⟨g,cap,dw,hcl,hpos,rfl,HO,HB⟩)
 go_ret
 have hb2:Below w.heap.size w w2:=(aa HA).trans ((aa HB).mono (by omega))
 have hgb:=((aa HO).lt g rfl).1
 have hnot:¬ TF t g:=aZ.dW h (by omega)
 exact ⟨dw,g,cap,C,rfl,hcl,⟨eO (aa HO) (Nat.zero_le _),hnot⟩,aZ.below h hb2,iK.below hc hb2,bg.below hb2,fun p hp=>.inl hp,fun P hP hA=>⟨hA,fun q=>by have:=hP g q;omega⟩⟩
theorem Xt (c:Int):rG (.set []) c↔rG eps c:=by
 have h0:0∈jw []:=xE (l:=[]) trivial
 constructor
 ·intro h
  have hs:=rH (l:=[]) trivial h
  by_cases hc:c=0
  ·exact hc
  ·obtain ⟨b,hb,_⟩:=ow (B:=[]) (l:=[]) trivial (gG _) h hc
   cases hb
 ·intro h
  have:c=0:=h
  rw [this];exact h0
set_option maxRecDepth 100000 in
set_option maxHeartbeats 4000000 in
theorem TY (h:Hid (aZ w t T (ak T) S C)) (hc:Hid (iK w t T C)) (ok:Nat->Prop) :
  Calls Tryz.prog 170 #[.pointer (some ⟨t.tb,0,none⟩),iF uP] w (mg eps w t T S C ok):=by
 have HBD:=hide (yt (w.alloc (.cells #[.int .i64 1,.string ⟨#[]⟩,.int .i64 0,.int .i64 0] 135)) [] (by simp) [] trivial (gG _))
 rw [show encS []=⟨#[]⟩ from rfl] at HBD
 unfold iF uP
 dsimp only
 have hsz:w.heap.size<(w.alloc (.cells #[.int .i64 1,.string ⟨#[]⟩,.int .i64 0,.int .i64 0] 135)).heap.size:=by simp
 have HA:Hid (Below w.heap.size w (w.alloc (.cells #[.int .i64 1,.string ⟨#[]⟩,.int .i64 0,.int .i64 0] 135))):=(Below.refl _ _).alloc (Nat.le_refl _) _
 go_enter Tryz.func170,Tryz.ntmps170
 go_wp2_with (go_at_call 167;refine (aa HBD).mono ?_;clear HBD;rintro e w2 ⟨g,cap,dw,hcl,hpos,rfl,HO,HB⟩)
 go_ret
 have hb2:Below w.heap.size w w2:=(aa HA).trans ((aa HB).mono (by omega))
 have hgb:=((aa HO).lt g rfl).1
 have hnot:¬ TF t g:=aZ.dW h (by omega)
 exact ⟨dw,g,cap,C,rfl,⟨hcl.rise,fun c=>(hcl.mem c).trans (Xt c)⟩,⟨eO (aa HO) (Nat.zero_le _),hnot⟩,aZ.below h hb2,iK.below hc hb2,bg.below hb2,fun p hp=>.inl hp,fun P hP hA=>⟨hA,fun q=>by have:=hP g q;omega⟩⟩
set_option maxRecDepth 100000 in
set_option maxHeartbeats 4000000 in
theorem jl {n m f:Nat} {b:Bool} {y:Tm} (hy:Rp T n y) (h:Hid (aZ w t T (ak T) S C)) (hc:Hid (iK w t T C)) (hx:T[n]? = some (k,b)) (hn:n<=gW) (hkd:k.kd=(m:Int)) (ZZ:m<7) (hcell:dN[m*3+2]? = some (fv f))
  (hcf:∀ (args:Array Value) (w:World),(callFunc f args).run Tryz.prog w=.ok (.enter f args) w) (HF:Hid (abQ y T n t S C k f)) :
  Calls Tryz.prog 125 #[.pointer (some ⟨t.tb,0,none⟩),.int .i64 n] w (mg y w t T S C (fun i=>i<=n)):=by
 obtain ⟨q1,q2,q3,q4⟩:=(aa h).cells
 by_cases hit:∃ p∈C,p.1=.int .i64 (n:Int)
 ·obtain ⟨p,hp,hpn⟩:=hit
  obtain ⟨n',g,cap,dw,y',e,h1,h2,h2',h3⟩:=(aa hc).2 p hp
  have hnn:n'=n:=by
   rw [e] at hpn
   injection hpn with _ hpn
   omega
  subst hnn
  rw [h2.uniq hy] at h2'
  obtain ⟨j,hj⟩:=List.mem_iff_getElem?.1 hp
  rw [e] at hj
  have hlk:=uR qH Tryz.underlying128 (aa h).cb (aa hc).keys (tV hn) (aa hc).1 hj
  have HE:Hid (mg y w t T S C (fun i=>i<=n') (.returned (.slice (some ⟨g,0,none⟩) dw.length cap)) w):=⟨dw,g,cap,C,rfl,h2',h3,h,hc,bg.refl _ _,fun p hp=>.inl hp,fun P hP hA=>⟨hA,hA p hp g _ _ (by rw [e])⟩⟩
  clear h hc hx hkd hcell hcf HF h1 h2 h2' h3 e hp hpn hy
  go_enter Tryz.func125,Tryz.ntmps125
  go_wp2_with fail
  go_ret
  exact aa HE
 ·have hmiss:∀ p∈C,p.1≠.int .i64 (n:Int):=fun p hp e=>hit ⟨p,hp,e⟩
  have hlk:=rX qH Tryz.underlying128 (aa h).cb (aa hc).keys (tV hn) hmiss (z:=.slice none 0 0) (by simp [go_sem])
  obtain ⟨gt,q5,a0,a1,a2,a3,-⟩:=(aa h).at hx
  rw [hkd] at a0
  have hlt:n<T.length:=(List.getElem?_eq_some_iff.1 hx).1
  have hnI:(n:Int)<(T.length:Int):=by omega
  have hn0:(0:Int)<=(n:Int):=by omega
  have hm0:(0:Int)<=(m:Int):=by omega
  have YI:(m:Int)<7:=by omega
  obtain ⟨kd,st,fi,se⟩:=k
  dsimp only at hkd a0 a1 a2 a3
  subst hkd
  have HA:=aZ.alloc h (.cells #[.int .i64 m,.string st,.int .i64 fi,.int .i64 se] 135)
  have sQ:Hid (bg t t w (w.alloc (.cells #[.int .i64 m,.string st,.int .i64 fi,.int .i64 se] 135))):=bg.below ((Below.refl _ _).alloc (Nat.le_refl _) _)
  have pJ:=iK.move (w':=w.alloc (.cells #[.int .i64 m,.string st,.int .i64 fi,.int .i64 se] 135)) hc (fun k hk _=>Below.heap_alloc w _ k hk)
  have NN:=hide (fun q=>aa HF _ (hide ((aa HA).drew q)) (iK.move (w':=(w.alloc (.cells #[.int .i64 m,.string st,.int .i64 fi,.int .i64 se] 135)).drewN q) pJ (fun _ _ _=>rfl)))
  unfold iF at NN
  dsimp only at NN
  have CJ:=hide (heap_alloc_new w (.cells #[.int .i64 m,.string st,.int .i64 fi,.int .i64 se] 135))
  have hnot:¬ TF t w.heap.size:=aZ.dW h (Nat.le_refl _)
  have qC:w.heap.size<(w.alloc (.cells #[.int .i64 m,.string st,.int .i64 fi,.int .i64 se] 135)).heap.size:=by simp
  have qk:=(aa HA).kind hcell
  have Jc:=hide hcell
  have HY:=hide hy
  clear h hc hx hy HF pJ hit hcell ZZ q2
  go_enter Tryz.func125,Tryz.ntmps125
  go_wp2_with fail
  generalize w.alloc (.cells #[.int .i64 m,.string st,.int .i64 fi,.int .i64 se] 135)=Wk at *
  obtain ⟨k0,k1,k2,k3⟩:=bO (aa CJ)
  clear q1 q3 q4 q5 a0 a1 a2 a3 hlk HA
  generalize hkb:w.heap.size=kb at *
  go_region_held3 (fun w'=>w'.cell? ⟨kb,0,none⟩=some (.int .i64 m)/\w'.cell? ⟨kb,1,none⟩=some (.string st)/\w'.cell? ⟨kb,2,none⟩=some (.int .i64 fi)/\w'.cell? ⟨kb,3,none⟩=some (.int .i64 se)/\w'.cell? ⟨t.tb,m*3+2,none⟩=some (fv f)) (go_keep)
   ((refine Calls.mono (aa NN 1) ?_;clear NN;rintro x w2 ⟨dw,g2,cap2,C2,rfl,hcl,Jd,HT2,wJ,tY,hk2,KX⟩;obtain ⟨r0,r1,r2,r3⟩:=bO (bg.own tY qC hnot (aa CJ));have rk:=(aa HT2).kind (aa Jc);obtain ⟨p1,p2,p3,p4⟩:=(aa HT2).cells))
  have LM:∀ p∈C2,p.1≠.int .i64 (n:Int):=fun p hp e=>by
   rcases hk2 p hp with h1 | ⟨i,hi,h1⟩
   ·exact hmiss p h1 e
   ·rw [h1] at e
    injection e with _ e
    omega
  have hup:=uS qH Tryz.underlying128 (aa HT2).cb (aa wJ).keys (tV hn) LM (.slice (some ⟨g2,0,none⟩) dw.length cap2)
  have HT3:=hide ((aa HT2).W9 (C2++[(.int .i64 (n:Int),.slice (some ⟨g2,0,none⟩) dw.length cap2)]))
  have aaj:TF t t.cb:=.inr (.inr (.inr (.inl rfl)))
  have Ls:Hid (iK (ChangeMaps.setBlock w2 t.cb (mkMap (C2++[(.int .i64 (n:Int),.slice (some ⟨g2,0,none⟩) dw.length cap2)]))) t T (C2++[(.int .i64 (n:Int),.slice (some ⟨g2,0,none⟩) dw.length cap2)])):=by
   refine iK.move (hide ((aa wJ).add hn (aa HY) hcl (aa Jd) LM)) fun k hk hf=>bQ (fun e=>hf (by rw [e];exact aaj))
  have HR3:Hid (kP (ChangeMaps.setBlock w2 t.cb (mkMap (C2++[(.int .i64 (n:Int),.slice (some ⟨g2,0,none⟩) dw.length cap2)]))) t g2 cap2 dw):=(aa Jd).move (bQ (fun e=>(aa Jd).apart (by rw [e];exact aaj)))
  have hf2:=aa tY
  have uG:Hid (bg t t w (ChangeMaps.setBlock w2 t.cb (mkMap (C2++[(.int .i64 (n:Int),.slice (some ⟨g2,0,none⟩) dw.length cap2)])))):=bg.set ((aa sQ).trans ⟨hf2.os,hf2.tape,hf2.output,hf2.size,hf2.block,hf2.tb,hf2.nb,hf2.sb,hf2.cb,hf2.row⟩) aaj _
  have Xu:Hid (∀ p∈C2++[(.int .i64 (n:Int),Value.slice (some ⟨g2,0,none⟩) dw.length cap2)],p∈C\/∃ i,i<=n/\p.1=.int .i64 ((i:Nat):Int)):=fun p hp=>by
   rcases List.mem_append.1 hp with hp | hp
   ·rcases hk2 p hp with h1 | ⟨i,hi,h1⟩
    ·exact .inl h1
    ·exact .inr ⟨i,by omega,h1⟩
   ·rw [List.mem_singleton] at hp
    exact .inr ⟨n,Nat.le_refl _,by rw [hp]⟩
  have Zy:Hid (∀ P:Nat->Prop,(∀ k,P k->k<kb)->Av P C->Av P (C2++[(.int .i64 (n:Int),Value.slice (some ⟨g2,0,none⟩) dw.length cap2)])/\¬ P g2):=fun P hP hA=>by
   obtain ⟨q1,q2⟩:=KX P (fun k hk=>Nat.lt_trans (hP k hk) qC) hA
   refine ⟨fun p hp g' n' c' e=>?_,q2⟩
   rcases List.mem_append.1 hp with hp | hp
   ·exact q1 p hp g' n' c' e
   ·rw [List.mem_singleton] at hp
    rw [hp] at e
    injection e with e1
    injection e1 with e1
    injection e1 with e1
    rw [<-e1];exact q2
  have yT:=hide hcl
  clear KX hmiss LM hk2 hf2 hcl wJ Jd HT2 tY CJ r0 r1 r2 r3 rk
  go_wp2_with fail
  go_ret
  exact ⟨dw,g2,cap2,_,rfl,aa yT,HR3,HT3,Ls,uG,aa Xu,by rw [hkb];exact aa Zy⟩
end
end Go.Proofs.YtfolanohokflkaaGreatDoor
namespace Go.Proofs.YtfolanohokflkaaGreatDoor
open Go.RowKit
theorem Xv:(Tryz.prog.info? 61).map (fun i=>(i.zero,i.size,i.bytes))=some (some (.string ⟨#[]⟩),1,16):=by kernel_rfl
section
variable {w:World} {t:TB} {T:List Te} {S C:List (Value×Value)}
end
end Go.Proofs.YtfolanohokflkaaGreatDoor
namespace Go.Proofs.YtfolanohokflkaaGreatDoor
open Go.RowKit
theorem Qv {w w':World} {B B':Nat} {e e':TypeId} {size size' n m:Nat} {v u:Value} {xs ys:List Value} (hne:e'≠e) (hv:w.ownsRow B e size v n xs) (hu:w.ownsRow B' e' size' u m ys) (hg:w.grownBy w' v.ownBlock):w'.ownsRow B' e' size' u m ys:=by
 obtain ⟨hl,hx | ⟨g,cap,cur,rfl,hb,hgr,rest⟩⟩:=hu
 ·exact ⟨hl,.inl hx⟩
 ·refine ⟨hl,.inr ⟨g,cap,cur,rfl,hb,?_,rest⟩⟩
  have hlt:=(Array.getElem?_eq_some_iff.1 hgr).1
  rw [hg.block g hlt (fun e2=>?_)]
  ·exact hgr
  ·obtain ⟨_,⟨rfl,_⟩ | ⟨g',cap',cur',rfl,_,hgr',_⟩⟩:=hv
   ·cases e2
   ·have:g=g':=by simpa [Value.ownBlock] using e2
    subst this
    rw [hgr] at hgr'
    injection hgr' with q
    injection q with _ q
    exact hne q
theorem mH {ts e:TypeId} {z:Value} {size bytes:Nat} (hu:Tryz.prog.underlying ts=some (.slice e)) (hinfo:(Tryz.prog.info? e).map (fun i=>(i.zero,i.size,i.bytes))=some (some z,size,bytes)) (hzs:z.cells.size=size) (hsz:0<size) (hby:bytes<=1000)
  {ops:Array Oper} {rest:List Oper} {o:Oper} {a:Act} {Q:Exit->Act->World->Prop} (B:Nat) (w wr:World) (n:Nat) (xs news:List Value) (v:Value) (s x:Operand) (hg:o.guard=none)
  (hop:o.op=.call { callee:=.builtin .append,args:=#[s,x],argTypes:=#[ts,ts] }) (hs:a.eval s=v) (H:Nat) (hH:wr.heap.size=H) (hx:a.eval x=.slice (some ⟨H,0,none⟩) 1 1)
  (ho:Hid (wr.ownsRow B e size v n xs)) (hb:Hid (Below B w wr)) (hB:B<=wr.heap.size) (hl:n<=100000000000) (hnl:news.length=size) (hn1:∀ u∈news,u.oneCell'=true)
  (K:∀ g cap w',Hid (w'.ownsRow B e size (.slice (some ⟨g,0,none⟩) (n+1) cap) (n+1) (xs++news))->Hid (Below B w w')->Hid (∀ B' e' s' u m ys,e'≠e->wr.ownsRow B' e' s' u m ys->w'.ownsRow B' e' s' u m ys)->wpList Tryz.prog ops Q rest (a.put o.dst (.slice (some ⟨g,0,none⟩) (n+1) cap)) w') :
  wpList Tryz.prog ops Q (o::rest) a (wr.alloc (.cells news.toArray e)):=by
 obtain ⟨i0,hi,hz0,hz1,hz2⟩:=info_parts hinfo
 subst hH
 have ho':=aa ho
 refine wpList_append_own _ hg s x ts hop B e i0 z size bytes hu hi hz0 hz1 hz2 hzs hsz _ _ _ hs (ho'.alloc _) ⟨wr.heap.size,0,none⟩ 1 1 news hx (by rw [hnl];omega) (bR wr news _) hn1 (by unfold maxLen;omega) (Nat.le_trans (Nat.mul_le_mul_left _ hby) (by omega)) (by simp;omega) ?_
 intro v' w' h1 h2 _
 obtain ⟨ao,cap,rfl,hv⟩:=aN h1
 obtain ⟨g,rfl,-⟩:=hv (by omega)
 refine K g cap w' h1 (jd (aa hb) ho' h2 hB) fun B' e' s' u m ys hne hu'=>?_
 exact Qv hne (ho'.alloc _) (hu'.alloc _) h2
def strs (l:List ByteArray):List Value:=l.map Value.string
end Go.Proofs.YtfolanohokflkaaGreatDoor
namespace Go.Proofs.YtfolanohokflkaaGreatDoor
open Go.RowKit
def aA (l:List Nat):List Int:=List.map (fun (n:Nat)=>Int.ofNat n) l
theorem aL (l:List Nat):(aA l).length=l.length:=by simp [aA]
theorem il (a b:List Nat):aA (a++b)=aA a++aA b:=by simp [aA]
section
variable {w:World} {t:TB} {T:List Te} {S C:List (Value×Value)}
set_option maxRecDepth 100000 in
set_option maxHeartbeats 4000000 in
theorem Bv {n:Nat} {k:Bool} {l:List Nat} (h:Hid (aZ w t T (ak T) S C)) (hw:tX T) (hsp:j6 T k n l) (hl:l.length<=1000000) :
  Calls Tryz.prog 153 #[.pointer (some ⟨t.tb,0,none⟩),.int .i64 (kk k),.int .i64 n] w fun e w'=>∃ g cap,e=.returned (.slice (some ⟨g,0,none⟩) l.length cap)/\Hid (w'.ownsRow w.heap.size 3 1 (.slice (some ⟨g,0,none⟩) l.length cap) l.length (ints (aA l)))/\Hid (Below w.heap.size w w'):=by
 have HW:=hide hw
 have acJ:Hid (∃ pre rest,l=pre++rest/\pre=[]/\j6 T k n rest):=⟨[],l,rfl,rfl,hsp⟩
 clear hw hsp
 go_enter Tryz.func153,Tryz.ntmps153
 go_wp2_with fail
 go_loopw [7,2] (fun v i wr=>∃ (m:Nat) (pre rest:List Nat),i=.int .i64 (m:Int)/\Hid (l=pre++rest)/\Hid (j6 T k m rest)/\Hid (wr.ownsRow w.heap.size 3 1 v (aA pre).length (ints (aA pre)))/\Hid (Below w.heap.size w wr)) (fun _ i _=>(intOf i).toNat)
 case atStart=>
  obtain ⟨pre,rest,e,rfl,hs⟩:=aa acJ
  exact ⟨n,[],rest,rfl,e,hs,World.ownsRow_nil _ _ _ _,Below.refl _ _⟩
 case round=>
  obtain ⟨m,pre,rest,rfl,HE,HS,HO,HB⟩:=hrel
  have hpre:(aA pre).length<=1000000:=by
   have:=congrArg List.length (aa HE)
   rw [List.length_append] at this
   rw [aL];omega
  have HT:=aZ.below h (aa HB)
  have hs0:=aa HS
  clear HS
  cases hs0 with
  | @one m x hx hk=>
   obtain ⟨g,q2,c0,-⟩:=(aa HT).at hx
   have hlt:=(List.getElem?_eq_some_iff.1 hx).1
   have hiI:(m:Int)<(T.length:Int):=by omega
   have hi0:(0:Int)<=(m:Int):=by omega
   have hnk:(x.1.kd==kk k)=false:=by simpa using hk
   generalize x.1.kd=xk at *
   generalize kk k=kv at *
   clear hx hk HT
   have HL:Hid (l=pre++[m]):=HE
   go_wp2_with (at_builtin;refine Nt w wr (aA pre) _ (m:Int) (.tmp 40) (.tmp 42) rfl rfl rfl rfl HO HB (by omega) ?_;intro v' w' lD HB2)
   have hl2:(aA pre++[(m:Int)])=aA l:=by rw [aa HL,il];rfl
   rw [hl2,aL] at lD
   obtain ⟨ao,cap,rfl,hv⟩:=aN (aa lD)
   obtain ⟨g',rfl,-⟩:=hv (by rw [aa HL];simp)
   go_ret
   exact ⟨g',cap,rfl,lD,HB2⟩
  | @more m i j b l' hx hs=>
   obtain ⟨g,q2,c0,c1,c2,c3,c4⟩:=(aa HT).at hx
   have hlt:=(List.getElem?_eq_some_iff.1 hx).1
   have hij:=uH (aa HW) hx
   have hiI:(m:Int)<(T.length:Int):=by omega
   have hi0:(0:Int)<=(m:Int):=by omega
   dsimp only [bZ] at c0 c1 c2 c3
   generalize hkv:kk k=kv at *
   have HS2:=hide hs
   have HX:=hide hx
   clear hs hx
   go_wp2_with (at_builtin;refine Nt w wr (aA pre) _ (i:Int) (.tmp 19) (.tmp 29) rfl rfl rfl rfl HO HB (by omega) ?_;intro v' w' lD HB2;obtain ⟨g2,p2,d0,d1,d2,d3,d4⟩:=(aa (aZ.below h (aa HB2))).at (aa HX);dsimp only [bZ] at d0 d1 d2 d3)
   go_roundw
   case rel=>
    refine ⟨j,pre++[i],l',rfl,?_,HS2,?_,HB2⟩
    ·show _=_
     rw [aa HE,List.append_assoc];rfl
    ·have e2:aA (pre++[i])=aA pre++[(i:Int)]:=by rw [il];rfl
     show World.ownsRow _ _ _ _ _ _ _
     rw [e2];exact lD
   case measure=>simp [intOf];omega
end
end Go.Proofs.YtfolanohokflkaaGreatDoor
