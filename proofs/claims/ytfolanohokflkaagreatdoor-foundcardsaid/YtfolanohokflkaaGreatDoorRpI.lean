import Derived.Test.YtfolanohokflkaaGreatDoorShelfH
import Derived.Test.YtfolanohokflkaaGreatDoorSoN
import Derived.Test.YtfolanohokflkaaGreatDoorApA
import Derived.Test.YtfolanohokflkaaGreatDoorSpA
import Derived.WalkKit
import Derived.Deep.AppendLies
import Derived.Deep.RegionHeld3
import Derived.WalkSpells
import Derived.WalkLawsBesides
import Derived.WalkMore
import Derived.Deep.QuietTactic
import Derived.BigQuiet
import Derived.Test.YtfolanohokflkaaGreatDoorRpG
namespace Go.Proofs.YtfolanohokflkaaGreatDoor
open Go.RowKit
theorem U8 {w:World} {g n m cap:Nat} {l r:List Int} (h:w.ownsRow 0 3 1 (.slice (some ⟨g,0,none⟩) n cap) n (ints (l++r))) (hm:l.length=m) (hle:m<=n):w.ownsRow 0 3 1 (.slice (some ⟨g,0,none⟩) m cap) m (ints l):=by
 obtain ⟨hlen,⟨hv,_⟩ | ⟨g',cap',cur,hv,hb,hgr,hn',hmx,hs,ht⟩⟩:=h
 ·cases hv
 ·injection hv with e1 e2 e3
  injection e1 with e1
  injection e1 with e1
  subst e1
  subst e3
  subst hm
  refine ⟨by simp [ints],.inr ⟨g,cap,cur,rfl,hb,hgr,by omega,hmx,hs,?_⟩⟩
  have h2:=congrArg (List.take (l.length*1)) ht
  rw [List.take_take,Nat.min_eq_left (by omega)] at h2
  rw [h2]
  unfold ints
  rw [List.map_append,List.take_append_of_le_length (by simp),List.take_of_length_le (by simp)]
theorem acH (w:World):w=w.drewN 0:=rfl
theorem YI (w:World) (g n cap:Nat) (l:List Int) (y:Int) (kb:Nat) (hl:l.length=n) (hN:n<=1000000000000) (h:w.ownsRow 0 3 1 (.slice (some ⟨g,0,none⟩) n cap) n (ints l)) (hk:w.cell? ⟨kb,0,none⟩=some (.int .i64 y)) (hne:kb≠g) :
  Calls Tryz.prog 157 #[.slice (some ⟨g,0,none⟩) n cap,.func (.func 158) #[] #[.pointer (some ⟨kb,0,none⟩)]] w fun e w'=>e=.returned (.slice (some ⟨g,0,none⟩) (l.filter fun x=>!decide (x=y)).length cap)/\w'.ownsRow 0 3 1 (.slice (some ⟨g,0,none⟩) (l.filter fun x=>!decide (x=y)).length cap) (l.filter fun x=>!decide (x=y)).length (ints (l.filter fun x=>!decide (x=y)))/\w.grownBy w' (some g):=by
 have hg:=qm h
 have hcap:n<=cap:=by
  obtain ⟨_,⟨hv,_⟩ | ⟨g',cap',cur,hv,_,_,hn',_⟩⟩:=h
  ·cases hv
  ·injection hv with _ _ e3
   omega
 have hkl:=World.block_lt_of_cell? w _ hk
 have hg1:∀ W:World,W.cell? ⟨kb,0,none⟩=some (.int .i64 y)->∀ x:Int,FnGives Tryz.prog 158 #[.pointer (some ⟨kb,0,none⟩)] #[Cm x] (.bool (decide (x=y))) W:=fun W hW x=>
  (acd (x:=x) hW).mono fun e w' ⟨h1,h2⟩=>⟨h1,0,by rw [<-h2];exact acH W⟩
 have hPA:PredAt Tryz.prog 158 #[.pointer (some ⟨kb,0,none⟩)] Cm (fun x=>decide (x=y)) w:=fun W x hb=>hg1 W ((hb.cell (p:=⟨kb,0,none⟩) hkl).trans hk) x
 have hPO:PredOver Tryz.prog 158 #[.pointer (some ⟨kb,0,none⟩)] Cm (fun x=>decide (x=y)) g 0 l.toArray.size w:=fun m os dk x _=>hg1 _ (by
  have e1:(sortWorld Cm w g 0 m dk os).heap[kb]? = w.heap[kb]? := by
   show (Sort.grow (Sort.putRow Cm (Sort.ahead w m) g 0 dk) os).heap[kb]? = _
   rw [Sort.heap_grow_old _ _ (by simpa using hkl)]
   show (w.heap.modify g _)[kb]? = _
   rw [Array.getElem?_modify,if_neg (fun e=>hne e.symm)]
  rw [World.cell?_of_block (w:=w) (a:=⟨kb,0,none⟩) e1];exact hk) x
 have hsz:l.toArray.size=n:=by simpa using hl
 have:=AnyE.slices_DeleteFunc Tryz.YH Cm (fun _=>rfl) (fun x=>decide (x=y)) 158 #[.pointer (some ⟨kb,0,none⟩)] (aM Tryz.func158 (by kernel_rfl) (by kernel_rfl)) 0 (fun _=>Tryz.zeroValue3 _) g 0 cap l.toArray w hPA hPO (uX hl h) (by rw [hsz];omega) (by rw [hsz];exact hcap)
 rw [hsz] at this
 refine this.mono ?_
 rintro e w' ⟨rfl,m,rfl⟩
 have hfl:(l.filter fun x=>!decide (x=y)).length<=n:=by rw [<-hl];exact List.length_filter_le _ _
 have hr:((l.filter fun x=>!decide (x=y))++List.replicate (n - (l.filter fun x=>!decide (x=y)).length) 0).length=n:=by
  rw [List.length_append,List.length_replicate];omega
 have hp:=Co (os:=#[]) (m:=m) hr h hg
 rw [ahead_grow] at hp
 exact ⟨rfl,U8 hp.1 rfl hfl,hp.2⟩
theorem U9 {w:World} {g n cap m:Nat} {l r:List Int} {os:Array Obj} (hr:r.length=n) (h:w.ownsRow 0 21 1 (.slice (some ⟨g,0,none⟩) n cap) n (runeCells l)) (hg:g<w.heap.size) :
  (Sort.grow (Sort.putRow encR (Sort.ahead w m) g 0 r.toArray) os).ownsRow 0 21 1 (.slice (some ⟨g,0,none⟩) n cap) n (runeCells r)/\w.grownBy (Sort.grow (Sort.putRow encR (Sort.ahead w m) g 0 r.toArray) os) (some g):=by
 obtain ⟨hlen,⟨hv,_⟩ | ⟨g',cap',cur,hv,hb,hgr,hn',hm,hs,ht⟩⟩:=h
 ·cases hv
 ·injection hv with e1 e2 e3
  injection e1 with e1
  injection e1 with e1
  subst e1
  subst e3
  refine ⟨⟨by simpa [runeCells] using hr,.inr ⟨g,cap,Sort.putCells encR 0 r.toArray cur,rfl,hb,?_,hn',hm,?_,?_⟩⟩,?_⟩
  ·rw [Sort.heap_grow_old _ _ (by simpa using hg)]
   show (w.heap.modify g _)[g]? = _
   rw [Array.getElem?_modify,if_pos rfl,hgr]
   rfl
  ·simpa [Sort.putCells] using hs
  ·have hcs:r.toArray.size<=cur.size:=by
    simp [hr]
    omega
   have:=take_putCells r.toArray cur hcs
   simp only [List.size_toArray,hr] at this
   simpa using this
  ·refine ⟨rfl,rfl,rfl,by simp,fun k hk hne=>?_⟩
   rw [Sort.heap_grow_old _ _ (by simpa using hk)]
   show (w.heap.modify g _)[k]? = _
   rw [Array.getElem?_modify,if_neg (fun e=>hne (by rw [e]))]
theorem GL (w:World) (g n cap:Nat) (l:List Int) (hl:l.length=n) (hN:n<=1000000000000) (h:w.ownsRow 0 21 1 (.slice (some ⟨g,0,none⟩) n cap) n (runeCells l)) (hle:(Lib.compact l).length<=n) :
  Calls Tryz.prog 240 #[.slice (some ⟨g,0,none⟩) n cap] w fun e w'=>e=.returned (.slice (some ⟨g,0,none⟩) (Lib.compact l).length cap)/\w'.ownsRow 0 21 1 (.slice (some ⟨g,0,none⟩) (Lib.compact l).length cap) (Lib.compact l).length (runeCells (Lib.compact l))/\w.grownBy w' (some g):=by
 have hg:g<w.heap.size:=(h.lt g rfl).2
 have hcap:n<=cap:=by
  obtain ⟨_,⟨hv,_⟩ | ⟨g',cap',cur,hv,_,_,hn',_⟩⟩:=h
  ·cases hv
  ·injection hv with _ _ e3
   omega
 have hsz:l.toArray.size=n:=by simpa using hl
 have:=AnyE.slices_Compact Tryz.GK encR (fun _=>rfl) (EqlAt.intD _ _ .i32) (NeqAt.intD _ _ .i32) 0 (fun _=>Tryz.zeroValue21 _) g 0 cap l.toArray w (ES hl h) (by rw [hsz];omega) (by rw [hsz];exact hcap)
 rw [hsz,<-hl] at this
 refine (show Calls Tryz.prog 240 #[.slice (some ⟨g,0,none⟩) n cap] w _ from by rw [<-hl];exact this).mono ?_
 rintro e w' ⟨rfl,m,rfl⟩
 have hr:(Lib.compact l++List.replicate (n - (Lib.compact l).length) 0).length=n:=by
  rw [List.length_append,List.length_replicate];omega
 have hp:=U9 (os:=#[]) (m:=m) hr h hg
 rw [ahead_grow,<-hl] at hp
 refine ⟨rfl,?_,hp.2⟩
 obtain ⟨hlen,⟨hv,_⟩ | ⟨g',cap',cur,hv,hb,hgr,hn',hmx,hs,ht⟩⟩:=hp.1
 ·cases hv
 ·injection hv with e1 e2 e3
  injection e1 with e1
  injection e1 with e1
  subst e1
  subst e3
  refine ⟨by simp [runeCells],.inr ⟨g,cap,cur,rfl,hb,hgr,by omega,hmx,hs,?_⟩⟩
  have h2:=congrArg (List.take ((Lib.compact l).length*1)) ht
  rw [List.take_take,Nat.min_eq_left (by omega)] at h2
  rw [h2]
  unfold runeCells
  rw [List.map_append,List.take_append_of_le_length (by simp),List.take_of_length_le (by simp)]
end Go.Proofs.YtfolanohokflkaaGreatDoor
namespace Go.Proofs.YtfolanohokflkaaGreatDoor
open Go.RowKit
open Tm (eps)
section
variable {w:World} {t:TB} {T:List Te} {N S C:List (Value×Value)}
theorem OY (W:World) (B:Nat) (i:Int) (hB:B<=W.heap.size):(W.alloc (.cells #[.int .i64 i] 3)).ownsRow B 3 1 (.slice (some ⟨W.heap.size,0,none⟩) 1 1) 1 (ints [i]):=
 ⟨rfl,.inr ⟨W.heap.size,1,#[.int .i64 i],rfl,hB,heap_alloc_new W _,Nat.le_refl _,by decide,rfl,rfl⟩⟩
theorem aa_ {T:List Te} {k:Bool} {n:Nat} {l:List Nat} (h:ko T k n l):0<l.length:=by cases h<;>simp
theorem yT {W0 W:World} {k:Bool} {j kb:Nat} {l:List Nat} {ob:Obj} (h:Hid (aZ W t T (au T) S C)) (hw:uz T) (hsp:ko T k j l) (hl:l.length<=1000000) (hb:Below kb W0 W) (hkb:W.heap[kb]? = some ob) :
  Calls Tryz.prog 153 #[.pointer (some ⟨t.tb,0,none⟩),.int .i64 (kk k),.int .i64 j] W fun e w'=>∃ g cap,e=.returned (.slice (some ⟨g,0,none⟩) l.length cap)/\Hid (w'.ownsRow W.heap.size 3 1 (.slice (some ⟨g,0,none⟩) l.length cap) l.length (ints (az l)))/\Hid (Below kb W0 w')/\Hid (w'.heap[kb]? = some ob)/\Hid (Below W.heap.size W w')/\kb<w'.heap.size:=by
 have hlt:kb<W.heap.size:=(Array.getElem?_eq_some_iff.1 hkb).1
 refine (Ck h hw hsp hl).mono ?_
 rintro e w' ⟨g,cap,he,h1,h2⟩
 exact ⟨g,cap,he,h1,hb.trans ((aa h2).mono (by omega)),((aa h2).block kb hlt).trans hkb,h2,Nat.lt_of_lt_of_le hlt (aa h2).size⟩
set_option maxRecDepth 100000 in
set_option maxHeartbeats 4000000 in
theorem Fa {k:Bool} {i j:Nat} {l:List Nat} (h:Hid (aZ w t T (au T) S C)) (hw:uz T) (hsp:ko T k j l) (hl:l.length<=1000000) :
  Calls Tryz.prog 181 #[.pointer (some ⟨t.tb,0,none⟩),iD (bZ k i j)] w fun e w'=>∃ g cap,e=.returned (.slice (some ⟨g,0,none⟩) (l.length+1) cap)/\Hid (w'.ownsRow w.heap.size 3 1 (.slice (some ⟨g,0,none⟩) (l.length+1) cap) (l.length+1) (ints (az (i::l))))/\Hid (Below w.heap.size w w'):=by
 unfold iD bZ
 dsimp only
 obtain ⟨i0,hi0,hz0,hz1,hz2⟩:=info_parts gU
 have HT1:=aZ.alloc h (.cells #[.int .i64 (kk k),.string ⟨#[]⟩,.int .i64 (i:Int),.int .i64 (j:Int)] 135)
 have HB1:Hid (Below w.heap.size w (w.alloc (.cells #[.int .i64 (kk k),.string ⟨#[]⟩,.int .i64 (i:Int),.int .i64 (j:Int)] 135))):=(Below.refl _ _).alloc (Nat.le_refl _) _
 have hs1:(w.alloc (.cells #[.int .i64 (kk k),.string ⟨#[]⟩,.int .i64 (i:Int),.int .i64 (j:Int)] 135)).heap.size=w.heap.size+1:=by simp
 have Du:=hide (heap_alloc_new w (.cells #[.int .i64 (kk k),.string ⟨#[]⟩,.int .i64 (i:Int),.int .i64 (j:Int)] 135))
 have hlp:=aa_ hsp
 go_enter Tryz.func181,Tryz.ntmps181
 go_wp2_with fail
 generalize w.alloc (.cells #[.int .i64 (kk k),.string ⟨#[]⟩,.int .i64 (i:Int),.int .i64 (j:Int)] 135)=W1 at *
 obtain ⟨k0,k1,k2,k3⟩:=bJ (aa Du)
 have HTa:Hid (aZ W1.drew t T (au T) S C):=hide ((aa HT1).drew 1)
 have HSa:=hide (yT (kb:=w.heap.size) HTa hw hsp hl (show Below w.heap.size w W1.drew from ⟨(aa HB1).os,(aa HB1).tape,(aa HB1).output,(aa HB1).size,(aa HB1).block⟩) (show W1.drew.heap[w.heap.size]? = _ from aa Du))
 have HTb:=aZ.alloc HTa (.cells #[.int .i64 (i:Int)] 3)
 have HSb:=hide (yT (kb:=w.heap.size) HTb hw hsp hl ((show Below w.heap.size w W1.drew from ⟨(aa HB1).os,(aa HB1).tape,(aa HB1).output,(aa HB1).size,(aa HB1).block⟩).alloc (show w.heap.size<=W1.heap.size by omega) _) ((Below.heap_alloc W1.drew _ _ (show w.heap.size<W1.heap.size by omega)).trans (show W1.drew.heap[w.heap.size]? = _ from aa Du)))
 have HOb:Hid ((W1.drew.alloc (.cells #[.int .i64 (i:Int)] 3)).ownsRow (w.heap.size+1) 3 1 (.slice (some ⟨w.heap.size+1,0,none⟩) 1 1) 1 (ints [(i:Int)])):=(by have:=OY W1.drew (w.heap.size+1) (i:Int) (show w.heap.size+1<=W1.heap.size by omega);rw [show W1.drew.heap.size=w.heap.size+1 from hs1] at this;exact this)
 clear h hw hsp HT1 HTa HTb HB1
 generalize hkb:w.heap.size=kb at *
 go_region_held3 (fun w'=>w'.cell? ⟨kb,0,none⟩=some (.int .i64 (kk k))/\w'.cell? ⟨kb,2,none⟩=some (.int .i64 i)/\w'.cell? ⟨kb,3,none⟩=some (.int .i64 j)) (go_keep)
  (first
   | (go_at_call 153;first | (refine (aa HSa).mono ?_;clear HSa;rintro e w3 ⟨g3,f_,rfl,p8,HB3,YB,YG,hlt3⟩;obtain ⟨r0,r1,r2,r3⟩:=bJ (aa YB);have HOx:=hide (OY w3 (kb+1) (i:Int) hlt3);have HK4:=hide ((Below.heap_alloc w3 (.cells #[.int .i64 (i:Int)] 3) kb hlt3).trans (aa YB));  have xR:=hide ((aa p8).alloc (.cells #[.int .i64 (i:Int)] 3));have p9:Hid (Below kb w (w3.alloc (.cells #[.int .i64 (i:Int)] 3))):=(aa HB3).alloc (Nat.le_of_lt hlt3) _;have YJ:kb<(w3.alloc (.cells #[.int .i64 (i:Int)] 3)).heap.size:=(by simp;omega)) | (refine (aa HSb).mono ?_;clear HSb;rintro e w3 ⟨g3,f_,rfl,xR,p9,YB,YG,hlt3⟩;obtain ⟨r0,r1,r2,r3⟩:=bJ (aa YB);have HOx:=hide (own_below (aa HOb) (aa YG) (Nat.le_refl _));have YJ:=hlt3;have HK4:=YB))
   | (refine step_append_lies _ (by rfl) _ _ _ (by rfl) (kb+1) 3 i0 _ 1 8 Tryz.underlying31 hi0 hz0 hz1 hz2 rfl (by omega) _ 1 (ints [(i:Int)]) (by rfl) (aa HOx) ⟨g3,0,none⟩ l.length f_ (ints (az l)) (by rfl) (by simp [ints,az]) ((aa xR).cells rfl) (by intro u hu;obtain ⟨z,_,rfl⟩:=List.mem_map.1 hu;rfl) hlp (by unfold maxLen;omega) (by omega) YJ _ rfl ?_;intro g5 cap5 w5 hown5 hgr5 adC aef;have iC:=hide hown5;have kV:=hide (below_grown (aa p9) (eH (aa HOx) (Nat.le_succ kb)) hgr5 (Nat.le_of_lt YJ));have FO:=hide ((hgr5.block kb YJ (fun e=>by have:=((aa HOx).lt kb e.symm).1;omega)).trans (aa HK4));obtain ⟨q0,q1,q2,q3⟩:=bJ (aa FO);clear hown5 hgr5 adC))
 all_goals go_wp2_with fail
 all_goals go_ret
 all_goals (refine ⟨g5,cap5,by simp [Nat.add_comm],?_,by rw [hkb];exact kV⟩;show World.ownsRow _ _ _ _ _ _ _;rw [Nat.add_comm l.length 1,hkb];exact eH (aa iC) (Nat.le_succ kb))
end
end Go.Proofs.YtfolanohokflkaaGreatDoor
namespace Go.Proofs.YtfolanohokflkaaGreatDoor
open Tm (eps)
variable {B:List Int}
theorem wN {T:List Te} (h:TI B T) {k:Bool} {ms:List Nat} {us:List Tm} (hm:MOk T k ms) (hr:ic T ms us) (hz:dH k∉ms.filter fun m=>decide (m≠a_ k)):(ms.filter fun m=>decide (m≠a_ k)).length<=(memT k (aj k us)).length:=by
 generalize hL:ms.filter (fun m=>decide (m≠a_ k))=L at *
 by_cases hne:L=[]
 ·subst hne;exact Nat.zero_le _
 have hsub:∀ m,m∈L↔m∈ms/\m≠a_ k:=fun m=>by rw [<-hL];simp
 obtain ⟨ts,hts⟩:=ic.of (T:=T) (l:=L) fun n hn=>by
  obtain ⟨t,ht,_⟩:=h.all n (hr.lt n ((hsub n).1 hn).1)
  exact ⟨t,ht⟩
 have hsame:aj k us=aj k ts:=by
  refine Cg (hr.cn h.toTJ) (hts.cn h.toTJ) fun t ht=>?_
  rw [hr.mem,hts.mem]
  constructor
  ·rintro ⟨n,hn,h1⟩
   refine ⟨n,(hsub n).2 ⟨hn,?_⟩,h1⟩
   rintro rfl
   exact ht (h1.uniq (h.idle k))
  ·rintro ⟨n,hn,h1⟩
   exact ⟨n,((hsub n).1 hn).1,h1⟩
 rw [hsame]
 have hg:Xj T k L:=by
  refine ⟨fun m hmL=>?_,?_⟩
  ·obtain ⟨h1,h2⟩:=(hsub m).1 hmL
   have h3:m≠dH k:=by rintro rfl;exact hz hmL
   obtain ⟨x,hx,hk⟩:=hm.mem m h1
   cases k
   ·exact ⟨by simpa [a_] using h2,by simpa [dH] using h3,x,hx,hk⟩
   ·exact ⟨by simpa [dH] using h3,by simpa [a_] using h2,x,hx,hk⟩
  ·rw [<-hL];exact hm.ord.filter _
 obtain ⟨o,sp⟩:=Ci h hne hg hts
 have hup:ic (joinL T k L).1 L ts:=by
  obtain ⟨X,e⟩:=o.sub
  rw [e];exact hts.mono
 rw [<-hup.len]
 have hn:=hup.nodup o.ti (pK hg.ord)
 exact jf hn fun t ht=>(o.ti.mem o.rp sp t).2 (hup.mem.1 ht)
theorem RH {T:List Te} (h:TJ T) {k:Bool} {n:Nat} {l:List Nat} (sp:ko T k n l):l.Nodup:=by
 cases sp with
 | one _ _=>simp
 | more hx sp=>exact pK (h.gok _ _ _ _ _ hx _ (.more hx sp)).ord
theorem zY {T:List Te} (h:TI B T) {k:Bool} {n:Nat} {t:Tm} {l:List Nat} (hr:Rp T n t) (sp:ko T k n l):l.length<=(memT k t).length:=by
 obtain ⟨ts,hts⟩:=ic.of (T:=T) (l:=l) fun m hm=>by
  obtain ⟨x,hx,_⟩:=sp.kinds h.toTJ m hm
  obtain ⟨y,hy,_⟩:=h.all m (List.getElem?_eq_some_iff.1 hx).1
  exact ⟨y,hy⟩
 rw [<-hts.len]
 exact jf (hts.nodup h (RH h.toTJ sp)) fun x hx=>(h.mem hr sp x).2 (hts.mem.1 hx)
theorem Cr {T:List Te} {k:Bool} {b:Nat}:∀ {l:List Nat},(∀ n∈l,(gK T k n).length<=b)->(l.flatMap (gK T k)).length<=l.length*b
 | [],_=>by simp
 | a::l,h=>by
  have h1:=h a (List.mem_cons_self ..)
  have h2:=Cr (l:=l) fun n hn=>h n (List.mem_cons_of_mem _ hn)
  rw [List.flatMap_cons,List.length_append,List.length_cons,Nat.add_mul]
  omega
theorem GM {T:List Te} (h:TI B T):∀ {L:List Nat},(∀ m∈L,aX T m=true)->∃ ss:List af,ic T L (ss.map Tm.set)/\L.map (Xn T)=ss.map encS/\∀ s∈ss,Tidy s/\bY B s
 | [],_=>⟨[],.nil,rfl,by simp⟩
 | m::L,hL=>by
  obtain ⟨ss,h1,h2,h3⟩:=GM h (L:=L) fun n hn=>hL n (List.mem_cons_of_mem _ hn)
  obtain ⟨x,hx,hk⟩:=l7.1 (hL m (List.mem_cons_self ..))
  obtain ⟨t,ht,_⟩:=h.all m (List.getElem?_eq_some_iff.1 hx).1
  obtain ⟨s,b,e1,e2,e3⟩:=(h.kind ht hx).2.2.2 hk
  subst e2
  refine ⟨s::ss,.cons ht h1,?_,fun y hy=>?_⟩
  ·rw [List.map_cons,List.map_cons,h2]
   have:Xn T m=encS s:=by unfold Xn;rw [hx,e1];rfl
   rw [this]
  ·rcases List.mem_cons.1 hy with rfl | hy
   ·exact ⟨e3,h.sin _ _ ht⟩
   ·exact h3 y hy
theorem OZ {T:List Te} (h:TI B T) {k:Bool} {ns:List Nat} (hM:MOk T k ns) (hns:∀ m∈ns,¬ MP T m) {s:af} (hs:Tidy s) (hb:bY B s):MOk (fD T (encS s)).1 k (ns++[(fD T (encS s)).2]):=by
 have oQ:=Op.set h hs hb
 obtain ⟨X,eX⟩:=oQ.sub
 obtain ⟨b0,hb0⟩:=Ch T (j6 (encS s))
 have hlt:∀ m∈ns,m<T.length:=fun m hm=>by
  obtain ⟨x,hx,_⟩:=hM.mem m hm
  exact (List.getElem?_eq_some_iff.1 hx).1
 refine ⟨fun m hm=>?_,?_⟩
 ·rcases List.mem_append.1 hm with q | q
  ·obtain ⟨x,hx,hk⟩:=hM.mem m q
   exact ⟨x,oQ.get hx,hk⟩
  ·have:m=(fD T (encS s)).2:=by simpa using q
   subst this
   exact ⟨_,hb0,fun e=>(kk_ne k).1 e.symm⟩
 ·have hnew:∀ m∈ns,¬ MP (fD T (encS s)).1 m:=fun m hm=>by
   rw [eX,zW (hlt m hm)];exact hns m hm
  refine List.pairwise_append.2 ⟨hM.ord.imp_of_mem fun {a b} ha hb q=>⟨hnew a ha,?_⟩,by simp,fun a ha b hb=>?_⟩
  ·exact .inr (q.2.resolve_left (hns b hb))
  ·have:b=(fD T (encS s)).2:=by simpa using hb
   subst this
   exact ⟨hnew a ha,.inl ⟨_,hb0,rfl⟩⟩
end Go.Proofs.YtfolanohokflkaaGreatDoor
namespace Go.Proofs.YtfolanohokflkaaGreatDoor
open Tm (eps)
section
variable {B:List Int}
theorem J_ {T:List Te} (hnd:(T.map (·.1)).Nodup) {n:Nat} {κ:Ky} {b:Bool} (hx:T[n]? = some (κ,b)):dR T κ=(T,n):=by
 rcases dY T κ with ⟨i,b',hi,e⟩ | ⟨hno,_⟩
 ·rw [e]
  obtain ⟨h1,h2⟩:=List.getElem?_eq_some_iff.1 hi
  obtain ⟨h3,h4⟩:=List.getElem?_eq_some_iff.1 hx
  have h5:(T.map (·.1))[i]'(by simpa using h1)=(T.map (·.1))[n]'(by simpa using h3):=by simp [h2,h4]
  have h6:i=n:=(List.getElem_inj hnd).1 h5
  rw [h6]
 ·exact absurd rfl (hno _ (List.mem_iff_getElem?.2 ⟨n,hx⟩))
theorem MW {T:List Te} (hnd:(T.map (·.1)).Nodup) {k:Bool} {n:Nat} {l:List Nat} (h:ko T k n l):joinL T k l=(T,n):=by
 induction h with
 | one _ _=>rfl
 | @more n i j b l hx hs ih=>
  cases l with
  | nil=>exact absurd rfl hs.ne
  | cons a r=>
   show dR (joinL T k (a::r)).1 (bZ k i (joinL T k (a::r)).2)=_
   rw [ih]
   exact J_ hnd hx
theorem aae {T:List Te}:∀ {l l':List Nat},l.Pairwise (Bf T)->l'.Pairwise (Bf T)->(∀ m,m∈l↔m∈l')->l=l'
 | [],[],_,_,_=>rfl
 | [],b::_,_,_,h=>by have:=(h b).2 (List.mem_cons_self ..);cases this
 | a::_,[],_,_,h=>by have:=(h a).1 (List.mem_cons_self ..);cases this
 | a::l,b::l',h1,h2,h=>by
  have hn1:=pK h1
  have hn2:=pK h2
  have e:a=b:=by
   rcases List.mem_cons.1 ((h a).1 (List.mem_cons_self ..)) with q | q
   ·exact q
   ·rcases List.mem_cons.1 ((h b).2 (List.mem_cons_self ..)) with q' | q'
    ·exact q'.symm
    ·have x1:=(List.pairwise_cons.1 h2).1 a q
     have x2:=(List.pairwise_cons.1 h1).1 b q'
     rcases x1.2 with y | y
     ·exact absurd y x2.1
     ·rcases x2.2 with z | z
      ·exact absurd z x1.1
      ·omega
  subst e
  rw [aae (l:=l) (l':=l') (List.pairwise_cons.1 h1).2 (List.pairwise_cons.1 h2).2 fun m=>?_]
  have ha1:=(List.nodup_cons.1 hn1).1
  have ha2:=(List.nodup_cons.1 hn2).1
  constructor
  ·intro q
   rcases List.mem_cons.1 ((h m).1 (List.mem_cons_of_mem _ q)) with e | e
   ·subst e;exact absurd q ha1
   ·exact e
  ·intro q
   rcases List.mem_cons.1 ((h m).2 (List.mem_cons_of_mem _ q)) with e | e
   ·subst e;exact absurd q ha2
   ·exact e
theorem Cs {T:List Te} (h:TI B T) {k:Bool} {r:Nat} {l:List Nat} (sp:ko T k r l):iG T k l=(T,r):=by
 cases sp with
 | one hx hk=>
  unfold iG
  by_cases h1:r=a_ k
  ·subst h1;simp
  ·simp only [List.filter_cons,h1,ne_eq,not_false_eq_true,decide_true,if_true,List.filter_nil]
   rw [if_neg (by simp)]
   by_cases h2:dH k=r
   ·subst h2;simp
   ·rw [if_neg (by simpa using h2)];rfl
 | @more _ i j b l hx hs=>
  have hg:=h.gok r k i j b hx _ (.more hx hs)
  have hf:(i::l).filter (fun m=>decide (m≠a_ k))=i::l:=List.filter_eq_self.2 fun m hm=>by
   have:=hg.mem m hm
   unfold a_
   cases k
   ·simpa using this.1
   ·simpa using this.2.1
  unfold iG
  rw [hf,if_neg (by simp),if_neg (fun hm=>by
   have:=hg.mem _ hm
   unfold dH at this
   cases k
   ·exact this.2.1 rfl
   ·exact this.1 rfl)]
  exact MW h.nd (.more hx hs)
theorem Ka {T:List Te} (h:TI B T) {k:Bool} {r:Nat} {l0 L:List Nat} {ss:List af} (sp:ko T k r l0) (hL:L.Pairwise (· < ·)) (hmem:∀ m,m∈L↔m∈l0) (hss:ic T (L.filter fun m=>aX T m) (ss.map Tm.set)):Yy T k L (fJ k ss)=(T,r):=by
 have aba:l0.Pairwise (Bf T):=by
  cases sp with
  | one _ _=>simp
  | more hx hs=>exact (h.gok r k _ _ _ hx _ (.more hx hs)).ord
 have acI:∀ a∈L.filter (fun m=>aX T m),∀ b∈L.filter (fun m=>aX T m),a=b:=fun a ha b hb=>by
  obtain ⟨a1,a2⟩:=List.mem_filter.1 ha
  obtain ⟨b1,b2⟩:=List.mem_filter.1 hb
  have a3:=l7.1 a2
  have b3:=l7.1 b2
  obtain ⟨i,hi,rfl⟩:=List.mem_iff_getElem.1 ((hmem a).1 a1)
  obtain ⟨j,hj,rfl⟩:=List.mem_iff_getElem.1 ((hmem b).1 b1)
  rcases Nat.lt_trichotomy i j with q | q | q
  ·exact absurd a3 (List.pairwise_iff_getElem.1 aba i j hi hj q).1
  ·subst q;rfl
  ·exact absurd b3 (List.pairwise_iff_getElem.1 aba j i hj hi q).1
 have hns:∀ m∈L.filter (fun m=>!aX T m),¬ MP T m:=fun m hm q=>by
  have:=(List.mem_filter.1 hm).2
  rw [l7.2 q] at this;cases this
 have hA:(L.filter fun m=>!aX T m).Pairwise (Bf T):=(hL.filter _).imp_of_mem fun {a b} ha hb q=>⟨hns a ha,.inr q⟩
 have hD:(L.filter fun m=>aX T m).Pairwise (Bf T):=(hL.filter _).imp_of_mem fun {a b} ha hb q=>by
  have:=acI a ha b hb;omega
 have heq:(L.filter fun m=>!aX T m)++(L.filter fun m=>aX T m)=l0:=aae (List.pairwise_append.2 ⟨hA,hD,fun a ha b hb=>⟨hns a ha,.inl (l7.1 (List.mem_filter.1 hb).2)⟩⟩) aba fun m=>by
  rw [List.mem_append,List.mem_filter,List.mem_filter,<-hmem m]
  cases aX T m<;>simp
 generalize hDd:L.filter (fun m=>aX T m)=D at *
 cases D with
 | nil=>
  cases ss with
  | nil=>
   rw [List.append_nil] at heq
   show iG T k (L.filter fun m=>!aX T m)=_
   rw [heq]
   exact Cs h sp
  | cons s r=>cases hss
 | cons x D'=>
  have hD0:D'=[]:=by
   cases D' with
   | nil=>rfl
   | cons b _=>
    have e:=acI x (List.mem_cons_self ..) b (by simp)
    have hn:=pK hD
    rw [e] at hn
    simp at hn
  subst hD0
  cases ss with
  | nil=>cases hss
  | cons s ss'=>
   cases hss with
   | cons h1 h2=>
    have hs0:ss'=[]:=by
     cases ss' with
     | nil=>rfl
     | cons _ _=>cases h2
    subst hs0
    obtain ⟨b,hxb,-⟩:=(h.Xk h1).set h1 rfl
    have e1:fD T (encS s)=(T,x):=J_ h.nd hxb
    show iG (fD T (encS s)).1 k ((L.filter fun m=>!aX T m)++[(fD T (encS s)).2])=_
    rw [e1]
    show iG T k ((L.filter fun m=>!aX T m)++[x])=_
    rw [heq]
    exact Cs h sp
end
end Go.Proofs.YtfolanohokflkaaGreatDoor
