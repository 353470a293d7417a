import Derived.Test.YtfolanohokflkaaGreatDoorDcA
import Derived.Test.YtfolanohokflkaaGreatDoorNsB
import Derived.Deep.RegionHeld3
import Derived.Deep.AppendLies
import Derived.Deep.DrawnRows
import Derived.Test.YtfolanohokflkaaGreatDoorBlB
import Derived.Test.YtfolanohokflkaaGreatDoorEaB
import Derived.Defers
import Derived.Recover
import Derived.Deep.QuietTactic
import Derived.BigQuiet
namespace Go.Proofs.YtfolanohokflkaaGreatDoor
open Go.RowKit
open Tm (eps)
theorem FH (sep:List UInt8):∀ (l:List (List UInt8)) (a:List UInt8),l≠[]->Lib.join (l++[a]) sep=Lib.join l sep++(sep++a)
 | [],_,h=>absurd rfl h
 | [b],a,_=>by
  show Lib.join (b::a::[]) sep=_
  rw [p9,Lib.join_one,Lib.join_one]
 | b::c::r,a,_=>by
  show Lib.join (b::c::(r++[a])) sep=_
  rw [p9,p9 b c r,show c::(r++[a])=(c::r)++[a] from rfl,FH sep (c::r) a (by simp)]
  simp
theorem acH {A:List Nat}:∀ {d:List (Nat×Nat)},d≠[]->LC A d≠[]
 | [],h=>absurd rfl h
 | [p],_=>by
  show Lib.join [zN A p] [44]≠[]
  rw [Lib.join_one]
  simp [zN]
 | p::q::r,_=>by
  show Lib.join (zN A p::zN A q::r.map (zN A)) [44]≠[]
  rw [p9]
  simp [zN]
def afU (A:List Nat) (d:List (Nat×Nat)):ByteArray:=if d=[] then ⟨#[]⟩ else tx (LC A d)++⟨#[44]⟩
theorem acI {A:List Nat} (d:List (Nat×Nat)) (p:Nat×Nat):((afU A d++tx (Lib.decDigits (A.getD p.1 0)))++⟨#[45]⟩)++tx (Lib.decDigits (A.getD p.2 0))=tx (LC A (d++[p])):=by
 unfold afU
 by_cases h:d=[]
 ·subst h
  rw [if_pos rfl]
  show _=tx (Lib.join [zN A p] [44])
  rw [Lib.join_one]
  apply ByteArray.ext
  simp [zN]
 ·rw [if_neg h]
  have e:LC A (d++[p])=LC A d++([44]++zN A p):=by
   unfold LC
   rw [List.map_append]
   exact FH [44] (d.map (zN A)) (zN A p) (by simpa using h)
  rw [e]
  apply ByteArray.ext
  simp [zN]
structure XB (q:Tm) (L:List Int) (d:List (Nat×Nat)) (c:Nat):Prop where
 at_:Eb q L c
 eq:Hz q L 0=d++Hz q L c
 len:d.length<=c
theorem XB.zero {q:Tm} {L:List Int}:XB q L [] 0:=⟨.zero,rfl,Nat.le_refl _⟩
theorem XB.next {q:Tm} {L:List Int} {d:List (Nat×Nat)} {c b e:Nat} (h:XB q L d c) (hf:pV q L c=some (b,e)):XB q L (d++[(b,e)]) (max (b+1) e):=by
 obtain ⟨h1,h2,h3⟩:=qI h.at_.le hf
 refine ⟨h.at_.next hf,?_,?_⟩
 ·rw [h.eq,Dy h.at_.le hf]
  simp
 ·have:=h.len
  simp only [List.length_append,List.length_cons,List.length_nil]
  omega
theorem XB.done {q:Tm} {L:List Int} {d:List (Nat×Nat)} {c:Nat} (h:XB q L d c) (hf:pV q L c=none):Hz q L 0=d:=by
 rw [h.eq,Dx hf,List.append_nil]
theorem XC {q:Tm} {L:List Int}:∀ {k b:Nat},b<=L.length+1->L.length+2 - b<=k->(∀ p∈Hz q L b,p.1<=L.length/\p.2<=L.length)/\(Hz q L b).length<=L.length+1 - b
 | 0,b,h1,h2=>by omega
 | k+1,b,h1,h2=>by
  cases hf:pV q L b with
  | none=>
   rw [Dx hf]
   exact ⟨fun p hp=>(by cases hp),Nat.zero_le _⟩
  | some p=>
   obtain ⟨x,e⟩:=p
   obtain ⟨a1,a2,a3⟩:=qI h1 hf
   rw [Dy h1 hf]
   obtain ⟨i1,i2⟩:=XC (q:=q) (L:=L) (k:=k) (b:=max (x+1) e) (by omega) (by omega)
   refine ⟨fun p hp=>?_,?_⟩
   ·rcases List.mem_cons.1 hp with rfl | hp
    ·exact ⟨by dsimp only;omega,a3⟩
    ·exact i1 p hp
   ·rw [List.length_cons]
    dsimp only at i2 ⊢
    omega
theorem aas:∀ n:Fin 100,(XA n.val).data=(tx (Lib.decDigits n.val)).data:=by decide +kernel
theorem acJ {n:Nat} (h:n<100):XA n=tx (Lib.decDigits n):=ByteArray.ext (aas ⟨n,h⟩)
end Go.Proofs.YtfolanohokflkaaGreatDoor
namespace Go.Proofs.YtfolanohokflkaaGreatDoor
open Go.RowKit
theorem qJ {w6 w8:World} {o:Obj} {v:Value} {pb j:Nat} {u:Value} (hg:(w6.alloc o).grownBy w8 v.ownBlock) (hne:v.ownBlock≠some pb) (h:w6.cell? ⟨pb,j,none⟩=some u):w8.cell? ⟨pb,j,none⟩=some u:=by
 have hl:pb<w6.heap.size:=World.block_lt_of_cell? w6 _ h
 rw [World.cell?_of_block (a:=⟨pb,j,none⟩) ((hg.block pb (by rw [World.size_alloc];omega) (fun e=>hne e.symm)).trans (Below.heap_alloc w6 o pb hl))]
 exact h
theorem XD:∀ (l:List (Nat×Nat)) (k:Nat) (p:Nat×Nat),l[k]? = some p->(TC l)[k*2]? = some (.int .i64 (p.1:Int))/\(TC l)[k*2+1]? = some (.int .i64 (p.2:Int))
 | [],k,p,h=>by simp at h
 | x::l,0,p,h=>by
  simp at h
  subst h
  exact ⟨rfl,rfl⟩
 | x::l,k+1,p,h=>by
  have:=XD l k p (by simpa using h)
  rw [show (k+1)*2=k*2+2 from by omega,show k*2+2+1=(k*2+1)+2 from by omega]
  simpa [TC] using this
set_option maxRecDepth 100000 in
set_option maxHeartbeats 8000000 in
theorem Tf {w:World} {B:Nat} {v:Value} {l:List (Nat×Nat)} {A:List Nat} {ga ad6:Nat} (ho:Hid (w.ownsRow B 72 2 v l.length (TC l))) (hl:l.length<=100) (hat:∀ j,j<A.length->w.cell? ⟨ga,j,none⟩=some (.int .i64 ((A.getD j 0:Nat):Int))) (hga:ga<w.heap.size) (hA:∀ j,A.getD j 0<100) (hp:∀ p∈l,p.1<A.length/\p.2<A.length) :
  Calls Tryz.prog 46 #[v,.slice (some ⟨ga,0,none⟩) A.length ad6] w fun e w'=>e=.returned (.string (tx (LC A l)))/\Below w.heap.size w w':=by
 obtain ⟨sao,scp,rfl,hsv⟩:=aN (aa ho)
 have HSV:=hide hsv
 have HAT:=hide hat
 have HAA:=hide hA
 have HP:=hide hp
 clear hsv hat hA hp ho
 obtain ⟨i0,hi0,hz0,hz1,hz2⟩:=info_parts aao
 go_enter Tryz.func46,Tryz.ntmps46
 go_wp2_with fail
 go_loopw [5,10] (fun v i wr=>∃ (k cv:Nat) (av:Option Addr),k<=l.length/\i=.int .i64 (k:Int)/\v=.slice av k cv/\Hid (wr.ownsRow w.heap.size 9 1 (.slice av k cv) k (strCells ((l.take k).map (zN A))))/\Hid (Below w.heap.size w wr)) (fun _ i _=>l.length - (intOf i).toNat)
 case atStart=>exact ⟨0,0,none,Nat.zero_le _,rfl,rfl,World.ownsRow_nil _ _ _ _,Below.refl _ _⟩
 case round=>
  obtain ⟨k,cv,av,hk,rfl,rfl,HO,HB⟩:=hrel
  by_cases hlt:k<l.length
  ·obtain ⟨sg,rfl,-,hsg,hsc,-⟩:=aa HSV (by omega)
   obtain ⟨g0,g1⟩:=XD l k l[k] (List.getElem?_eq_getElem hlt)
   have c0:=hsc (k*2) (by omega)
   have c1:=hsc (k*2+1) (by omega)
   rw [g0,<-(aa HB).cell (p:=⟨sg,k*2,none⟩) hsg] at c0
   rw [g1,<-(aa HB).cell (p:=⟨sg,k*2+1,none⟩) hsg] at c1
   obtain ⟨b1,b2⟩:=aa HP l[k] (List.getElem_mem hlt)
   have RX:=hide (show (l.take (k+1)).map (zN A)=(l.take k).map (zN A)++[zN A l[k]] from by rw [List.take_succ_eq_append_getElem hlt,List.map_append];rfl)
   have TD:=hide (acC (A:=A) l[k])
   have LY:(k:Int)<(l.length:Int):=by omega
   obtain ⟨⟨x,e⟩,hxe⟩:∃ p,l[k]=p:=⟨_,rfl⟩
   rw [hxe] at c0 c1 b1 b2 RX TD
   clear hxe g0 g1
   dsimp only at c0 c1 b1 b2 TD
   have a0:=aa HAT x b1
   have a1:=aa HAT e b2
   have ra:=aa HAA x
   have rb:=aa HAA e
   generalize zN A (x,e)=sx at *
   generalize A.getD x 0=ya at *
   generalize A.getD e 0=yb at *
   obtain ⟨xa,hxa⟩:∃ xa,tx (Lib.decDigits ya)=xa:=⟨_,rfl⟩
   obtain ⟨xb,hxb⟩:∃ xb,tx (Lib.decDigits yb)=xb:=⟨_,rfl⟩
   have sa1:xa.size<=2:=by rw [<-hxa];exact t_ ra
   have sb1:xb.size<=2:=by rw [<-hxb];exact t_ rb
   have HFA:Hid (∀ W:World,Calls Tryz.prog 73 #[.int .i64 (ya:Int)] W fun e w'=>e=.returned (.string xa)/\W=w'):=fun W=>by rw [<-hxa];exact LA ya ra W
   have HFB:Hid (∀ W:World,Calls Tryz.prog 73 #[.int .i64 (yb:Int)] W fun e w'=>e=.returned (.string xb)/\Below W.heap.size W w'):=fun W=>by rw [<-hxb];exact (LA yb rb W).mono fun e w' h=>⟨h.1,h.2▸Below.refl _ _⟩
   have TD:Hid (xa++⟨#[45]⟩++xb=tx sx):=by rw [<-hxa,<-hxb];exact TD
   clear hxa hxb ra rb hsc HSV HAT HAA HP
   have ha0:wr.cell? ⟨ga,x,none⟩=some (.int .i64 (ya:Int)):=by rw [(aa HB).cell (p:=⟨ga,x,none⟩) hga];exact a0
   have ha1:wr.cell? ⟨ga,e,none⟩=some (.int .i64 (yb:Int)):=by rw [(aa HB).cell (p:=⟨ga,e,none⟩) hga];exact a1
   clear a0 a1
   have hxA:(x:Int)<(A.length:Int):=by omega
   have heA:(e:Int)<(A.length:Int):=by omega
   have P0:=hide (az (w:=wr) (o:=.cells #[.int .i64 (x:Int),.int .i64 (e:Int)] 72) rfl 0 rfl)
   have P1:=hide (az (w:=wr) (o:=.cells #[.int .i64 (x:Int),.int .i64 (e:Int)] 72) rfl 1 rfl)
   have Mx:Hid (Below wr.heap.size wr (wr.alloc (.cells #[.int .i64 (x:Int),.int .i64 (e:Int)] 72))):=(Below.refl _ _).alloc (Nat.le_refl _) _
   have hgr:ga<wr.heap.size:=Nat.lt_of_lt_of_le hga (aa HB).size
   have PA:=hide (((aa Mx).cell (p:=⟨ga,x,none⟩) hgr).trans ha0)
   have PB:=hide (((aa Mx).cell (p:=⟨ga,e,none⟩) hgr).trans ha1)
   have HBQ:=hide ((aa HB).alloc (aa HB).size (.cells #[.int .i64 (x:Int),.int .i64 (e:Int)] 72))
   have HOQ:=hide ((aa HO).alloc (.cells #[.int .i64 (x:Int),.int .i64 (e:Int)] 72))
   have HNE:Hid ((Value.slice av k cv).ownBlock≠some wr.heap.size):=fun e=>by have:=((aa HO).lt _ e).2;omega
   have HNG:Hid ((Value.slice av k cv).ownBlock≠some ga):=fun e=>by have:=((aa HO).lt _ e).1;omega
   have HLQ:Hid (wr.heap.size<(wr.alloc (.cells #[.int .i64 (x:Int),.int .i64 (e:Int)] 72)).heap.size):=by rw [World.size_alloc];exact Nat.lt_succ_self _
   go_wp2_with fail
   generalize wr.alloc (.cells #[.int .i64 (x:Int),.int .i64 (e:Int)] 72)=wq at *
   generalize wr.heap.size=pb at *
   clear c0 c1 ha0 ha1 HO HB Mx
   obtain ⟨s1,hs1⟩:∃ s1,xa++tx [45]=s1:=⟨_,rfl⟩
   have z1:s1.size<=3:=by rw [<-hs1,ByteArray.size_append];show xa.size+1<=3;omega
   have TD:Hid (s1++xb=tx sx):=by rw [<-hs1];exact TD
   have k1:∀ W:World,(Op.stringOp .add xa ⟨#[45]⟩).run Tryz.prog W=.ok (.string s1) W:=fun W=>by rw [<-hs1];exact run_string_add_sum W _ _ (by show xa.size+1<=_;omega)
   have k2:∀ W:World,(Op.stringOp .add s1 xb).run Tryz.prog W=.ok (.string (tx sx)) W:=fun W=>by rw [<-aa TD];exact run_string_add_sum W _ _ (by omega)
   clear hs1 sa1 sb1 z1
   have hs6:w.heap.size<=wq.drew.heap.size:=(aa HBQ).size
   have Mg:=hide (aa HOQ).drew
   have p0:wq.drew.cell? ⟨pb,0,none⟩=some (.int .i64 (x:Int)):=aa P0
   have p1:wq.drew.cell? ⟨pb,1,none⟩=some (.int .i64 (e:Int)):=aa P1
   have pa:wq.drew.cell? ⟨ga,x,none⟩=some (.int .i64 (ya:Int)):=aa PA
   have pe:wq.drew.cell? ⟨ga,e,none⟩=some (.int .i64 (yb:Int)):=aa PB
   go_region_held3 (fun w'=>w'.cell? ⟨pb,0,none⟩=some (.int .i64 (x:Int))/\w'.cell? ⟨pb,1,none⟩=some (.int .i64 (e:Int))/\w'.cell? ⟨ga,x,none⟩=some (.int .i64 (ya:Int))/\w'.cell? ⟨ga,e,none⟩=some (.int .i64 (yb:Int))) (go_keep)
    (first
     | (have HFA':=HFA;clear HFA;go_at_call 73;refine (aa HFA' wq.drew).mono ?_;rintro er w5 ⟨rfl,rfl⟩)
     | (have HFB':=HFB;clear HFB;go_at_call 73;refine (aa HFB' wq.drew).mono ?_;rintro er w6 ⟨rfl,hb6⟩;have Dz:=hide hb6;clear hb6;have r0:=((aa Dz).cell (p:=⟨pb,0,none⟩) (aa HLQ)).trans p0;have r1:=((aa Dz).cell (p:=⟨pb,1,none⟩) (aa HLQ)).trans p1;have r2:=((aa Dz).cell (p:=⟨ga,x,none⟩) (Nat.lt_trans hgr (aa HLQ))).trans pa;have r3:=((aa Dz).cell (p:=⟨ga,e,none⟩) (Nat.lt_trans hgr (aa HLQ))).trans pe;have HO7:=hide (own_below (aa Mg) (aa Dz) (Nat.le_refl _));have hs7:w.heap.size<=w6.heap.size:=Nat.le_trans hs6 (aa Dz).size)
     | ((refine step_append_lies _ (by rfl) _ _ _ (by rfl) w.heap.size 9 i0 _ 1 16 Tryz.underlying111 hi0 hz0 hz1 hz2 rfl (by omega) (.slice av k cv) k (strCells ((l.take k).map (zN A))) (by rfl) ((aa HO7).alloc _) ⟨w6.heap.size,0,none⟩ 1 1 [.string (tx sx)] (by rfl) (by rfl) (World.news_of_block (cs:=#[.string (tx sx)]) (t:=9) (fr:=(0,0)) (heap_alloc_new w6 _)) (UN _ rfl) (by omega) (by unfold maxLen;omega) (by omega) (by rw [World.size_alloc];omega) (w6.heap.size+1) (by simp) ?_;intro gg cap2 w8 hown1 hgrow hat hlt3;have HOA:=hide hown1;have HGR:=hide hgrow;clear hown1 hgrow hat;have v0:=qJ (aa HGR) (aa HNE) r0;have v1:=qJ (aa HGR) (aa HNE) r1;have v2:=qJ (aa HGR) (aa HNG) r2;have v3:=qJ (aa HGR) (aa HNG) r3)))
   clear p0 p1 pa pe r0 r1 r2 r3 v0 v1 v2 v3 k1 k2
   have GZ:Hid (Below w.heap.size w w8):=by
    have hb:=aa HBQ
    have hbd:Below w.heap.size w wq.drew:=⟨hb.os,hb.tape,hb.output,hb.size,hb.block⟩
    have b6:=hbd.trans ((aa Dz).mono hbd.size)
    exact below_grown (b6.alloc b6.size _) ((aa HO7).alloc _) (aa HGR) (by rw [World.size_alloc];omega)
   go_wp2_with fail
   go_roundw
   case rel=>
    refine ⟨k+1,cap2,some ⟨gg,0,none⟩,by omega,by go_num,rfl,?_,GZ⟩
    rw [aa RX,zM]
    exact HOA
   case measure=>simp [intOf];omega
  ·have hkl:k=l.length:=by omega
   subst hkl
   rw [List.take_length] at HO
   have LY:¬ (l.length:Int)<(l.length:Int):=by omega
   have HJ:=hide (Td (w:=wr) (B:=w.heap.size) (ao:=av) (cap:=cv) (ss:=l.map (zN A)) [44] (by rw [List.length_map];exact aa HO) (by rw [List.length_map];omega) (by have:=QE (aa HAA) l;unfold LC at this;omega))
   rw [List.length_map] at HJ
   go_wp2_with (go_at_call 74;refine (aa HJ).mono ?_;clear HJ;rintro e w9 ⟨rfl,hb9⟩;have HB9:=hide hb9;clear hb9)
   go_ret
   exact ⟨rfl,(aa HB).trans ((aa HB9).mono (aa HB).size)⟩
end Go.Proofs.YtfolanohokflkaaGreatDoor
namespace Go.Proofs.YtfolanohokflkaaGreatDoor
open Go.RowKit
open Tm (eps)
def XE (Bd:Int) (q:Tm) (L:List Int):Prop:=∀ (Bs:List Int) (V:qQ),(∀ y,V y->Lx q L 0 y)->¬ Aq Bs Bd V
theorem XE.of {Bs:List Int} {G:List Gx} {q0 q:Tm} {L:List Int} {n0:Nat} {Bd:Int} {V:qQ} {w0 w:World} {b0 mb tb:Nat} {KP:Nat->Prop} (h:kV Bs G q0 n0 Bd V w0 w b0 mb tb KP) (hv:∀ y,Lx q L 0 y->V y):XE Bd q L:=by
 obtain ⟨t,T,S,C,M,h1,h2,h3,h4,h5⟩:=h.ex
 exact fun Bs V' hV=>acy (aa h2) (aa h5) fun y hy=>hv y (hV y hy)
theorem ug (u:ByteArray) (hu:u.size<=60) (j:Nat):(pts u).getD j 0<100:=by
 by_cases h:j<(pts u).length
 ·have e:(pts u).getD j 0=pt u j:=by rw [<-vD h];simp [List.getD,h]
  rw [e]
  have:=acx h
  omega
 ·simp [List.getD,h]
def XF (q:Tm) (u:ByteArray):ByteArray:=tx (LC (pts u) (Hz q (gu u) 0))
theorem aat {q:Tm} {u:ByteArray} {w w2:World} {B:Nat} {v:Value} (sN:u.size<=60) (ho:Hid (w2.ownsRow B 72 2 v (Hz q (gu u) 0).length (TC (Hz q (gu u) 0)))) (hb:Hid (Below w.heap.size w w2)) :
  Calls Tryz.prog 39 #[.string u] w2 fun e w4=>∃ g cap,e=.returned (.slice (some ⟨g,0,none⟩) (pts u).length cap)/\Hid (Below w.heap.size w w4)/\Hid (Calls Tryz.prog 46 #[v,.slice (some ⟨g,0,none⟩) (pts u).length cap] w4 fun e w5=>e=.returned (.string (XF q u))/\Hid (Below w.heap.size w w5)):=by
 refine (Du u w2 sN).mono ?_
 rintro e w4 ⟨g,cap,rfl,hb4,ho4⟩
 have hb4':Below w.heap.size w w4:=(aa hb).trans ((aa hb4).mono (aa hb).size)
 refine ⟨g,cap,rfl,hide hb4',hide ?_⟩
 have hn:=lK u
 obtain ⟨a1,a2⟩:=XC (q:=q) (L:=gu u) (k:=(gu u).length+2) (b:=0) (Nat.zero_le _) (by omega)
 have hu:(gu u).length<=60:=Nat.le_trans (tY u) sN
 have hp:=oG u
 have h0:=nX (aa ho4) hp
 refine (Tf (w:=w4) (B:=B) (v:=v) (l:=Hz q (gu u) 0) (A:=pts u) (ga:=g) (ad6:=cap) (hide (own_below (aa ho) (aa hb4) (Nat.le_refl _))) (by omega) (fun j hj=>?_) (World.block_lt_of_cell? _ _ h0) (ug u sN) (fun p hp=>?_)).mono ?_
 ·rw [nX (aa ho4) hj]
  simp [List.getD,hj]
 ·have:=a1 p hp
  omega
 ·rintro e w5 ⟨rfl,hb5⟩
  exact ⟨rfl,hide (hb4'.trans (hb5.mono hb4'.size))⟩
set_option maxRecDepth 100000 in
set_option maxHeartbeats 8000000 in
theorem XG {w:World} {q:Pt} {s u:ByteArray} {k0 k1 k2 k3:Nat} {m:Nd} {Bd:Int} {F:Nat->Prop} (hq:bG s=.ok q) (hB0:0<=Bd) (sN:u.size<=60) (h0:Hid (au w k0 m)) (h1:w.cell? ⟨k1,0,none⟩=some (.string u)) (h2:w.cell? ⟨k2,0,none⟩=some (.int .i64 Bd)) (h3:w.cell? ⟨k3,0,none⟩=some (.string ⟨#[]⟩)) (W_:w.frozen? ⟨k3,0,none⟩=false) (hd:k0<k3/\k1<k3/\k2<k3) (He:gJ w F m q) :
  Calls Tryz.prog 45 #[.pointer (some ⟨k0,0,none⟩),.pointer (some ⟨k1,0,none⟩),.pointer (some ⟨k2,0,none⟩),.pointer (some ⟨k3,0,none⟩)] w fun e w'=>(e=vF 7 0/\Hid (Below w.heap.size w w'))\/(e=.returned (.tuple #[])/\∃ W,Hid (Below w.heap.size w W)/\w'=W.setCell ⟨k3,0,none⟩ (.string (XF (cZ q) u))/\Hid (XE Bd (cZ q) (gu u))):=by
 obtain ⟨Bs,yR,hsp⟩:=sM hq
 have hu:(gu u).length<=60:=Nat.le_trans (tY u) sN
 have hg:=G6 u
 obtain ⟨hsum,hnz⟩:=yj hq hu
 have hcn:Cn (cZ q):=rH (wC hq)
 have hS:=GX hcn hnz (L:=gu u) hg hu
 obtain ⟨X,hX⟩:∃ X,XF (cZ q) u=X:=⟨_,rfl⟩
 obtain ⟨N,hN⟩:∃ N,XE Bd (cZ q) (gu u)=N:=⟨_,rfl⟩
 rw [hX,hN]
 have HOF:=Dn yR hsp hq
 have hbd:Below w.heap.size w (w.drewN 1):=⟨rfl,rfl,rfl,Nat.le_refl _,fun _ _=>rfl⟩
 have HN:=hide (nW (w:=w.drewN 1) (m:=m) (u:=u) (B:=Bd) (Bs:=Bs) (R:=TrR q) sN (hide fun X t hb ht=>aa HOF (w.drewN 1) F m X t (He.move fun k hk _=>⟨(show (w.drewN 1).heap[k]? = w.heap[k]? from rfl),hk⟩) hb ht))
 have HS:Hid (∀ (e:Ending) (w1:World),yK Bs (w.drewN 1) Bd (gu u) (TrR q) e w1->∃ sb:Nat,e=.returned (.pointer (some ⟨sb,0,none⟩))/\Hid (Below w.heap.size w w1)/\Hid (Calls Tryz.prog 47 #[.pointer (some ⟨sb,0,none⟩)] w1 fun e w'=>(e=vF 7 0/\Hid (Below w.heap.size w w'))\/(∃ v,e=.returned v/\Hid (Below w.heap.size w w')/\Hid N/\Hid (Calls Tryz.prog 39 #[.string u] w' fun e w4=>∃ g cap,e=.returned (.slice (some ⟨g,0,none⟩) (pts u).length cap)/\Hid (Below w.heap.size w w4)/\Hid (Calls Tryz.prog 46 #[v,.slice (some ⟨g,0,none⟩) (pts u).length cap] w4 fun e w5=>e=.returned (.string X)/\Hid (Below w.heap.size w w5)))))):=by
  rintro e w1 ⟨sb,mb,cb,cap,n,t,T,S,C,rfl,hs,ha,hr,hb⟩
  obtain ⟨r1,r2,r3⟩:=aa hr
  have hb1:Below w.heap.size w w1:=hbd.trans (aa hb)
  have hp:T.length+mD (uy (cZ q) (nN (gu u))) T (S.map (·.1)++[])<=fU:=by
   have:=Hd (uy (cZ q) (nN (gu u))) T (S.map (·.1)++[])
   show T.length+_<=1000000000000
   omega
  refine ⟨sb,rfl,hide hb1,hide ((acD (V:=fun _=>False) yR hS (hide ⟨t,T,S,C,[],hs,hide FE.ne,hide r1,hide hp,hide hB0⟩) ha hu (fun k hk=>hg _ (by simp [List.getD,hk])) (fun b k hk=>aaT hk)).mono ?_)⟩
  rintro e w' (⟨he,hb',ho⟩ | ⟨v,he,ho,hs'⟩)
  ·exact .inl ⟨he,hide (hb1.trans (aa hb'))⟩
  ·have hb2:Below w.heap.size w w':=hb1.trans (aa hs').below
   rw [<-hX,<-hN]
   exact .inr ⟨v,he,hide hb2,hide (XE.of (aa hs') fun y hy=>.inr hy),hide (aat sN ho (hide hb2))⟩
 obtain ⟨c0,c1,c2,c3,c4,c5,c6⟩:=au.cells (aa h0)
 have hl0:k0<w.heap.size:=(Array.getElem?_eq_some_iff.1 (aa h0)).1
 have hl1:=World.block_lt_of_cell? w _ h1
 have hl2:=World.block_lt_of_cell? w _ h2
 have hl3:=World.block_lt_of_cell? w _ h3
 have HL:Hid (k0<w.heap.size/\k1<w.heap.size/\k2<w.heap.size/\k3<w.heap.size):=⟨hl0,hl1,hl2,hl3⟩
 obtain ⟨d0,d1,d2⟩:=hd
 have n03:k0≠k3:=by omega
 have n30:k3≠k0:=by omega
 have n13:k1≠k3:=by omega
 have n31:k3≠k1:=by omega
 have n23:k2≠k3:=by omega
 have n32:k3≠k2:=by omega
 clear d0 d1 d2
 have H0:=h0
 have H1:=hide h1
 have H2:=hide h2
 have H3:=hide h3
 have H3Z:=hide W_
 clear HOF h0 hX hN hsum hnz hcn hS hsp hq He hbd h3 W_ hl0 hl1 hl2 hl3
 simp only [gm] at HN
 clear hu hg
 generalize gu u=cs at *
 generalize (pts u).length=np at *
 generalize u=sx at *
 go_enter Tryz.func45,Tryz.ntmps45
 go_region_held (fun w'=>w'.cell? ⟨k0,0,none⟩=some (.int .i64 m.sh)/\w'.cell? ⟨k0,1,none⟩=some (.slice m.pa m.pn m.pc)/\w'.cell? ⟨k0,2,none⟩=some (.string m.ss)/\w'.cell? ⟨k0,3,none⟩=some (.int .i64 m.le)/\w'.cell? ⟨k0,4,none⟩=some (.int .i64 m.mo)/\w'.cell? ⟨k0,5,none⟩=some (.int .i64 m.fa)/\w'.cell? ⟨k0,6,none⟩=some (.int .i64 m.sz)/\w'.cell? ⟨k1,0,none⟩=some (.string sx)/\w'.cell? ⟨k2,0,none⟩=some (.int .i64 Bd)) (go_keep)
  (first
   | (go_at_call 43;refine (aa HN).mono ?_;clear HN;intro ex w1 hx;obtain ⟨sb,rfl,HB1,HT1⟩:=aa HS ex w1 hx;clear hx HS;obtain ⟨e0,e1,e2,e3,e4,e5,e6⟩:=au.cells (aa (au.under HB1 H0));obtain ⟨hl0,hl1,hl2,hl3⟩:=aa HL;have g1:=aC HB1 hl1 (aa H1);have g2:=aC HB1 hl2 (aa H2);clear hl0 hl1 hl2 hl3)
   | (go_at_call 47;refine (aa HT1).mono ?_;clear HT1;rintro ex w2 (⟨rfl,HB2⟩ | ⟨v,rfl,HB2,HNV,HPW⟩);(exact ⟨rfl,.inl ⟨rfl,HB2⟩⟩);obtain ⟨f0,f1,f2,f3,f4,f5,f6⟩:=au.cells (aa (au.under HB2 H0));obtain ⟨hl0,hl1,hl2,hl3⟩:=aa HL;have l1:=aC HB2 hl1 (aa H1);have l2:=aC HB2 hl2 (aa H2);clear hl0 hl1 hl2 hl3)
   | (go_at_call 39;refine (aa HPW).mono ?_;clear HPW;rintro ex w4 ⟨g,cap,rfl,qh,HWR⟩;obtain ⟨i0,i1,i2,i3,i4,i5,i6⟩:=au.cells (aa (au.under qh H0));obtain ⟨hl0,hl1,hl2,hl3⟩:=aa HL;have m1:=aC qh hl1 (aa H1);have m2:=aC qh hl2 (aa H2);clear hl0 hl1 hl2 hl3)
   | (go_at_call 46;refine (aa HWR).mono ?_;clear HWR;rintro ex w5 ⟨rfl,kz⟩;obtain ⟨j0,j1,j2,j3,j4,j5,j6⟩:=au.cells (aa (au.under kz H0));obtain ⟨hl0,hl1,hl2,hl3⟩:=aa HL;have n1:=aC kz hl1 (aa H1);have n2:=aC kz hl2 (aa H2);have q3:w5.cell? ⟨k3,0,none⟩=some (.string ⟨#[]⟩):=aC kz hl3 (aa H3);have z3:w5.frozen? ⟨k3,0,none⟩=false:=(by rw [World.frozen?_of_block (a:=⟨k3,0,none⟩) ((aa kz).block _ hl3)];exact aa H3Z);clear hl0 hl1 hl2 hl3))
 go_end0
 exact .inr ⟨rfl,w5,kz,rfl,HNV⟩
set_option maxRecDepth 100000 in
set_option maxHeartbeats 4000000 in
theorem LG {w:World} {q:Pt} {s u:ByteArray} {k0 k1 k2 k3:Nat} {m:Nd} {Bd:Int} {F:Nat->Prop} (hq:bG s=.ok q) (hB0:0<=Bd) (sN:u.size<=60) (h0:Hid (au w k0 m)) (h1:w.cell? ⟨k1,0,none⟩=some (.string u)) (h2:w.cell? ⟨k2,0,none⟩=some (.int .i64 Bd)) (h3:w.cell? ⟨k3,0,none⟩=some (.string ⟨#[]⟩)) (W_:w.frozen? ⟨k3,0,none⟩=false) (hd:k0<k3/\k1<k3/\k2<k3) (He:gJ w F m q) :
  Calls Tryz.prog 41 #[.func (.func 45) #[] #[.pointer (some ⟨k0,0,none⟩),.pointer (some ⟨k1,0,none⟩),.pointer (some ⟨k2,0,none⟩),.pointer (some ⟨k3,0,none⟩)]] w fun e w'=>(e=.returned (.agg #[.int .i64 7,.int .i64 0])/\Hid (Below w.heap.size w w'))\/(e=.returned (.agg #[.int .i64 0,.int .i64 0])/\Hid (Up k3 w w')/\w'.cell? ⟨k3,0,none⟩=some (.string (XF (cZ q) u))/\Hid (XE Bd (cZ q) (gu u))):=by
 have hmf:∀ (fn:Fn) (first cap:Array Value) (w:World),(Instr.makeFunc fn first cap).run Tryz.prog w=.ok (.func fn first cap) w:=fun _ _ _ _=>rfl
 have hl1:=World.block_lt_of_cell? w _ h1
 have hl2:=World.block_lt_of_cell? w _ h2
 have hl3:=World.block_lt_of_cell? w _ h3
 have HA:Hid (Below w.heap.size w (w.alloc (.cells #[.int .i64 0,.int .i64 0] 74))):=(Below.refl _ _).alloc (Nat.le_refl _) _
 have HW:=hide (XG (w:=w.alloc (.cells #[.int .i64 0,.int .i64 0] 74)) hq hB0 sN (au.alloc h0 _) (aC HA hl1 h1) (aC HA hl2 h2) (aC HA hl3 h3) (by rw [World.frozen?_of_block (a:=⟨k3,0,none⟩) ((aa HA).block _ hl3)];exact W_) hd (He.move fun k hk hl=>⟨(aa HA).block k hl,hk⟩))
 generalize XF (cZ q) u=tf at HW ⊢
 generalize XE Bd (cZ q) (gu u)=N at HW ⊢
 have hnew:w.heap.size<(w.alloc (.cells #[.int .i64 0,.int .i64 0] 74)).heap.size:=by simp
 have c0:=bz w [.int .i64 0,.int .i64 0] 74 0 _ rfl
 have c1:=bz w [.int .i64 0,.int .i64 0] 74 1 _ rfl
 have hne:w.heap.size≠k3:=by have:k3<w.heap.size:=hl3;omega
 have HN:=hide hnew
 have C0:=hide c0
 have C1:=hide c1
 have H3:=hide h3
 have HL3:Hid (k3<w.heap.size):=hl3
 clear h0 h1 h2 h3 W_ hl1 hl2 hl3 hnew c0 c1 He hq hd
 go_enter_defers Tryz.func41,Tryz.ntmps41
 go_wp2_with (go_at_call 45;refine (aa HW).mono ?_;clear HW;rintro e w1 (⟨rfl,HB⟩ | ⟨rfl,W,HB,ew,HNV⟩);rotate_left;have HU:Hid (Up k3 (w.alloc (.cells #[.int .i64 0,.int .i64 0] 74)) w1):=(by rw [ew];exact (Up.below (aa HB)).trans ⟨rfl,rfl,rfl,by simp [World.setCell],fun j _ hb=>Below.heap_setCell W ⟨k3,0,none⟩ _ j hb⟩);have Q3:Hid (w1.cell? ⟨k3,0,none⟩=some (.string tf)):=(by rw [ew];exact World.cell?_setCell_same _ _ _ (aC HB (Nat.lt_trans (aa HL3) (aa HN)) (aC HA (aa HL3) (aa H3))));clear ew;have q0:w1.cell? ⟨w.heap.size,0,none⟩=some (.int .i64 0):=(by rw [World.cell?_of_block (a:=⟨w.heap.size,0,none⟩) ((aa HU).block _ (aa HN) hne)];exact aa C0);have q1:w1.cell? ⟨w.heap.size,1,none⟩=some (.int .i64 0):=(by rw [World.cell?_of_block (a:=⟨w.heap.size,1,none⟩) ((aa HU).block _ (aa HN) hne)];exact aa C1);have z0:w1.frozen? ⟨w.heap.size,0,none⟩=false:=(by rw [World.frozen?_of_block (a:=⟨w.heap.size,0,none⟩) ((aa HU).block _ (aa HN) hne)];exact World.frozen?_alloc_at _ _ _ _ rfl);have z1:w1.frozen? ⟨w.heap.size,1,none⟩=false:=(by rw [World.frozen?_of_block (a:=⟨w.heap.size,1,none⟩) ((aa HU).block _ (aa HN) hne)];exact World.frozen?_alloc_at _ _ _ _ rfl);rotate_left)
 ·have hn:=aa HN
  have q0:w1.cell? ⟨w.heap.size,0,none⟩=some (.int .i64 0):=by rw [(aa HB).cell (p:=⟨w.heap.size,0,none⟩) hn];exact aa C0
  have q1:w1.cell? ⟨w.heap.size,1,none⟩=some (.int .i64 0):=by rw [(aa HB).cell (p:=⟨w.heap.size,1,none⟩) hn];exact aa C1
  have fz:∀ k,w1.frozen? ⟨w.heap.size,k,none⟩=false:=fun k=>by rw [(aa HB).frozen (p:=⟨w.heap.size,k,none⟩) hn];exact World.frozen?_alloc_at _ _ _ _ rfl
  have hl1:=World.block_lt_of_cell? w1 _ q0
  refine leaves_cons (f:=70) (args:=#[.pointer (some ⟨w.heap.size,0,none⟩)]) (by simp) (by simp [go_sem]) ?_
  refine (yJ w.heap.size 7 0 (.int .i64 0) (.int .i64 0) [] w1 q0 q1 fz).mono ?_
  rintro x u' w'' ⟨rfl,rfl,rfl⟩
  show Leaves _ _ _ _ [] .returning _
  refine ⟨.agg #[.int .i64 7,.int .i64 0],?_,.inl ⟨rfl,?_⟩⟩
  ·simp [results,Tryz.results41,go_sem,q0,q1,hl1]
  ·exact xx (((((Up.below ((Below.refl _ _).alloc (Nat.le_refl _) _)).trans (Up.below (aa HB))).trans (Up.set _ _ _ _)).trans (Up.set _ _ _ _)).trans (Up.below ((Below.refl _ _).alloc (Nat.le_refl _) _)))
 ·have hl1:=World.block_lt_of_cell? w1 _ q0
  refine leaves_cons (f:=70) (args:=#[.pointer (some ⟨w.heap.size,0,none⟩)]) (by simp) (by simp [go_sem]) ?_
  refine (qC ⟨w.heap.size,0,none⟩ _).mono ?_
  rintro e u' w'' ⟨rfl,rfl,rfl⟩
  show Leaves _ _ _ _ [] .returning _
  refine ⟨.agg #[.int .i64 0,.int .i64 0],?_,.inr ⟨rfl,?_,?_,HNV⟩⟩
  ·simp [results,Tryz.results41,go_sem,q0,q1]
  ·exact Up.mr (Up.mr ((Up.below ((Below.refl _ _).alloc (Nat.le_refl _) _)).trans (aa HU)) _ _ _ (Nat.le_refl _)) _ _ _ (Nat.le_refl _)
  ·rw [World.cell?_of_block (a:=⟨k3,0,none⟩) ((Below.heap_setCell _ ⟨w.heap.size,1,none⟩ _ k3 (Ne.symm hne)).trans (Below.heap_setCell _ ⟨w.heap.size,0,none⟩ _ k3 (Ne.symm hne)))]
   exact aa Q3
set_option maxRecDepth 100000 in
set_option maxHeartbeats 8000000 in
theorem LH {w:World} {p u:ByteArray} {z:Pn} (hq:bG p=.ok z.1) (hs:p.size<=60) (sN:u.size<=60) (ht:Hid (Lib.Utf8Tabs 4 5 w)) (hR:Hid (jl p=.ok z)) (hz:¬ 60<z.2) :
  Calls Tryz.prog 26 #[.string p,.string u,.int .i64 200] w fun e w'=>(e=.returned (.tuple #[.string ⟨#[]⟩,.int .i64 7])\/(e=.returned (.tuple #[.string (XF (cZ z.1) u),.int .i64 0])/\Hid (XE 200 (cZ z.1) (gu u))))/\Hid (Below w.heap.size w w'):=by
 obtain ⟨tf,Xa⟩:∃ tf,XF (cZ z.1) u=tf:=⟨_,rfl⟩
 obtain ⟨N,hN⟩:∃ N,XE 200 (cZ z.1) (gu u)=N:=⟨_,rfl⟩
 rw [Xa,hN]
 obtain ⟨wb,hwb⟩:∃ wb,(w.alloc (.cells #[.string u] 9)).alloc (.cells #[.int .i64 200] 3)=wb:=⟨_,rfl⟩
 have s1:(w.alloc (.cells #[.string u] 9)).heap.size=w.heap.size+1:=by simp
 have Dq:Hid (Below w.heap.size w wb):=by
  rw [<-hwb]
  exact ((Below.refl _ _).alloc (Nat.le_refl _) _).alloc (by rw [s1];omega) _
 have htb:Hid (Lib.Utf8Tabs 4 5 wb):=jE ht Dq
 have b1:wb.cell? ⟨w.heap.size,0,none⟩=some (.string u):=by
  rw [<-hwb,World.cell?_alloc_past _ _ _ (by show w.heap.size<_;rw [s1];omega)]
  exact az rfl 0 rfl
 have b2:wb.cell? ⟨w.heap.size+1,0,none⟩=some (.int .i64 200):=by
  rw [<-hwb,<-s1]
  exact az rfl 0 rfl
 have Ns:=hide (qD (w:=wb) (u:=u) (B:=200) hs sN htb hR hz (by omega) (by omega))
 have hmf:∀ (fn:Fn) (first cap:Array Value) (w:World),(Instr.makeFunc fn first cap).run Tryz.prog w=.ok (.func fn first cap) w:=fun _ _ _ _=>rfl
 have HAM:Hid (∀ (w2:World) (m:Nd),Hid (Below wb.heap.size wb w2)->Hid (aV w2 (fun k=>wb.heap.size<k) m z)->Calls Tryz.prog 41 #[.func (.func 45) #[] #[.pointer (some ⟨w2.heap.size,0,none⟩),.pointer (some ⟨w.heap.size,0,none⟩),.pointer (some ⟨w.heap.size+1,0,none⟩),.pointer (some ⟨w2.heap.size+1,0,none⟩)]] ((w2.alloc (aB m)).alloc (.cells #[.string ⟨#[]⟩] 9)) fun e w'=>Hid (Below w.heap.size w w')/\∃ (er:Int) (sx:ByteArray),e=.returned (.agg #[.int .i64 er,.int .i64 0])/\w'.cell? ⟨w2.heap.size+1,0,none⟩=some (.string sx)/\Hid ((er=7/\sx=⟨#[]⟩)\/(er=0/\sx=tf/\N))):=by
  intro w2 m hb hn
  have hw2:(w2.alloc (aB m)).heap.size=w2.heap.size+1:=by simp
  have hb0:Below w.heap.size w w2:=(aa Dq).trans ((aa hb).mono (aa Dq).size)
  have hA:Below w2.heap.size w2 ((w2.alloc (aB m)).alloc (.cells #[.string ⟨#[]⟩] 9)):=((Below.refl _ _).alloc (Nat.le_refl _) _).alloc (by rw [hw2];omega) _
  have hc3:((w2.alloc (aB m)).alloc (.cells #[.string ⟨#[]⟩] 9)).cell? ⟨w2.heap.size+1,0,none⟩=some (.string ⟨#[]⟩):=by rw [<-hw2];exact az rfl 0 rfl
  have hz3:((w2.alloc (aB m)).alloc (.cells #[.string ⟨#[]⟩] 9)).frozen? ⟨w2.heap.size+1,0,none⟩=false:=by rw [<-hw2];exact World.frozen?_alloc_at _ _ _ _ rfl
  have hd:w2.heap.size<w2.heap.size+1/\w.heap.size<w2.heap.size+1/\w.heap.size+1<w2.heap.size+1:=by
   have q1:w.heap.size+1<wb.heap.size:=World.block_lt_of_cell? _ _ b2
   have q2:=(aa hb).size
   omega
  refine (LG hq (by omega) sN (au.alloc (hide (au.new w2 m)) _) (aC (hide hA) (World.block_lt_of_cell? _ _ (aC hb (World.block_lt_of_cell? _ _ b1) b1)) (aC hb (World.block_lt_of_cell? _ _ b1) b1)) (aC (hide hA) (World.block_lt_of_cell? _ _ (aC hb (World.block_lt_of_cell? _ _ b2) b2)) (aC hb (World.block_lt_of_cell? _ _ b2) b2)) hc3 hz3 hd ((aa hn).2.move fun k hk hl=>⟨hA.block k hl,hk⟩)).mono ?_
  have hAs:=hA.size
  have h2:=hb0.size
  rintro ex w' (⟨e,hB⟩ | ⟨e,hU,hc,He⟩)
  ·have hbw:Below w.heap.size w _:=hb0.trans (hA.mono h2)
   exact ⟨hide (hbw.trans ((aa hB).mono hbw.size)),_,_,e,aC hB (World.block_lt_of_cell? _ _ hc3) hc3,.inl ⟨rfl,rfl⟩⟩
  ·rw [Xa] at hc
   rw [hN] at He
   have hU':=aa hU
   refine ⟨⟨hU'.os.trans (hA.os.trans hb0.os),hU'.tape.trans (hA.tape.trans hb0.tape),hU'.output.trans (hA.output.trans hb0.output),Nat.le_trans hb0.size (Nat.le_trans hAs hU'.size),fun k hk=>?_⟩,_,_,e,hc,.inr ⟨rfl,rfl,aa He⟩⟩
   exact (hU'.block k (by omega) (by omega)).trans ((hA.block k (by omega)).trans (hb0.block k hk))
 clear ht htb hR hz hs sN b1 b2 Dq s1 Xa hN hq
 subst hwb
 go_enter Tryz.func26,Tryz.ntmps26
 go_wp2_with (first
  | (go_at_call 38;refine (aa Ns).mono ?_;clear Ns;simp only [gm];rintro ex w2 ⟨m,rfl,HB2,iy⟩;have HA2:=hide (aa HAM w2 m HB2 iy);clear HAM)
  | (go_at_call 41;refine (aa HA2).mono ?_;clear HA2;rintro ex w3 ⟨HB3,er,sx,rfl,q3,HE⟩))
 have q4:=World.block_lt_of_cell? w3 _ q3
 have g1:(w3.alloc (.cells #[.int .i64 er,.int .i64 0] 74)).cell? ⟨w2.heap.size+1,0,none⟩=some (.string sx):=by rw [World.cell?_alloc_past _ _ _ q4];exact q3
 have g2:(w3.alloc (.cells #[.int .i64 er,.int .i64 0] 74)).cell? ⟨w3.heap.size,0,none⟩=some (.int .i64 er):=az rfl 0 rfl
 have qh:Hid (Below w.heap.size w (w3.alloc (.cells #[.int .i64 er,.int .i64 0] 74))):=(aa HB3).alloc (aa HB3).size _
 generalize w3.alloc (.cells #[.int .i64 er,.int .i64 0] 74)=W4 at *
 go_quiet (fail)
 go_wp2_with fail
 have h:=aa qh
 refine bodyPost_ret (v:=.tuple #[.string sx,.int .i64 er]) ?_ rfl ⟨?_,⟨h.os,h.tape,h.output,h.size,h.block⟩⟩
 ·simp [results,Tryz.results26,go_sem]
 ·rcases aa HE with ⟨rfl,rfl⟩ | ⟨rfl,rfl,hn⟩
  ·exact .inl rfl
  ·exact .inr ⟨rfl,hn⟩
end Go.Proofs.YtfolanohokflkaaGreatDoor
