import Derived.Test.YtfolanohokflkaaGreatDoorTabC
import Derived.Test.YtfolanohokflkaaGreatDoorRoE
import Derived.WalkKit
import Derived.WalkSpells
import Derived.WalkLawsBesides
import Derived.WalkMore
import Derived.Deep.QuietTactic
import Derived.BigQuiet
import Derived.BigRegion
import Derived.Test.YtfolanohokflkaaGreatDoorSvF
import Derived.Test.YtfolanohokflkaaGreatDoorNdL
import Derived.Test.YtfolanohokflkaaGreatDoorProC
import Derived.Test.YtfolanohokflkaaGreatDoorTabH
import Derived.Deep.RegionHeld3
namespace Go.Proofs.YtfolanohokflkaaGreatDoor
open Go.RowKit
theorem Nt (x:Int) (w:World):Calls Tryz.prog 253 #[.int .i32 x] w fun e w'=>e=.returned (.bool false)/\w=w':=by
 go_enter Tryz.func253,Tryz.ntmps253
 go_wp2_with fail
 go_ret
 exact ⟨rfl,rfl⟩
theorem yB (x y:Int) (w:World):Calls Tryz.prog 221 #[.int .i32 x,.int .i32 y] w fun e w'=>e=.returned (.bool (decide (x<y)))/\w=w':=by
 go_enter Tryz.func221,Tryz.ntmps221
 go_wp2_with (go_at_call 253;refine (Nt _ _).mono ?_;rintro e w1 ⟨rfl,rfl⟩)
 go_ret
 exact ⟨rfl,rfl⟩
def runeCells (l:List Int):List Value:=l.map (Value.int .i32)
structure Rn (w0 w:World) (g n cap:Nat) (l:List Int):Prop where
 own:w.ownsRow 0 21 1 (.slice (some ⟨g,0,none⟩) n cap) n (runeCells l)
 len:l.length=n
 os:w.os=w0.os
 tape:w.tape=w0.tape
 output:w.output=w0.output
 size:w.heap.size=w0.heap.size
 block:∀ k,k≠g->w.heap[k]? = w0.heap[k]?
theorem Rn.get {w0 w:World} {g n cap:Nat} {l:List Int} (h:Rn w0 w g n cap l) {j:Nat} (hj:j<n):w.cell? ⟨g,j,none⟩=some (.int .i32 (l.getD j 0))/\w.frozen? ⟨g,j,none⟩=false:=by
 obtain ⟨ao,cap',e,hh⟩:=aO h.own
 injection e with e1 e2 e3
 obtain ⟨g',e4,_,_,hc,hf⟩:=hh (by omega)
 rw [e4] at e1
 injection e1 with e1
 injection e1 with e1
 subst e1
 refine ⟨?_,hf j⟩
 rw [hc j (by omega)]
 have hl:=h.len
 simp [runeCells,List.getElem?_eq_getElem (show j<l.length by omega),List.getD_eq_getElem?_getD]
end Go.Proofs.YtfolanohokflkaaGreatDoor
namespace Go.Proofs.YtfolanohokflkaaGreatDoor
open Go.RowKit
theorem Kk (x:Int) (w:World):Calls Tryz.prog 222 #[.int .i32 x] w fun e w'=>e=.returned (.bool false)/\w=w':=by
 go_enter Tryz.func222,Tryz.ntmps222
 go_wp2_with fail
 go_ret
 exact ⟨rfl,rfl⟩
theorem PU {l:List Int} (hs:l.Pairwise (· < ·)) {a b:Nat} (hab:a<b) (hb:b<l.length):l.getD a 0<l.getD b 0:=by
 rw [List.getD_eq_getElem?_getD,List.getD_eq_getElem?_getD,List.getElem?_eq_getElem (by omega),List.getElem?_eq_getElem hb]
 exact List.pairwise_iff_getElem.1 hs a b (by omega) hb hab
structure Bs (l:List Int) (c:Int) (i j:Nat):Prop where
 le:i<=j
 ln:j<=l.length
 lo:∀ k,k<i->l.getD k 0<c
 hi:∀ k,j<=k->k<l.length->c<=l.getD k 0
theorem Bs.up {l:List Int} {c:Int} {i j:Nat} (hs:l.Pairwise (· < ·)) (h:Bs l c i j) {m:Nat} (h2:m<j) (hm:l.getD m 0<c):Bs l c (m+1) j:=by
 have hl:=h.ln
 refine ⟨by omega,h.ln,fun k hk=>?_,h.hi⟩
 by_cases e:k=m
 ·rw [e];exact hm
 ·exact Int.lt_trans (PU hs (show k<m by omega) (by omega)) hm
theorem Bs.down {l:List Int} {c:Int} {i j:Nat} (hs:l.Pairwise (· < ·)) (h:Bs l c i j) {m:Nat} (h1:i<=m) (h2:m<j) (hm:¬ l.getD m 0<c):Bs l c i m:=by
 have hl:=h.ln
 refine ⟨h1,by omega,h.lo,fun k hk hkl=>?_⟩
 by_cases e:k=m
 ·rw [e];omega
 ·have:=PU hs (show m<k by omega) hkl
  omega
set_option maxRecDepth 100000 in
set_option maxHeartbeats 4000000 in
theorem GY (w:World) (g n cap:Nat) (l:List Int) (c:Int) (hn:n<=1000000) (h:Hid (Rn w w g n cap l)) (hs:Hid (l.Pairwise (· < ·))) :
  Calls Tryz.prog 149 #[.slice (some ⟨g,0,none⟩) n cap,.int .i32 c] w fun e w'=>∃ i:Nat,e=.returned (.tuple #[.int .i64 i,.bool (decide (i<n/\l.getD i 0=c))])/\Hid (Below w.heap.size w w')/\Hid (Bs l c i i):=by
 have hlen:=(aa h).len
 have HB0:Hid (Bs l c 0 n):=⟨Nat.zero_le _,by omega,fun k hk=>by omega,fun k h1 h2=>by omega⟩
 have HLEN:=hide hlen
 clear hlen
 go_enter Tryz.func149,Tryz.ntmps149
 go_wp2_with fail
 go_loopw [7,8] (fun a b wr=>∃ i j:Nat,a=.int .i64 (i:Int)/\b=.int .i64 (j:Int)/\i<=n/\j<=n/\Hid (Bs l c i j)/\Hid (wr=w)) (fun a b _=>(intOf b).toNat - (intOf a).toNat)
 case atStart=>exact ⟨0,n,rfl,rfl,Nat.zero_le _,Nat.le_refl _,HB0,rfl⟩
 case round=>
  obtain ⟨i,j,rfl,rfl,hi,hj,HB,HW⟩:=hrel
  obtain rfl:wr=w:=aa HW
  by_cases hij:i<j
  ·have hI:(i:Int)<(j:Int):=by omega
   obtain ⟨m,hm⟩:∃ m,(i+j) / 2=m:=⟨_,rfl⟩
   have YX:((i:Int)+(j:Int)) / 2=(m:Int):=by omega
   have him:i<=m:=by omega
   have hmj:m<j:=by omega
   have hw1:IntKind.i64.wrap ((m:Int)+1)=((m+1:Nat):Int):=by simp [IntKind.wrap,IntKind.bits,IntKind.signed];omega
   have c1:=((aa h).get (j:=m) (by omega)).1
   obtain ⟨x,hx⟩:∃ x,l.getD m 0=x:=⟨_,rfl⟩
   rw [hx] at c1
   have HX:=hide hx
   have HM:=hide hm
   clear hm hx
   by_cases hxc:x<c
   ·have HN:=hide ((aa HB).up (aa hs) hmj (by rw [aa HX];exact hxc))
    go_wp2_with (go_at_call 221;refine (yB _ _ _).mono ?_;rintro e w1 ⟨rfl,rfl⟩)
    go_roundw
    case rel=>exact ⟨m+1,j,by go_num,rfl,by omega,hj,HN,trivial⟩
    case measure=>have:=aa HM;simp [intOf];omega
   ·have hd:decide (x<c)=false:=by simpa using hxc
    have HN:=hide ((aa HB).down (aa hs) him hmj (by rw [aa HX];exact hxc))
    go_wp2_with (go_at_call 221;refine (yB _ _ _).mono ?_;rintro e w1 ⟨rfl,rfl⟩)
    go_roundw
    case rel=>exact ⟨i,m,rfl,by go_num,hi,by omega,HN,trivial⟩
    case measure=>have:=aa HM;simp [intOf];omega
  ·have hI:¬ (i:Int)<(j:Int):=by omega
   have hle:=(aa HB).le
   obtain rfl:i=j:=by omega
   by_cases hin:i<n
   ·have hIN:(i:Int)<(n:Int):=by omega
    have hi0:(0:Int)<=(i:Int):=by omega
    have c1:=((aa h).get (j:=i) hin).1
    obtain ⟨x,hx⟩:∃ x,l.getD i 0=x:=⟨_,rfl⟩
    rw [hx] at c1
    have HX:=hide hx
    clear hx
    by_cases hxc:x=c
    ·subst hxc
     go_wp2_with fail
     go_ret2
     exact ⟨i,by show Ending.returned (.tuple #[.int .i64 (i:Int),.bool true])=_;have hx:=aa HX;rw [List.getD_eq_getElem?_getD] at hx;simp [hin,hx],Below.refl _ _,HB⟩
    ·have hd:(x==c)=false:=by simpa using hxc
     go_wp2_with (go_at_call 222;refine (Kk _ _).mono ?_;rintro e w1 ⟨rfl,rfl⟩)
     go_ret2
     exact ⟨i,by show Ending.returned (.tuple #[.int .i64 (i:Int),.bool false])=_;have hx:=aa HX;rw [List.getD_eq_getElem?_getD] at hx;simp [hx,hxc],Below.refl _ _,HB⟩
   ·have hIN:¬ (i:Int)<(n:Int):=by omega
    go_wp2_with fail
    go_ret2
    exact ⟨i,by show Ending.returned (.tuple #[.int .i64 (i:Int),.bool false])=_;simp [hin],Below.refl _ _,HB⟩
end Go.Proofs.YtfolanohokflkaaGreatDoor
namespace Go.Proofs.YtfolanohokflkaaGreatDoor
open Go.RowKit
theorem V3 {l:ah} {c:Int} {k:Nat} (h:k<l.length) (h0:dD (l.take k) c=false):dD (l.take (k+1)) c=decide (l[k].1<=c/\c<=l[k].2):=by
 rw [List.take_succ_eq_append_getElem h]
 unfold dD at *
 rw [List.any_append,h0]
 simp
theorem V4 {l:ah} {c:Int} {k:Nat} (h:k<l.length) (h0:l[k].1<=c/\c<=l[k].2):dD l c=true:=by
 unfold dD
 exact List.any_eq_true.2 ⟨l[k],List.getElem_mem h,by simp [h0.1,h0.2]⟩
set_option maxRecDepth 100000 in
set_option maxHeartbeats 4000000 in
theorem ZT (w:World) (l:ah) (c:Int) (hl:l.length<=900) (ht:Tidy l) :
  Calls Tryz.prog 165 #[.string (encS l),.int .i32 c] w fun e w'=>e=.returned (.bool (dD l c))/\Below w.heap.size w w':=by
 have hP:=jZ w l (by omega) (bD ht)
 have HP:=hide hP
 clear hP ht
 generalize encS l=s at HP
 go_enter Tryz.func165,Tryz.ntmps165
 go_wp2_with (go_at_call 161;refine (aa HP).mono ?_;clear HP;rintro e w1 ⟨v,rfl,hrow,hb⟩;have HB1:=hide hb;obtain ⟨av,cv,rfl,hvw⟩:=aO hrow;have ML:=hide hvw;clear hrow hb hvw)
 go_loopw [10] (fun i wr=>∃ k:Nat,k<=l.length/\i=.int .i64 k/\Hid (dD (l.take k) c=false)/\Hid (Below w1.heap.size w1 wr)) (fun i _=>l.length - (intOf i).toNat)
 case atStart=>exact ⟨0,Nat.zero_le _,rfl,rfl,Below.refl _ _⟩
 case round=>
  obtain ⟨k,hk,rfl,HI,HB⟩:=hrel
  by_cases hlt:k<l.length
  ·obtain ⟨g,rfl,-,hg,hc,-⟩:=aa ML (by omega)
   have hget:=iZ l k hlt
   have c1:=hc (k*2) (by omega)
   have c2:=hc (k*2+1) (by omega)
   rw [hget.1,<-(aa HB).cell (p:=⟨g,k*2,none⟩) hg] at c1
   rw [hget.2,<-(aa HB).cell (p:=⟨g,k*2+1,none⟩) hg] at c2
   have HT:=hide (V3 (c:=c) hlt (aa HI))
   have HW:=hide (fun h0=>V4 (c:=c) hlt h0)
   have HB2:=hide ((aa HB).alloc (aa HB).size (.cells #[.int .i32 l[k].1,.int .i32 l[k].2] 248))
   clear hget hc ML HI HB
   generalize l[k].1=lo at *
   generalize l[k].2=hi at *
   by_cases h1:lo<=c
   ·by_cases h2:c<=hi
    ·go_wp2_with fail
     go_ret
     exact ⟨by rw [aa HW ⟨h1,h2⟩];rfl,(aa HB1).trans ((aa HB2).mono (aa HB1).size)⟩
    ·have d2:decide (c<=hi)=false:=by simpa using h2
     go_wp2_with fail
     go_roundw
     case rel=>exact ⟨k+1,by omega,by go_num,(by show _=_;rw [aa HT];simp [h2]),HB2⟩
     case measure=>simp [intOf];omega
   ·have d1:decide (lo<=c)=false:=by simpa using h1
    go_wp2_with fail
    go_roundw
    case rel=>exact ⟨k+1,by omega,by go_num,(by show _=_;rw [aa HT];simp [h1]),HB2⟩
    case measure=>simp [intOf];omega
  ·have hkl:k=l.length:=by omega
   subst hkl
   rw [List.take_length] at HI
   go_wp2_with fail
   go_ret
   exact ⟨by rw [aa HI];rfl,(aa HB1).trans ((aa HB).mono (aa HB1).size)⟩
end Go.Proofs.YtfolanohokflkaaGreatDoor
namespace Go.Proofs.YtfolanohokflkaaGreatDoor
open Go.RowKit
theorem V5 {ops:Array Oper} {rest:List Oper} {o:Oper} {a:Act} {Q:Exit->Act->World->Prop} (w wr:World) (zs:List Int) (v:Value) (c:Int) (s x:Operand) (hg:o.guard=none)
  (hop:o.op=.call { callee:=.builtin .append,args:=#[s,x],argTypes:=#[107,107] }) (hs:a.eval s=v) (H:Nat) (hH:wr.heap.size=H) (hx:a.eval x=.slice (some ⟨H,0,none⟩) 1 1)
  (ho:Hid (wr.ownsRow w.heap.size 21 1 v zs.length (runeCells zs))) (hb:Hid (Below w.heap.size w wr)) (hl:zs.length<=2000000)
  (K:∀ ao cap w',Hid (w'.ownsRow w.heap.size 21 1 (.slice ao (zs.length+1) cap) (zs.length+1) (runeCells (zs++[c])))->Hid (Below w.heap.size w w')->wpList Tryz.prog ops Q rest (a.put o.dst (.slice ao (zs.length+1) cap)) w') :
  wpList Tryz.prog ops Q (o::rest) a (wr.alloc (.cells #[.int .i32 c] 21)):=by
 obtain ⟨i0,hi0,hz0,hz1,hz2⟩:=info_parts IW
 subst hH
 have hown:=aa ho
 have hb':Below w.heap.size w wr:=hb
 have:=hb'.size
 refine wpList_append_own _ hg s x 107 hop w.heap.size 21 i0 (.int .i32 0) 1 4 Tryz.underlying107 hi0 hz0 hz1 hz2 rfl (by decide) _ _ _ hs (hown.alloc _) ⟨wr.heap.size,0,none⟩ 1 1 [.int .i32 c] hx rfl (bM wr [.int .i32 c] _) (by intro u hu;simp at hu;rw [hu];rfl) (by unfold maxLen;omega) (by omega) (by simp;omega) ?_
 intro v' w' h1 h2 _
 have h3:w'.ownsRow w.heap.size 21 1 v' (zs.length+1) (runeCells (zs++[c])):=by
  rw [show runeCells (zs++[c])=runeCells zs++[.int .i32 c] from by simp [runeCells]]
  exact h1
 obtain ⟨ao,cap,rfl,-⟩:=aO h3
 exact K ao cap w' h3 (ji hb' hown h2 hb'.size)
theorem below_grown {B:Nat} {w wr w1:World} {e size n:Nat} {v:Value} {xs:List Value} (hb:Below B w wr) (ho:wr.ownsRow B e size v n xs) (hg:wr.grownBy w1 v.ownBlock) (hB:B<=wr.heap.size):Below B w w1:=
 ⟨hg.os.trans hb.os,hg.tape.trans hb.tape,hg.output.trans hb.output,Nat.le_trans hb.size hg.size,fun k hk=>(hg.block k (by omega) (fun e=>by have:=(ho.lt k e.symm).1;omega)).trans (hb.block k hk)⟩
theorem Nu {w:World} {B e size g n cap:Nat} {xs:List Value} (h:w.ownsRow 0 e size (.slice (some ⟨g,0,none⟩) n cap) n xs) (hB:B<=g):w.ownsRow B e size (.slice (some ⟨g,0,none⟩) n cap) n xs:=by
 obtain ⟨hl,⟨hv,_⟩ | ⟨g',cap',cur,hv,_,rest⟩⟩:=h
 ·cases hv
 ·have e:g'=g:=by injection hv with e;injection e with e;injection e with e;exact e.symm
  subst e
  exact ⟨hl,.inr ⟨g',cap',cur,hv,hB,rest⟩⟩
end Go.Proofs.YtfolanohokflkaaGreatDoor
namespace Go.Proofs.YtfolanohokflkaaGreatDoor
open Go.RowKit
structure kZ (w:World) (t:TB) (g cap:Nat) (dE:List Int):Prop where
 own:w.ownsRow 0 21 1 (.slice (some ⟨g,0,none⟩) dE.length cap) dE.length (runeCells dE)
 apart:¬ TF t g
theorem kZ.lt {w:World} {t:TB} {g cap:Nat} {dE:List Int} (h:kZ w t g cap dE):g<w.heap.size:=(h.own.lt g rfl).2
theorem kZ.move {w w':World} {t:TB} {g cap:Nat} {dE:List Int} (h:kZ w t g cap dE) (e:w'.heap[g]? = w.heap[g]?):kZ w' t g cap dE:=by
 refine ⟨?_,h.apart⟩
 obtain ⟨hl,hx | ⟨g',cap',cur,hv,hb',hg,rest⟩⟩:=h.own
 ·exact ⟨hl,.inl hx⟩
 ·have e':g'=g:=by injection hv with e;injection e with e;injection e with e;exact e.symm
  subst e'
  exact ⟨hl,.inr ⟨g',cap',cur,hv,hb',e.trans hg,rest⟩⟩
section
variable {w:World} {t:TB} {T:List Te} {S C:List (Value×Value)} {k:Ky}
end
end Go.Proofs.YtfolanohokflkaaGreatDoor
namespace Go.Proofs.YtfolanohokflkaaGreatDoor
open Go.RowKit
section
variable {w:World} {t:TB} {T:List Te} {N S C:List (Value×Value)} {k:Ky}
theorem bf.ZU (h:bf w t T N S C) (C':List (Value×Value)):bf (ChangeMaps.setBlock w t.cb (mkMap C')) t T N S C':=by
 obtain ⟨n1,n2,n3,n4,n5,n6⟩:=h.ne
 refine ⟨(bW n3).trans h.tb,(bW n5).trans h.nb,(bW n6).trans h.sb,vQ (h.foot (.inr (.inr (.inr (.inl rfl))))),?_,h.ne,h.nr,h.ok,h.nd⟩
 obtain ⟨hl,hx | ⟨g,cap,cur,hv,hb',hg,rest⟩⟩:=h.row
 ·exact ⟨hl,.inl hx⟩
 ·refine ⟨hl,.inr ⟨g,cap,cur,hv,hb',?_,rest⟩⟩
  have hne:g≠t.cb:=by injection hv with e;exact (h.nr _ e).2.2.2
  exact (bW hne).trans hg
end
end Go.Proofs.YtfolanohokflkaaGreatDoor
