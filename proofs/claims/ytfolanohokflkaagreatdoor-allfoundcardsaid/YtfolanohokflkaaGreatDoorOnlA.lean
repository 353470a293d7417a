import Derived.Test.YtfolanohokflkaaGreatDoorSvF
import Derived.WalkKit
import Derived.WalkSpells
import Derived.WalkLawsBesides
import Derived.WalkMore
import Derived.Test.YtfolanohokflkaaGreatDoorBsA
import Derived.Test.YtfolanohokflkaaGreatDoorProC
import Derived.Deep.QuietTactic
import Derived.BigQuiet
import Derived.BigRegion
import Derived.Deep.RegionHeld3
import Derived.Test.YtfolanohokflkaaGreatDoorTabC
import Derived.Test.YtfolanohokflkaaGreatDoorAfE
import Derived.Test.YtfolanohokflkaaGreatDoorTabD
namespace Go.Proofs.YtfolanohokflkaaGreatDoor
open Go.RowKit
theorem UK {l:af} {c:Int} {k:Nat} (h:k<l.length) (h0:dw (l.take k) c=false):dw (l.take (k+1)) c=decide (l[k].1<=c/\c<=l[k].2):=by
 rw [List.take_succ_eq_append_getElem h]
 unfold dw at *
 rw [List.any_append,h0]
 simp
theorem UL {l:af} {c:Int} {k:Nat} (h:k<l.length) (h0:l[k].1<=c/\c<=l[k].2):dw l c=true:=by
 unfold dw
 exact List.any_eq_true.2 ⟨l[k],List.getElem_mem h,by simp [h0.1,h0.2]⟩
set_option maxRecDepth 100000 in
set_option maxHeartbeats 4000000 in
theorem YL (w:World) (l:af) (c:Int) (hl:l.length<=900) (ht:Tidy l) :
  Calls Tryz.prog 165 #[.string (encS l),.int .i32 c] w fun e w'=>e=.returned (.bool (dw l c))/\Below w.heap.size w w':=by
 have hP:=jM w l (by omega) (bA ht)
 have HP:=hide hP
 clear hP ht
 generalize encS l=s at HP
 go_enter Tryz.func165,Tryz.ntmps165
 go_wp2_with (go_at_call 161;refine (aa HP).mono ?_;clear HP;rintro e w1 ⟨v,rfl,hrow,hb⟩;have HB1:=hide hb;obtain ⟨av,cv,rfl,hvw⟩:=aN hrow;have Mw:=hide hvw;clear hrow hb hvw)
 go_loopw [10] (fun i wr=>∃ k:Nat,k<=l.length/\i=.int .i64 k/\Hid (dw (l.take k) c=false)/\Hid (Below w1.heap.size w1 wr)) (fun i _=>l.length - (intOf i).toNat)
 case atStart=>exact ⟨0,Nat.zero_le _,rfl,rfl,Below.refl _ _⟩
 case round=>
  obtain ⟨k,hk,rfl,HI,HB⟩:=hrel
  by_cases hlt:k<l.length
  ·obtain ⟨g,rfl,-,hg,hc,-⟩:=aa Mw (by omega)
   have hget:=iO l k hlt
   have c1:=hc (k*2) (by omega)
   have c2:=hc (k*2+1) (by omega)
   rw [hget.1,<-(aa HB).cell (p:=⟨g,k*2,none⟩) hg] at c1
   rw [hget.2,<-(aa HB).cell (p:=⟨g,k*2+1,none⟩) hg] at c2
   have HT:=hide (UK (c:=c) hlt (aa HI))
   have HW:=hide (fun h0=>UL (c:=c) hlt h0)
   have HB2:=hide ((aa HB).alloc (aa HB).size (.cells #[.int .i32 l[k].1,.int .i32 l[k].2] 248))
   clear hget hc Mw HI HB
   generalize l[k].1=lo at *
   generalize l[k].2=hi at *
   by_cases h1:lo<=c
   ·by_cases h2:c<=hi
    ·go_wp2_with fail
     go_ret
     exact ⟨by rw [aa HW ⟨h1,h2⟩];rfl,(aa HB1).trans ((aa HB2).mono (aa HB1).size)⟩
    ·have d2:decide (c<=hi)=false:=by simpa using h2
     go_wp2_with fail
     go_roundw
     case rel=>exact ⟨k+1,by omega,by go_num,(by show _=_;rw [aa HT];simp [h2]),HB2⟩
     case measure=>simp [intOf];omega
   ·have d1:decide (lo<=c)=false:=by simpa using h1
    go_wp2_with fail
    go_roundw
    case rel=>exact ⟨k+1,by omega,by go_num,(by show _=_;rw [aa HT];simp [h1]),HB2⟩
    case measure=>simp [intOf];omega
  ·have hkl:k=l.length:=by omega
   subst hkl
   rw [List.take_length] at HI
   go_wp2_with fail
   go_ret
   exact ⟨by rw [aa HI];rfl,(aa HB1).trans ((aa HB).mono (aa HB1).size)⟩
theorem UM {ops:Array Oper} {rest:List Oper} {o:Oper} {a:Act} {Q:Exit->Act->World->Prop} (w wr:World) (zs:List Int) (v:Value) (c:Int) (s x:Operand) (hg:o.guard=none)
  (hop:o.op=.call { callee:=.builtin .append,args:=#[s,x],argTypes:=#[107,107] }) (hs:a.eval s=v) (H:Nat) (hH:wr.heap.size=H) (hx:a.eval x=.slice (some ⟨H,0,none⟩) 1 1)
  (ho:Hid (wr.ownsRow w.heap.size 21 1 v zs.length (runeCells zs))) (hb:Hid (Below w.heap.size w wr)) (hl:zs.length<=2000000)
  (K:∀ ao cap w',Hid (w'.ownsRow w.heap.size 21 1 (.slice ao (zs.length+1) cap) (zs.length+1) (runeCells (zs++[c])))->Hid (Below w.heap.size w w')->wpList Tryz.prog ops Q rest (a.put o.dst (.slice ao (zs.length+1) cap)) w') :
  wpList Tryz.prog ops Q (o::rest) a (wr.alloc (.cells #[.int .i32 c] 21)):=by
 obtain ⟨i0,hi0,hz0,hz1,hz2⟩:=info_parts IC
 subst hH
 have hown:=aa ho
 have hb':Below w.heap.size w wr:=hb
 have:=hb'.size
 refine wpList_append_own _ hg s x 107 hop w.heap.size 21 i0 (.int .i32 0) 1 4 Tryz.underlying107 hi0 hz0 hz1 hz2 rfl (by decide) _ _ _ hs (hown.alloc _) ⟨wr.heap.size,0,none⟩ 1 1 [.int .i32 c] hx rfl (bz wr [.int .i32 c] _) (by intro u hu;simp at hu;rw [hu];rfl) (by unfold maxLen;omega) (by omega) (by simp;omega) ?_
 intro v' w' h1 h2 _
 have h3:w'.ownsRow w.heap.size 21 1 v' (zs.length+1) (runeCells (zs++[c])):=by
  rw [show runeCells (zs++[c])=runeCells zs++[.int .i32 c] from by simp [runeCells]]
  exact h1
 obtain ⟨ao,cap,rfl,-⟩:=aN h3
 exact K ao cap w' h3 (iW hb' hown h2 hb'.size)
theorem below_grown {B:Nat} {w wr w1:World} {e size n:Nat} {v:Value} {xs:List Value} (hb:Below B w wr) (ho:wr.ownsRow B e size v n xs) (hg:wr.grownBy w1 v.ownBlock) (hB:B<=wr.heap.size):Below B w w1:=
 ⟨hg.os.trans hb.os,hg.tape.trans hb.tape,hg.output.trans hb.output,Nat.le_trans hb.size hg.size,fun k hk=>(hg.block k (by omega) (fun e=>by have:=(ho.lt k e.symm).1;omega)).trans (hb.block k hk)⟩
theorem MS {w:World} {B e size g n cap:Nat} {xs:List Value} (h:w.ownsRow 0 e size (.slice (some ⟨g,0,none⟩) n cap) n xs) (hB:B<=g):w.ownsRow B e size (.slice (some ⟨g,0,none⟩) n cap) n xs:=by
 obtain ⟨hl,⟨hv,_⟩ | ⟨g',cap',cur,hv,_,rest⟩⟩:=h
 ·cases hv
 ·have e:g'=g:=by injection hv with e;injection e with e;injection e with e;exact e.symm
  subst e
  exact ⟨hl,.inr ⟨g',cap',cur,hv,hB,rest⟩⟩
structure kU (w:World) (t:TB) (g cap:Nat) (dn:List Int):Prop where
 own:w.ownsRow 0 21 1 (.slice (some ⟨g,0,none⟩) dn.length cap) dn.length (runeCells dn)
 apart:¬ TF t g
theorem kU.lt {w:World} {t:TB} {g cap:Nat} {dn:List Int} (h:kU w t g cap dn):g<w.heap.size:=(h.own.lt g rfl).2
theorem kU.move {w w':World} {t:TB} {g cap:Nat} {dn:List Int} (h:kU w t g cap dn) (e:w'.heap[g]? = w.heap[g]?):kU w' t g cap dn:=by
 refine ⟨?_,h.apart⟩
 obtain ⟨hl,hx | ⟨g',cap',cur,hv,hb',hg,rest⟩⟩:=h.own
 ·exact ⟨hl,.inl hx⟩
 ·have e':g'=g:=by injection hv with e;injection e with e;injection e with e;exact e.symm
  subst e'
  exact ⟨hl,.inr ⟨g',cap',cur,hv,hb',e.trans hg,rest⟩⟩
section
variable {w:World} {t:TB} {T:List Te} {S C:List (Value×Value)} {k:Ky}
end
section
variable {w:World} {t:TB} {T:List Te} {N S C:List (Value×Value)} {k:Ky}
theorem aX.YM (h:aX w t T N S C) (C':List (Value×Value)):aX (ChangeMaps.setBlock w t.cb (mkMap C')) t T N S C':=by
 obtain ⟨n1,n2,n3,n4,n5,n6⟩:=h.ne
 refine ⟨(bO n3).trans h.tb,(bO n5).trans h.nb,(bO n6).trans h.sb,vN (h.foot (.inr (.inr (.inr (.inl rfl))))),?_,h.ne,h.nr,h.ok,h.nd⟩
 obtain ⟨hl,hx | ⟨g,cap,cur,hv,hb',hg,rest⟩⟩:=h.row
 ·exact ⟨hl,.inl hx⟩
 ·refine ⟨hl,.inr ⟨g,cap,cur,hv,hb',?_,rest⟩⟩
  have hne:g≠t.cb:=by injection hv with e;exact (h.nr _ e).2.2.2
  exact (bO hne).trans hg
end
theorem ac3 {w:World} {x y:Int} {k:Nat} (hk:w.cell? ⟨k,0,none⟩=some (.int .i64 y)):Calls Tryz.prog 158 #[.int .i64 x,.pointer (some ⟨k,0,none⟩)] w fun e w'=>e=.returned (.bool (decide (x=y)))/\w=w':=by
 go_enter Tryz.func158,Tryz.ntmps158
 go_wp2_with fail
 go_ret
 exact ⟨rfl,rfl⟩
end Go.Proofs.YtfolanohokflkaaGreatDoor
