import Derived.Test.YtfolanohokflkaaGreatDoorTabC
import Derived.Test.YtfolanohokflkaaGreatDoorRoE
import Derived.Test.YtfolanohokflkaaGreatDoorTabD
import Derived.WalkKit
import Derived.WalkSpells
import Derived.WalkLawsBesides
import Derived.WalkMore
import Derived.Deep.QuietTactic
import Derived.BigQuiet
import Derived.BigRegion
import Derived.Deep.RegionHeld3
namespace Go.Proofs.YtfolanohokflkaaGreatDoor
open Go.RowKit
theorem ac8 {w:World} {x y:Int} {k:Nat} (hk:w.cell? ⟨k,0,none⟩=some (.int .i64 y)):Calls Tryz.prog 158 #[.int .i64 x,.pointer (some ⟨k,0,none⟩)] w fun e w'=>e=.returned (.bool (decide (x=y)))/\w=w':=by
 go_enter Tryz.func158,Tryz.ntmps158
 go_wp2_with fail
 go_ret
 exact ⟨rfl,rfl⟩
end Go.Proofs.YtfolanohokflkaaGreatDoor
namespace Go.Proofs.YtfolanohokflkaaGreatDoor
open Go.RowKit
def heB (T:List Te) (i:Int):Bool:=match T[i.toNat]? with
 | some x=>x.2
 | none=>false
def gq (T:List Te) (k:Ky):Bool:=
 if k.kd=1\/k.kd=3 then true
 else if k.kd=2\/k.kd=5 then heB T k.fi&&heB T k.se
 else if k.kd=4 then heB T k.fi||heB T k.se
 else if k.kd=6 then !heB T k.fi
 else false
def AB (T:List Te) (k:Ky):Prop:=
 k.kd=0\/k.kd=1\/((k.kd=2\/k.kd=4\/k.kd=5)/\(∃ i:Nat,i<T.length/\k.fi=(i:Int))/\∃ j:Nat,j<T.length/\k.se=(j:Int))\/((k.kd=3\/k.kd=6)/\∃ i:Nat,i<T.length/\k.fi=(i:Int))
theorem FW {T:List Te} {i:Nat} {x:Te} (h:T[i]? = some x):heB T (i:Int)=x.2:=by simp [heB,h]
theorem YV {T:List Te} {k:Ky} (h:AB T k):YP T k (gq T k):=by
 have get:∀ {i:Nat},i<T.length->∃ x,T[i]? = some x:=fun h=>⟨_,List.getElem?_eq_getElem h⟩
 unfold YP gq
 rcases h with e | e | ⟨e,⟨i,hi,e1⟩,j,hj,e2⟩ | ⟨e,i,hi,e1⟩
 ·left;simp [e]
 ·right;left;simp [e]
 ·obtain ⟨x,hx⟩:=get hi
  obtain ⟨y,hy⟩:=get hj
  have a1:=FW hx
  have a2:=FW hy
  rcases e with e | e | e
  ·right;right;left
   exact ⟨e,i,j,x,y,hx,hy,e1,e2,by simp [e,e1,e2,a1,a2]⟩
  ·right;right;right;right;left
   exact ⟨e,i,j,x,y,hx,hy,e1,e2,by simp [e,e1,e2,a1,a2]⟩
  ·right;right;right;right;right;left
   exact ⟨e,i,j,x,y,hx,hy,e1,e2,by simp [e,e1,e2,a1,a2]⟩
 ·obtain ⟨x,hx⟩:=get hi
  have a1:=FW hx
  rcases e with e | e
  ·right;right;right;left
   exact ⟨e,⟨i,x,hx,e1⟩,by simp [e]⟩
  ·right;right;right;right;right;right
   exact ⟨e,i,x,hx,e1,by simp [e,e1,a1]⟩
def d_ (T:List Te) (k:Ky):List Te×Nat:=match T.findIdx? (fun x=>decide (x.1=k)) with
 | some i=>(T,i)
 | none=>(T++[(k,gq T k)],T.length)
theorem eG (T:List Te) (k:Ky):(∃ i b,T[i]? = some (k,b)/\d_ T k=(T,i))\/((∀ x∈T,x.1≠k)/\d_ T k=(T++[(k,gq T k)],T.length)):=by
 unfold d_
 cases h:T.findIdx? (fun x=>decide (x.1=k)) with
 | some i=>
  left
  obtain ⟨hi,hp,-⟩:=List.findIdx?_eq_some_iff_getElem.1 h
  refine ⟨i,T[i].2,?_,rfl⟩
  rw [List.getElem?_eq_getElem hi]
  have:T[i].1=k:=by simpa using hp
  rw [<-this]
 | none=>
  right
  refine ⟨fun x hx e=>?_,rfl⟩
  have:=List.findIdx?_eq_none_iff.1 h x hx
  simp [e] at this
theorem pF (T:List Te) (k:Ky):∃ X,(d_ T k).1=T++X:=by
 rcases eG T k with ⟨i,b,_,e⟩ | ⟨_,e⟩
 ·exact ⟨[],by rw [e];simp⟩
 ·exact ⟨_,by rw [e]⟩
theorem Uo (T:List Te) (k:Ky):(d_ T k).2<(d_ T k).1.length:=by
 rcases eG T k with ⟨i,b,h,e⟩ | ⟨_,e⟩
 ·rw [e];exact (List.getElem?_eq_some_iff.1 h).1
 ·rw [e];simp
abbrev gH:Nat:=1000000000000
theorem lW {w:World} {t:TB} {T:List Te} {S C:List (Value×Value)} {k:Ky} (h:Hid (bf w t T (ak T) S C)) (hk:zz k) (hw:AB T k) (hl:(d_ T k).1.length<=gH) :
  Calls Tryz.prog 84 #[.pointer (some ⟨t.tb,0,none⟩),iL k] w fun e w'=>e=.returned (.int .i64 (d_ T k).2)/\∃ t',Hid (bf w' t' (d_ T k).1 (ak (d_ T k).1) S C)/\Hid (bq t t' w w'):=by
 rcases eG T k with ⟨i,b,hi,e⟩ | ⟨hn,e⟩
 ·rw [e]
  exact (Uj h hi).mono fun e w' ⟨h1,h2⟩=>⟨h1,t,bf.below h (aa h2),bq.below (aa h2)⟩
 ·rw [e] at hl ⊢
  have hl':T.length<1000000000000:=by
   simp only [List.length_append,List.length_cons,List.length_nil] at hl
   unfold gH at hl
   omega
  exact Um h hk (YV hw) hn hl'
end Go.Proofs.YtfolanohokflkaaGreatDoor
namespace Go.Proofs.YtfolanohokflkaaGreatDoor
open Go.RowKit
def FX (R:List Te×Nat) (w:World) (t:TB) (S C:List (Value×Value)) (e:Ending) (w':World):Prop:=
 e=.returned (.int .i64 R.2)/\∃ t',Hid (bf w' t' R.1 (ak R.1) S C)/\Hid (bq t t' w w')
theorem lX {i:Nat} (h:i<=gH):(Lit.int .i64 (i:Int)).wf=true:=by
 unfold gH at h
 have h1:IntKind.i64.min<=(i:Int):=Int.le_trans (by decide) (Int.natCast_nonneg i)
 have h2:(i:Int)<=IntKind.i64.max:=Int.le_trans (b:=1000000000000) (by omega) (by decide)
 show (decide (IntKind.i64.min<=(i:Int))&&decide ((i:Int)<=IntKind.i64.max))=true
 rw [decide_eq_true h1,decide_eq_true h2]
 rfl
theorem zA:(Lit.int .i64 0).wf=true:=by decide
theorem aer:(Lit.int .i64 1).wf=true:=by decide
theorem aes:(Lit.int .i64 2).wf=true:=by decide
theorem aet:(Lit.int .i64 3).wf=true:=by decide
theorem aeu:(Lit.int .i64 4).wf=true:=by decide
theorem aev:(Lit.int .i64 5).wf=true:=by decide
theorem ac9:(Lit.int .i64 6).wf=true:=by decide
theorem uK:(⟨#[]⟩:ByteArray).size<=maxLen:=by decide
def kD (s:ByteArray):Ky:=⟨0,s,0,0⟩
def ed (i:Nat):Ky:=⟨3,⟨#[]⟩,i,0⟩
def ek (i:Nat):Ky:=⟨6,⟨#[]⟩,i,0⟩
theorem YW {s:ByteArray} (h:s.size<=maxLen):zz (kD s):=⟨zA,h,zA,zA⟩
theorem Uq {i:Nat} (h:i<=gH):zz (ed i):=⟨aet,uK,lX h,zA⟩
theorem Ur {i:Nat} (h:i<=gH):zz (ek i):=⟨ac9,uK,lX h,zA⟩
def fO (T:List Te) (s:ByteArray):List Te×Nat:=d_ T (kD s)
def uB (T:List Te) (i:Nat):List Te×Nat:=
 if i=0\/i=1 then (T,1) else match T[i]? with
  | some x=>if x.1.kd=3 then (T,i) else d_ T (ed i)
  | none=>(T,0)
def vS (T:List Te) (i:Nat):List Te×Nat:=match T[i]? with
 | some x=>if x.1.kd=6 then (T,x.1.fi.toNat) else d_ T (ek i)
 | none=>(T,0)
section
variable {w:World} {t:TB} {T:List Te} {N S C:List (Value×Value)}
theorem bf.at (h:bf w t T N S C) {i:Nat} {x:Te} (hi:T[i]? = some x):∃ g,w.cell? ⟨t.tb,22,none⟩=some (.slice (some ⟨g,0,none⟩) T.length t.tc)/\w.cell? ⟨g,i*5,none⟩=some (.int .i64 x.1.kd)/\w.cell? ⟨g,i*5+1,none⟩=some (.string x.1.st)/\w.cell? ⟨g,i*5+2,none⟩=some (.int .i64 x.1.fi)/\w.cell? ⟨g,i*5+3,none⟩=some (.int .i64 x.1.se)/\w.cell? ⟨g,i*5+4,none⟩=some (.bool x.2):=by
 obtain ⟨g,ea,en,c⟩:=h.term hi
 have q:=h.cells.2.1
 rw [ea,en] at q
 exact ⟨g,q,c⟩
set_option maxRecDepth 100000 in
set_option maxHeartbeats 4000000 in
theorem FY {s:ByteArray} (h:Hid (bf w t T (ak T) S C)) (hs:s.size<=maxLen) (hl:(fO T s).1.length<=gH):Calls Tryz.prog 82 #[.pointer (some ⟨t.tb,0,none⟩),.string s] w (FX (fO T s) w t S C):=by
 have HK:=hide (lW h (YW hs) (.inl rfl) hl)
 unfold iL kD at HK
 dsimp only at HK
 clear hl h
 go_enter Tryz.func82,Tryz.ntmps82
 go_wp2_with (go_at_call 84;refine (aa HK).mono ?_;clear HK;rintro x w1 ⟨rfl,t1,H1,H2⟩)
 go_ret
 exact ⟨rfl,t1,H1,H2⟩
set_option maxRecDepth 100000 in
set_option maxHeartbeats 4000000 in
theorem Iz {i:Nat} (h:Hid (bf w t T (ak T) S C)) (hi:i<T.length) (hl:(uB T i).1.length<=gH):Calls Tryz.prog 117 #[.pointer (some ⟨t.tb,0,none⟩),.int .i64 i] w (FX (uB T i) w t S C):=by
 by_cases h01:i=0\/i=1
 ·unfold uB
  rw [if_pos h01]
  have HT:=h
  clear hl h
  rcases h01 with rfl | rfl
  all_goals
   go_enter Tryz.func117,Tryz.ntmps117
   go_wp2_with fail
   go_ret
   exact ⟨rfl,t,HT,bq.refl _ _⟩
 ·obtain ⟨x,hx⟩:∃ x,T[i]? = some x:=⟨_,List.getElem?_eq_getElem hi⟩
  have e:uB T i=if x.1.kd=3 then (T,i) else d_ T (ed i):=by unfold uB;rw [if_neg h01,hx]
  rw [e] at hl ⊢
  obtain ⟨g,q2,c0,-⟩:=(aa h).at hx
  have Yf:(i:Int)<(T.length:Int):=by omega
  have hi0:(0:Int)<=(i:Int):=by omega
  have n0:((i:Int)==0)=false:=by simp;omega
  have n1:((i:Int)==1)=false:=by simp;omega
  by_cases h3:x.1.kd=3
  ·rw [if_pos h3]
   rw [h3] at c0
   have HT:=h
   clear hl h
   go_enter Tryz.func117,Tryz.ntmps117
   go_wp2_with fail
   go_ret
   exact ⟨rfl,t,HT,bq.refl _ _⟩
  ·rw [if_neg h3] at hl ⊢
   have hn3:(x.1.kd==3)=false:=by simpa using h3
   have hlen:T.length<=gH:=by
    obtain ⟨X,hX⟩:=pF T (ed i)
    rw [hX,List.length_append] at hl
    omega
   have HK:=hide (lW h (Uq (by omega)) (.inr (.inr (.inr ⟨.inl rfl,i,hi,rfl⟩))) hl)
   unfold iL ed at HK
   dsimp only at HK
   clear hl h
   generalize x.1.kd=xk at *
   go_enter Tryz.func117,Tryz.ntmps117
   go_wp2_with (go_at_call 84;refine (aa HK).mono ?_;clear HK;rintro x w1 ⟨rfl,t1,H1,H2⟩)
   go_ret
   exact ⟨rfl,t1,H1,H2⟩
set_option maxRecDepth 100000 in
set_option maxHeartbeats 4000000 in
theorem OG {i:Nat} (h:Hid (bf w t T (ak T) S C)) (hi:i<T.length) (hp:∀ x,T[i]? = some x->0<=x.1.fi) (hl:(vS T i).1.length<=gH):Calls Tryz.prog 78 #[.pointer (some ⟨t.tb,0,none⟩),.int .i64 i] w (FX (vS T i) w t S C):=by
 obtain ⟨x,hx⟩:∃ x,T[i]? = some x:=⟨_,List.getElem?_eq_getElem hi⟩
 have hfi:=hp x hx
 have e:vS T i=if x.1.kd=6 then (T,x.1.fi.toNat) else d_ T (ek i):=by unfold vS;rw [hx]
 rw [e] at hl ⊢
 obtain ⟨g,q2,c0,c1,c2,c3,-⟩:=(aa h).at hx
 have Yf:(i:Int)<(T.length:Int):=by omega
 have hi0:(0:Int)<=(i:Int):=by omega
 by_cases h6:x.1.kd=6
 ·rw [if_pos h6]
  have HF:Hid (((x.1.fi.toNat:Nat):Int)=x.1.fi):=by show _=_;omega
  rw [h6] at c0
  have HT:=h
  clear hl h e hfi hp hx h6
  generalize x.1.st=xs at *
  generalize x.1.se=xe at *
  go_enter Tryz.func78,Tryz.ntmps78
  go_wp2_with fail
  go_ret
  exact ⟨by show Ending.returned (.int .i64 x.1.fi)=.returned (.int .i64 ((x.1.fi.toNat:Nat):Int));rw [aa HF],t,bf.alloc HT _,bq.below ((Below.refl _ _).alloc (Nat.le_refl _) _)⟩
 ·rw [if_neg h6] at hl ⊢
  have hn6:(x.1.kd==6)=false:=by simpa using h6
  have hlen:T.length<=gH:=by
   obtain ⟨X,hX⟩:=pF T (ek i)
   rw [hX,List.length_append] at hl
   omega
  have HK:=hide (lW (bf.alloc h (.cells #[.int .i64 x.1.kd,.string x.1.st,.int .i64 x.1.fi,.int .i64 x.1.se] 135)) (Ur (by omega)) (.inr (.inr (.inr ⟨.inr rfl,i,hi,rfl⟩))) hl)
  unfold iL ek at HK
  dsimp only at HK
  clear hl h e hfi hp hx h6
  generalize x.1.kd=xk at *
  generalize x.1.st=xs at *
  generalize x.1.fi=xf at *
  generalize x.1.se=xe at *
  go_enter Tryz.func78,Tryz.ntmps78
  go_wp2_with (go_at_call 84;refine (aa HK).mono ?_;clear HK;rintro x w1 ⟨rfl,t1,H1,H2⟩)
  go_ret
  exact ⟨rfl,t1,H1,(bq.below ((Below.refl _ _).alloc (Nat.le_refl _) _)).trans (aa H2)⟩
end
end Go.Proofs.YtfolanohokflkaaGreatDoor
namespace Go.Proofs.YtfolanohokflkaaGreatDoor
open Go.RowKit
def uL (T:List Te):Prop:=∀ i x,T[i]? = some x->AB (T.take i) x.1
theorem AB.mono {T T':List Te} {k:Ky} (h:AB T k) (hl:T.length<=T'.length):AB T' k:=by
 rcases h with e | e | ⟨e,⟨i,hi,e1⟩,j,hj,e2⟩ | ⟨e,i,hi,e1⟩
 ·exact .inl e
 ·exact .inr (.inl e)
 ·exact .inr (.inr (.inl ⟨e,⟨i,by omega,e1⟩,j,by omega,e2⟩))
 ·exact .inr (.inr (.inr ⟨e,i,by omega,e1⟩))
theorem uL.keep {T:List Te} (h:uL T) {k:Ky} (hk:AB T k):uL (d_ T k).1:=by
 rcases eG T k with ⟨i,b,_,e⟩ | ⟨_,e⟩
 ·rw [e];exact h
 ·rw [e]
  intro i x hx
  by_cases hi:i<T.length
  ·rw [List.getElem?_append_left hi] at hx
   rw [List.take_append_of_le_length (by omega)]
   exact h i x hx
  ·have hi':i=T.length:=by
    have:=(List.getElem?_eq_some_iff.1 hx).1
    simp at this
    omega
   subst hi'
   simp at hx
   subst hx
   exact hk.mono (by simp)
theorem uL.two {T:List Te} (h:uL T) {i:Nat} {x:Te} (hx:T[i]? = some x) (hk:x.1.kd=2\/x.1.kd=4\/x.1.kd=5):∃ a b:Nat,a<i/\b<i/\x.1.fi=(a:Int)/\x.1.se=(b:Int):=by
 have hlt:=(List.getElem?_eq_some_iff.1 hx).1
 rcases h i x hx with e | e | ⟨e,⟨a,ha,e1⟩,b,hb,e2⟩ | ⟨e,a,ha,e1⟩
 ·omega
 ·omega
 ·simp only [List.length_take] at ha hb
  exact ⟨a,b,by omega,by omega,e1,e2⟩
 ·omega
theorem uL.one {T:List Te} (h:uL T) {i:Nat} {x:Te} (hx:T[i]? = some x) (hk:x.1.kd=3\/x.1.kd=6):∃ a:Nat,a<i/\x.1.fi=(a:Int):=by
 have hlt:=(List.getElem?_eq_some_iff.1 hx).1
 rcases h i x hx with e | e | ⟨e,⟨a,ha,e1⟩,b,hb,e2⟩ | ⟨e,a,ha,e1⟩
 ·omega
 ·omega
 ·simp only [List.length_take] at ha hb
  exact ⟨a,by omega,e1⟩
 ·simp only [List.length_take] at ha
  exact ⟨a,by omega,e1⟩
def bR (i j:Nat):Ky:=⟨2,⟨#[]⟩,i,j⟩
theorem Ri {i j:Nat} (h:i<=gH) (h':j<=gH):zz (bR i j):=⟨aes,uK,lX h,lX h'⟩
theorem xL {T:List Te} {i j:Nat} (h:i<T.length) (h':j<T.length):AB T (bR i j):=.inr (.inr (.inl ⟨.inl rfl,⟨i,h,rfl⟩,j,h',rfl⟩))
def dH:Nat->List Te->Nat->Nat->List Te×Nat
 | 0,T,_,_=>(T,0)
 | f+1,T,i,j=>
  if i=0\/j=0 then (T,0) else if i=1 then (T,j) else if j=1 then (T,i) else match T[i]? with
   | some x=>if x.1.kd=2 then dH f (dH f T x.1.se.toNat j).1 x.1.fi.toNat (dH f T x.1.se.toNat j).2 else d_ T (bR i j)
   | none=>(T,0)
structure Ext (T:List Te) (R:List Te×Nat):Prop where
 sub:∃ X,R.1=T++X
 lt:R.2<R.1.length
 wf:uL R.1
theorem Ext.len {T:List Te} {R:List Te×Nat} (h:Ext T R):T.length<=R.1.length:=by
 obtain ⟨X,e⟩:=h.sub
 rw [e,List.length_append]
 omega
theorem Ext.refl {T:List Te} {i:Nat} (h:uL T) (hi:i<T.length):Ext T (T,i):=⟨⟨[],by simp⟩,hi,h⟩
theorem Ext.trans {T:List Te} {R R':List Te×Nat} (h:Ext T R) (h':Ext R.1 R'):Ext T R':=by
 obtain ⟨X,e⟩:=h.sub
 obtain ⟨Y,e'⟩:=h'.sub
 exact ⟨⟨X++Y,by rw [e',e,List.append_assoc]⟩,h'.lt,h'.wf⟩
theorem Ext.keep {T:List Te} (h:uL T) {k:Ky} (hk:AB T k):Ext T (d_ T k):=⟨pF T k,Uo T k,h.keep hk⟩
theorem tJ:∀ (f:Nat) (T:List Te) (i j:Nat),i<f->uL T->0<T.length->i<T.length->j<T.length->Ext T (dH f T i j)
 | 0,_,_,_,h,_,_,_,_=>by omega
 | f+1,T,i,j,hf,hw,h0,hi,hj=>by
  unfold dH
  split
  ·exact Ext.refl hw h0
  ·split
   ·exact Ext.refl hw hj
   ·split
    ·exact Ext.refl hw hi
    ·obtain ⟨x,hx⟩:∃ x,T[i]? = some x:=⟨_,List.getElem?_eq_getElem hi⟩
     rw [hx]
     dsimp only
     split
     ·rename_i h2
      obtain ⟨a,b,ha,hb,e1,e2⟩:=hw.two hx (.inl h2)
      rw [e1,e2]
      simp only [Int.toNat_natCast]
      have E1:=tJ f T b j (by omega) hw h0 (by omega) hj
      have hl:=E1.len
      exact E1.trans (tJ f _ a _ (by omega) E1.wf (by omega) (by omega) E1.lt)
     ·exact Ext.keep hw (xL hi hj)
end Go.Proofs.YtfolanohokflkaaGreatDoor
namespace Go.Proofs.YtfolanohokflkaaGreatDoor
open Go.RowKit
section
variable {w:World} {t:TB} {T:List Te} {N S C:List (Value×Value)}
theorem bq.own {t':TB} {w':World} (h:Hid (bq t t' w w')) {k:Nat} (hk:k<w.heap.size) (hf:¬ TF t k) {o:Obj} (ho:w.heap[k]? = some o):w'.heap[k]? = some o:=((aa h).block k hk hf).trans ho
theorem bf.eF (h:Hid (bf w t T N S C)) {k:Nat} (hk:w.heap.size<=k):¬ TF t k:=fun e=>by have:=(aa h).foot e;omega
set_option maxRecDepth 100000 in
set_option maxHeartbeats 4000000 in
theorem Em:∀ (f:Nat) (w:World) (t:TB) (T:List Te) (i j:Nat),i<f->Hid (bf w t T (ak T) S C)->uL T->0<T.length->i<T.length->j<T.length->(dH f T i j).1.length<=gH ->
  Calls Tryz.prog 116 #[.pointer (some ⟨t.tb,0,none⟩),.int .i64 i,.int .i64 j] w (FX (dH f T i j) w t S C):=by
 intro f
 induction f with
 | zero=>intro w t T i j hf;omega
 | succ f ih=>
  intro w t T i j hf h hw h0 hi hj hl
  have Yf:(i:Int)<(T.length:Int):=by omega
  have hi0:(0:Int)<=(i:Int):=by omega
  by_cases c1:i=0\/j=0
  ·have e:dH (f+1) T i j=(T,0):=by unfold dH;rw [if_pos c1]
   rw [e]
   have HT:=h
   clear hl h e ih hw
   by_cases ci:i=0
   ·subst ci
    go_enter Tryz.func116,Tryz.ntmps116
    go_wp2_with fail
    go_ret
    exact ⟨rfl,t,HT,bq.refl _ _⟩
   ·obtain rfl:j=0:=by omega
    have n0:((i:Int)==0)=false:=by simp;omega
    clear c1 ci
    go_enter Tryz.func116,Tryz.ntmps116
    go_wp2_with fail
    go_ret
    exact ⟨rfl,t,HT,bq.refl _ _⟩
  ·have n0:((i:Int)==0)=false:=by simp;omega
   have m0:((j:Int)==0)=false:=by simp;omega
   by_cases c2:i=1
   ·have e:dH (f+1) T i j=(T,j):=by unfold dH;rw [if_neg c1,if_pos c2]
    rw [e]
    subst c2
    have HT:=h
    clear hl h e ih hw c1
    go_enter Tryz.func116,Tryz.ntmps116
    go_wp2_with fail
    go_ret
    exact ⟨rfl,t,HT,bq.refl _ _⟩
   ·have n1:((i:Int)==1)=false:=by simp;omega
    by_cases c3:j=1
    ·have e:dH (f+1) T i j=(T,i):=by unfold dH;rw [if_neg c1,if_neg c2,if_pos c3]
     rw [e]
     subst c3
     have HT:=h
     clear hl h e ih hw c1 c2
     go_enter Tryz.func116,Tryz.ntmps116
     go_wp2_with fail
     go_ret
     exact ⟨rfl,t,HT,bq.refl _ _⟩
    ·have m1:((j:Int)==1)=false:=by simp;omega
     obtain ⟨x,hx⟩:∃ x,T[i]? = some x:=⟨_,List.getElem?_eq_getElem hi⟩
     have e:dH (f+1) T i j=if x.1.kd=2 then dH f (dH f T x.1.se.toNat j).1 x.1.fi.toNat (dH f T x.1.se.toNat j).2 else d_ T (bR i j):=by
      conv=>lhs;unfold dH
      rw [if_neg c1,if_neg c2,if_neg c3,hx]
     rw [e] at hl ⊢
     obtain ⟨g,q2,a0,a1,a2,a3,-⟩:=(aa h).at hx
     have HA:=bf.alloc h (.cells #[.int .i64 x.1.kd,.string x.1.st,.int .i64 x.1.fi,.int .i64 x.1.se] 135)
     have uu:Hid (bq t t w (w.alloc (.cells #[.int .i64 x.1.kd,.string x.1.st,.int .i64 x.1.fi,.int .i64 x.1.se] 135))):=bq.below ((Below.refl _ _).alloc (Nat.le_refl _) _)
     by_cases c4:x.1.kd=2
     ·rw [if_pos c4] at hl ⊢
      obtain ⟨a,b,ha,hb,e1,e2⟩:=hw.two hx (.inl c4)
      rw [e1,e2] at hl ⊢
      simp only [Int.toNat_natCast] at hl ⊢
      have E1:=tJ f T b j (by omega) hw h0 (by omega) hj
      have hlen1:=E1.len
      have E2:=tJ f _ a _ (by omega) E1.wf (by omega) (by omega) E1.lt
      have ac_:=E2.len
      rw [c4,e1,e2] at HA uu
      rw [c4] at a0
      rw [e1] at a2
      rw [e2] at a3
      have H1:=hide (fun m=>ih _ t T b j (by omega) (hide ((aa HA).drew m)) hw h0 (by omega) hj (by omega))
      have H2:=hide (fun w1 t1 h1=>ih w1 t1 (dH f T b j).1 a (dH f T b j).2 (by omega) h1 E1.wf (by omega) (by omega) E1.lt hl)
      have DK:=hide (heap_alloc_new w (.cells #[.int .i64 2,.string x.1.st,.int .i64 a,.int .i64 b] 135))
      have hnot:¬ TF t w.heap.size:=bf.eF h (Nat.le_refl _)
      have hlt:w.heap.size<(w.alloc (.cells #[.int .i64 2,.string x.1.st,.int .i64 a,.int .i64 b] 135)).heap.size:=by simp
      generalize x.1.st=xs at *
      generalize dH f (dH f T b j).1 a (dH f T b j).2=R2 at *
      generalize dH f T b j=R1 at *
      clear hl e ih hw E1 E2 e1 e2 hlen1 ac_ hx c4 HA
      go_enter Tryz.func116,Tryz.ntmps116
      go_wp2_with fail
      generalize w.alloc (.cells #[.int .i64 2,.string xs,.int .i64 a,.int .i64 b] 135)=Wk at *
      obtain ⟨k0,k1,k2,k3⟩:=bQ (aa DK)
      generalize hkb:w.heap.size=kb at *
      go_region_held3 (fun w'=>w'.cell? ⟨kb,2,none⟩=some (.int .i64 a)/\w'.cell? ⟨kb,3,none⟩=some (.int .i64 b)) (go_keep)
       (first
        | (go_at_call 116;refine (aa H1 1).mono ?_;clear H1;rintro x w1 ⟨rfl,t1,HT1,rD⟩;obtain ⟨r0,r1,r2,r3⟩:=bQ (bq.own rD hlt hnot (aa DK));have H2':=hide (aa H2 w1 t1 HT1);rw [(aa rD).tb] at H2')
        | (go_at_call 116;refine (aa H2').mono ?_;clear H2';rintro x w2 ⟨rfl,t2,HT2,uM⟩;obtain ⟨s0,s1,s2,s3⟩:=bQ (bq.own uM (Nat.lt_of_lt_of_le hlt (aa rD).size) (fun hf=>((aa rD).foot hf).elim hnot (fun hle=>absurd hlt (by have:Wk.heap.size<=kb:=hle;omega))) (bq.own rD hlt hnot (aa DK)))))
      go_wp2_with fail
      go_ret
      have hf1:=aa rD
      have hf:bq t t1 w w1:=(aa uu).trans ⟨hf1.os,hf1.tape,hf1.output,hf1.size,hf1.block,hf1.tb,hf1.nb,hf1.sb,hf1.cb,hf1.row⟩
      exact ⟨rfl,t2,HT2,hf.trans (aa uM)⟩
     ·rw [if_neg c4] at hl ⊢
      have n2:(x.1.kd==2)=false:=by simpa using c4
      have hlen:T.length<=gH:=by
       obtain ⟨X,hX⟩:=pF T (bR i j)
       rw [hX,List.length_append] at hl
       omega
      have HK:=hide (lW HA (Ri (by omega) (by omega)) (xL hi hj) hl)
      unfold iL bR at HK
      dsimp only at HK
      clear hl h e ih hw HA hx
      generalize x.1.kd=xk at *
      generalize x.1.st=xs at *
      generalize x.1.fi=xf at *
      generalize x.1.se=xe at *
      go_enter Tryz.func116,Tryz.ntmps116
      go_wp2_with (go_at_call 84;refine (aa HK).mono ?_;clear HK;rintro x w1 ⟨rfl,t1,H1,H2⟩)
      go_ret
      exact ⟨rfl,t1,H1,(aa uu).trans (aa H2)⟩
end
end Go.Proofs.YtfolanohokflkaaGreatDoor
