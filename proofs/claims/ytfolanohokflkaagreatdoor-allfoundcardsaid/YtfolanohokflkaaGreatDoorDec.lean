import Derived.Test.YtfolanohokflkaaGreatDoorTabD
import Derived.WalkKit
import Derived.WalkSpells
import Derived.WalkLawsBesides
import Derived.WalkMore
import Derived.Test.YtfolanohokflkaaGreatDoorTabC
import Derived.Lib.DecodeN
import Derived.Shelf.Unicode.DecodeSlow
namespace Go.Proofs.YtfolanohokflkaaGreatDoor
open Go.RowKit
def heB (T:List Te) (i:Int):Bool:=match T[i.toNat]? with
 | some x=>x.2
 | none=>false
def fK (T:List Te) (k:Ky):Bool:=
 if k.kd=1\/k.kd=3 then true
 else if k.kd=2\/k.kd=5 then heB T k.fi&&heB T k.se
 else if k.kd=4 then heB T k.fi||heB T k.se
 else if k.kd=6 then !heB T k.fi
 else false
def AJ (T:List Te) (k:Ky):Prop:=
 k.kd=0\/k.kd=1\/((k.kd=2\/k.kd=4\/k.kd=5)/\(∃ i:Nat,i<T.length/\k.fi=(i:Int))/\∃ j:Nat,j<T.length/\k.se=(j:Int))\/((k.kd=3\/k.kd=6)/\∃ i:Nat,i<T.length/\k.fi=(i:Int))
theorem FN {T:List Te} {i:Nat} {x:Te} (h:T[i]? = some x):heB T (i:Int)=x.2:=by simp [heB,h]
theorem Yn {T:List Te} {k:Ky} (h:AJ T k):Yi T k (fK T k):=by
 have get:∀ {i:Nat},i<T.length->∃ x,T[i]? = some x:=fun h=>⟨_,List.getElem?_eq_getElem h⟩
 unfold Yi fK
 rcases h with e | e | ⟨e,⟨i,hi,e1⟩,j,hj,e2⟩ | ⟨e,i,hi,e1⟩
 ·left;simp [e]
 ·right;left;simp [e]
 ·obtain ⟨x,hx⟩:=get hi
  obtain ⟨y,hy⟩:=get hj
  have a1:=FN hx
  have a2:=FN hy
  rcases e with e | e | e
  ·right;right;left
   exact ⟨e,i,j,x,y,hx,hy,e1,e2,by simp [e,e1,e2,a1,a2]⟩
  ·right;right;right;right;left
   exact ⟨e,i,j,x,y,hx,hy,e1,e2,by simp [e,e1,e2,a1,a2]⟩
  ·right;right;right;right;right;left
   exact ⟨e,i,j,x,y,hx,hy,e1,e2,by simp [e,e1,e2,a1,a2]⟩
 ·obtain ⟨x,hx⟩:=get hi
  have a1:=FN hx
  rcases e with e | e
  ·right;right;right;left
   exact ⟨e,⟨i,x,hx,e1⟩,by simp [e]⟩
  ·right;right;right;right;right;right
   exact ⟨e,i,x,hx,e1,by simp [e,e1,a1]⟩
def dP (T:List Te) (k:Ky):List Te×Nat:=match T.findIdx? (fun x=>decide (x.1=k)) with
 | some i=>(T,i)
 | none=>(T++[(k,fK T k)],T.length)
theorem dV (T:List Te) (k:Ky):(∃ i b,T[i]? = some (k,b)/\dP T k=(T,i))\/((∀ x∈T,x.1≠k)/\dP T k=(T++[(k,fK T k)],T.length)):=by
 unfold dP
 cases h:T.findIdx? (fun x=>decide (x.1=k)) with
 | some i=>
  left
  obtain ⟨hi,hp,-⟩:=List.findIdx?_eq_some_iff_getElem.1 h
  refine ⟨i,T[i].2,?_,rfl⟩
  rw [List.getElem?_eq_getElem hi]
  have:T[i].1=k:=by simpa using hp
  rw [<-this]
 | none=>
  right
  refine ⟨fun x hx e=>?_,rfl⟩
  have:=List.findIdx?_eq_none_iff.1 h x hx
  simp [e] at this
theorem oU (T:List Te) (k:Ky):∃ X,(dP T k).1=T++X:=by
 rcases dV T k with ⟨i,b,_,e⟩ | ⟨_,e⟩
 ·exact ⟨[],by rw [e];simp⟩
 ·exact ⟨_,by rw [e]⟩
theorem TT (T:List Te) (k:Ky):(dP T k).2<(dP T k).1.length:=by
 rcases dV T k with ⟨i,b,h,e⟩ | ⟨_,e⟩
 ·rw [e];exact (List.getElem?_eq_some_iff.1 h).1
 ·rw [e];simp
abbrev fU:Nat:=1000000000000
theorem lQ {w:World} {t:TB} {T:List Te} {S C:List (Value×Value)} {k:Ky} (h:Hid (aX w t T (ak T) S C)) (hk:zw k) (hw:AJ T k) (hl:(dP T k).1.length<=fU) :
  Calls Tryz.prog 84 #[.pointer (some ⟨t.tb,0,none⟩),iD k] w fun e w'=>e=.returned (.int .i64 (dP T k).2)/\∃ t',Hid (aX w' t' (dP T k).1 (ak (dP T k).1) S C)/\Hid (a_ t t' w w'):=by
 rcases dV T k with ⟨i,b,hi,e⟩ | ⟨hn,e⟩
 ·rw [e]
  exact (TN h hi).mono fun e w' ⟨h1,h2⟩=>⟨h1,t,aX.below h (aa h2),a_.below (aa h2)⟩
 ·rw [e] at hl ⊢
  have hl':T.length<1000000000000:=by
   simp only [List.length_append,List.length_cons,List.length_nil] at hl
   unfold fU at hl
   omega
  exact TR h hk (Yn hw) hn hl'
def FO (R:List Te×Nat) (w:World) (t:TB) (S C:List (Value×Value)) (e:Ending) (w':World):Prop:=
 e=.returned (.int .i64 R.2)/\∃ t',Hid (aX w' t' R.1 (ak R.1) S C)/\Hid (a_ t t' w w')
theorem lT {i:Nat} (h:i<=fU):(Lit.int .i64 (i:Int)).wf=true:=by
 unfold fU at h
 have h1:IntKind.i64.min<=(i:Int):=Int.le_trans (by decide) (Int.natCast_nonneg i)
 have h2:(i:Int)<=IntKind.i64.max:=Int.le_trans (b:=1000000000000) (by omega) (by decide)
 show (decide (IntKind.i64.min<=(i:Int))&&decide ((i:Int)<=IntKind.i64.max))=true
 rw [decide_eq_true h1,decide_eq_true h2]
 rfl
theorem zx:(Lit.int .i64 0).wf=true:=by decide
theorem aeb:(Lit.int .i64 1).wf=true:=by decide
theorem aec:(Lit.int .i64 2).wf=true:=by decide
theorem aed:(Lit.int .i64 3).wf=true:=by decide
theorem aee:(Lit.int .i64 4).wf=true:=by decide
theorem aef:(Lit.int .i64 5).wf=true:=by decide
theorem acO:(Lit.int .i64 6).wf=true:=by decide
theorem uD:(⟨#[]⟩:ByteArray).size<=maxLen:=by decide
def kg (s:ByteArray):Ky:=⟨0,s,0,0⟩
def dQ (i:Nat):Ky:=⟨3,⟨#[]⟩,i,0⟩
def dR (i:Nat):Ky:=⟨6,⟨#[]⟩,i,0⟩
theorem Yo {s:ByteArray} (h:s.size<=maxLen):zw (kg s):=⟨zx,h,zx,zx⟩
theorem TU {i:Nat} (h:i<=fU):zw (dQ i):=⟨aed,uD,lT h,zx⟩
theorem TV {i:Nat} (h:i<=fU):zw (dR i):=⟨acO,uD,lT h,zx⟩
def fA (T:List Te) (s:ByteArray):List Te×Nat:=dP T (kg s)
def uo (T:List Te) (i:Nat):List Te×Nat:=
 if i=0\/i=1 then (T,1) else match T[i]? with
  | some x=>if x.1.kd=3 then (T,i) else dP T (dQ i)
  | none=>(T,0)
def vP (T:List Te) (i:Nat):List Te×Nat:=match T[i]? with
 | some x=>if x.1.kd=6 then (T,x.1.fi.toNat) else dP T (dR i)
 | none=>(T,0)
section
variable {w:World} {t:TB} {T:List Te} {N S C:List (Value×Value)}
theorem aX.at (h:aX w t T N S C) {i:Nat} {x:Te} (hi:T[i]? = some x):∃ g,w.cell? ⟨t.tb,22,none⟩=some (.slice (some ⟨g,0,none⟩) T.length t.tc)/\w.cell? ⟨g,i*5,none⟩=some (.int .i64 x.1.kd)/\w.cell? ⟨g,i*5+1,none⟩=some (.string x.1.st)/\w.cell? ⟨g,i*5+2,none⟩=some (.int .i64 x.1.fi)/\w.cell? ⟨g,i*5+3,none⟩=some (.int .i64 x.1.se)/\w.cell? ⟨g,i*5+4,none⟩=some (.bool x.2):=by
 obtain ⟨g,ea,en,c⟩:=h.term hi
 have q:=h.cells.2.1
 rw [ea,en] at q
 exact ⟨g,q,c⟩
set_option maxRecDepth 100000 in
set_option maxHeartbeats 4000000 in
theorem FP {s:ByteArray} (h:Hid (aX w t T (ak T) S C)) (hs:s.size<=maxLen) (hl:(fA T s).1.length<=fU):Calls Tryz.prog 82 #[.pointer (some ⟨t.tb,0,none⟩),.string s] w (FO (fA T s) w t S C):=by
 have HK:=hide (lQ h (Yo hs) (.inl rfl) hl)
 unfold iD kg at HK
 dsimp only at HK
 clear hl h
 go_enter Tryz.func82,Tryz.ntmps82
 go_wp2_with (go_at_call 84;refine (aa HK).mono ?_;clear HK;rintro x w1 ⟨rfl,t1,H1,H2⟩)
 go_ret
 exact ⟨rfl,t1,H1,H2⟩
set_option maxRecDepth 100000 in
set_option maxHeartbeats 4000000 in
theorem Ii {i:Nat} (h:Hid (aX w t T (ak T) S C)) (hi:i<T.length) (hl:(uo T i).1.length<=fU):Calls Tryz.prog 117 #[.pointer (some ⟨t.tb,0,none⟩),.int .i64 i] w (FO (uo T i) w t S C):=by
 by_cases h01:i=0\/i=1
 ·unfold uo
  rw [if_pos h01]
  have HT:=h
  clear hl h
  rcases h01 with rfl | rfl
  all_goals
   go_enter Tryz.func117,Tryz.ntmps117
   go_wp2_with fail
   go_ret
   exact ⟨rfl,t,HT,a_.refl _ _⟩
 ·obtain ⟨x,hx⟩:∃ x,T[i]? = some x:=⟨_,List.getElem?_eq_getElem hi⟩
  have e:uo T i=if x.1.kd=3 then (T,i) else dP T (dQ i):=by unfold uo;rw [if_neg h01,hx]
  rw [e] at hl ⊢
  obtain ⟨g,q2,c0,-⟩:=(aa h).at hx
  have hiI:(i:Int)<(T.length:Int):=by omega
  have hi0:(0:Int)<=(i:Int):=by omega
  have n0:((i:Int)==0)=false:=by simp;omega
  have n1:((i:Int)==1)=false:=by simp;omega
  by_cases h3:x.1.kd=3
  ·rw [if_pos h3]
   rw [h3] at c0
   have HT:=h
   clear hl h
   go_enter Tryz.func117,Tryz.ntmps117
   go_wp2_with fail
   go_ret
   exact ⟨rfl,t,HT,a_.refl _ _⟩
  ·rw [if_neg h3] at hl ⊢
   have hn3:(x.1.kd==3)=false:=by simpa using h3
   have hlen:T.length<=fU:=by
    obtain ⟨X,hX⟩:=oU T (dQ i)
    rw [hX,List.length_append] at hl
    omega
   have HK:=hide (lQ h (TU (by omega)) (.inr (.inr (.inr ⟨.inl rfl,i,hi,rfl⟩))) hl)
   unfold iD dQ at HK
   dsimp only at HK
   clear hl h
   generalize x.1.kd=xk at *
   go_enter Tryz.func117,Tryz.ntmps117
   go_wp2_with (go_at_call 84;refine (aa HK).mono ?_;clear HK;rintro x w1 ⟨rfl,t1,H1,H2⟩)
   go_ret
   exact ⟨rfl,t1,H1,H2⟩
set_option maxRecDepth 100000 in
set_option maxHeartbeats 4000000 in
theorem Ot {i:Nat} (h:Hid (aX w t T (ak T) S C)) (hi:i<T.length) (hp:∀ x,T[i]? = some x->0<=x.1.fi) (hl:(vP T i).1.length<=fU):Calls Tryz.prog 78 #[.pointer (some ⟨t.tb,0,none⟩),.int .i64 i] w (FO (vP T i) w t S C):=by
 obtain ⟨x,hx⟩:∃ x,T[i]? = some x:=⟨_,List.getElem?_eq_getElem hi⟩
 have hfi:=hp x hx
 have e:vP T i=if x.1.kd=6 then (T,x.1.fi.toNat) else dP T (dR i):=by unfold vP;rw [hx]
 rw [e] at hl ⊢
 obtain ⟨g,q2,c0,c1,c2,c3,-⟩:=(aa h).at hx
 have hiI:(i:Int)<(T.length:Int):=by omega
 have hi0:(0:Int)<=(i:Int):=by omega
 by_cases h6:x.1.kd=6
 ·rw [if_pos h6]
  have HF:Hid (((x.1.fi.toNat:Nat):Int)=x.1.fi):=by show _=_;omega
  rw [h6] at c0
  have HT:=h
  clear hl h e hfi hp hx h6
  generalize x.1.st=xs at *
  generalize x.1.se=xe at *
  go_enter Tryz.func78,Tryz.ntmps78
  go_wp2_with fail
  go_ret
  exact ⟨by show Ending.returned (.int .i64 x.1.fi)=.returned (.int .i64 ((x.1.fi.toNat:Nat):Int));rw [aa HF],t,aX.alloc HT _,a_.below ((Below.refl _ _).alloc (Nat.le_refl _) _)⟩
 ·rw [if_neg h6] at hl ⊢
  have hn6:(x.1.kd==6)=false:=by simpa using h6
  have hlen:T.length<=fU:=by
   obtain ⟨X,hX⟩:=oU T (dR i)
   rw [hX,List.length_append] at hl
   omega
  have HK:=hide (lQ (aX.alloc h (.cells #[.int .i64 x.1.kd,.string x.1.st,.int .i64 x.1.fi,.int .i64 x.1.se] 135)) (TV (by omega)) (.inr (.inr (.inr ⟨.inr rfl,i,hi,rfl⟩))) hl)
  unfold iD dR at HK
  dsimp only at HK
  clear hl h e hfi hp hx h6
  generalize x.1.kd=xk at *
  generalize x.1.st=xs at *
  generalize x.1.fi=xf at *
  generalize x.1.se=xe at *
  go_enter Tryz.func78,Tryz.ntmps78
  go_wp2_with (go_at_call 84;refine (aa HK).mono ?_;clear HK;rintro x w1 ⟨rfl,t1,H1,H2⟩)
  go_ret
  exact ⟨rfl,t1,H1,(a_.below ((Below.refl _ _).alloc (Nat.le_refl _) _)).trans (aa H2)⟩
end
end Go.Proofs.YtfolanohokflkaaGreatDoor
namespace Go.Proofs.YtfolanohokflkaaGreatDoor
structure Sy where
 c:Nat
 fr:Nat
 to:Nat
def jm (s:ByteArray):Nat->Nat->List Sy
 | 0,_=>[]
 | f+1,p=>if p<s.size then ⟨(Utf8.decode s p).1,p,p+(Utf8.decode s p).2⟩::jm s f (p+(Utf8.decode s p).2) else []
def ai (s:ByteArray) (p:Nat):List Sy:=jm s (s.size - p) p
theorem eG (s:ByteArray) (i:Nat) (hi:i<s.size):1<=(Utf8.decode s i).2/\i+(Utf8.decode s i).2<=s.size:=by
 unfold Utf8.decode
 simp only [Nat.add_zero,Bool.and_eq_true,beq_iff_eq,decide_eq_true_eq,ge_iff_le]
 repeat' split
 all_goals simp only []
 all_goals omega
theorem Ij (s:ByteArray):∀ (f g p:Nat),s.size - p<=f->s.size - p<=g->jm s f p=jm s g p:=by
 intro f
 induction f with
 | zero=>
  intro g p h1 h2
  cases g with
  | zero=>rfl
  | succ g=>rw [jm,jm,if_neg (by omega)]
 | succ f ih=>
  intro g p h1 h2
  cases g with
  | zero=>rw [jm,jm,if_neg (by omega)]
  | succ g=>
   rw [jm,jm]
   by_cases h:p<s.size
   ·have:=eG s p h
    rw [if_pos h,if_pos h,ih g _ (by omega) (by omega)]
   ·rw [if_neg h,if_neg h]
theorem ib (s:ByteArray) (p:Nat) (h:p<s.size) :
  ai s p=⟨(Utf8.decode s p).1,p,p+(Utf8.decode s p).2⟩::ai s (p+(Utf8.decode s p).2):=by
 have:=eG s p h
 unfold ai
 rw [show s.size - p=(s.size - p - 1)+1 from by omega,jm,if_pos h]
 rw [Ij s (s.size - p - 1) (s.size - (p+(Utf8.decode s p).2)) _ (by omega) (by omega)]
theorem fB (s:ByteArray) (p:Nat) (h:s.size<=p):ai s p=[]:=by
 unfold ai;rw [show s.size - p=0 from by omega];rfl
theorem uE (s:ByteArray):∀ (f p:Nat),(jm s f p).length<=f:=by
 intro f
 induction f with
 | zero=>intro p;exact Nat.le_refl _
 | succ f ih=>
  intro p
  rw [jm]
  split
  ·simpa using ih _
  ·simp
theorem qb (s:ByteArray) (p:Nat):(ai s p).length<=s.size - p:=uE s _ p
abbrev bn (a:Type):=Except (Int×Int) (a×List Sy)
def AL (n:Nat):List Sy->Int
 | []=>n
 | x::_=>x.fr
def hd:List Sy->Int
 | []=>-1
 | x::_=>x.c
def bad {a:Type} (e:Int) (n:Nat) (l:List Sy):bn a:=.error (e,AL n l)
def iH (c:Int):Bool:=decide (48<=c/\c<=57)
def kT (l:List Sy):Int×List Sy:=
 if 0<hd l - 48/\iH (hd l.tail)=true then (10*(hd l - 48)+(hd l.tail - 48),l.tail.tail) else (hd l - 48,l.tail)
def bQ (n:Nat) (least:Int) (l:List Sy):bn Int:=
 if iH (hd l)=true then (if (kT l).1<least\/12<(kT l).1 then bad 3 n (kT l).2 else .ok (kT l)) else bad 2 n l
def ko (m:Int):Int:=if m=0 then 1 else m
def q8 (n:Nat) (m:Int) (l:List Sy):bn Int:=if hd l=125 then .ok (m,l.tail) else bad 2 n l
def sV (n:Nat) (l:List Sy):bn Int:=
 match bQ n 0 l with
 | .error x=>.error x
 | .ok (a,l1)=>
  if hd l1=44 then
   (if hd l1.tail=125 then .ok (a+1,l1.tail.tail)
    else match bQ n a l1.tail with
     | .error x=>.error x
     | .ok (m,l2)=>q8 n (ko m) l2)
  else q8 n (ko a) l1
def mE (c:Int):Bool:=decide (c=42\/c=43\/c=63\/c=123)
def qc (n:Nat) (l:List Sy):bn Int:=if hd l=123 then sV n l.tail else .ok (2,l.tail)
def uF (c:Int):Int:=if 48<=c/\c<=57 then c - 48 else if 97<=c/\c<=102 then c - 87 else -1
def uG:Nat->Int->Nat->List Sy->Int×Nat×List Sy
 | 0,v,k,l=>(v,k,l)
 | f+1,v,k,l=>if 0<=uF (hd l) then uG f (16*v+uF (hd l)) (k+1) l.tail else (v,k,l)
def lL (n:Nat) (x:Int×Nat×List Sy):bn Int:=
 if x.2.1=0\/¬ hd x.2.2=125 then bad 2 n x.2.2 else if aF x.1=true then .ok (x.1,x.2.2.tail) else bad 3 n x.2.2
def oV (n:Nat) (l:List Sy):bn Int:=if hd l=123 then lL n (uG 6 0 0 l.tail) else bad 2 n l
def mZ (c:Int):Bool:=[124,38,126,42,43,63,123,125,91,93,40,41,46,92].contains c
def q9 (c:Int):Bool:=mZ c||[94,45].contains c
def fC (n:Nat) (l:List Sy):bn Int:=
 if hd l=117 then oV n l.tail else if hd l=110 then .ok (10,l.tail) else if q9 (hd l)=true then .ok (hd l,l.tail) else bad 2 n l
def isSet (l:List Sy):Bool:=decide (hd l=92/\(hd l.tail=100\/hd l.tail=119))
def eZ (n:Nat) (l:List Sy):bn Int:=
 if hd l=92 then fC n l.tail else if hd l<0\/hd l=93\/hd l=45 then bad 2 n l else .ok (hd l,l.tail)
def Ik (n:Nat) (l:List Sy):bn Unit:=
 if isSet l=true then .ok ((),l.tail.tail)
 else match eZ n l with
  | .error x=>.error x
  | .ok (a,l1)=>
   if hd l1=45 then (match eZ n l1.tail with
    | .error x=>.error x
    | .ok (b,l2)=>if b<a then bad 3 n l2 else .ok ((),l2))
   else .ok ((),l1)
def jL (n:Nat):Nat->List Sy->bn Unit
 | 0,l=>bad 2 n l
 | f+1,l=>if hd l=93 then .ok ((),l.tail) else match Ik n l with
  | .error x=>.error x
  | .ok (_,l1)=>jL n f l1
def AO (n:Nat) (l:List Sy):bn Unit:=
 if hd l=94 then jL n (l.length+1) l.tail else jL n (l.length+1) l
def AP (n:Nat) (l:List Sy):bn Int:=
 if hd l=91 then (match AO n l.tail with
  | .error x=>.error x
  | .ok (_,l1)=>.ok (1,l1))
 else if hd l=92 then
  (if isSet l=true then .ok (1,l.tail.tail) else match fC n l.tail with
   | .error x=>.error x
   | .ok (_,l1)=>.ok (1,l1))
 else if hd l=46 then .ok (1,l.tail)
 else if hd l<0\/mZ (hd l)=true then bad 2 n l
 else .ok (1,l.tail)
def Ei (n:Nat):Nat->Int->List Sy->bn Int
 | 0,_,l=>bad 2 n l
 | f+1,z,l=>if mE (hd l)=true then (match qc n l with
   | .error x=>.error x
   | .ok (m,l1)=>Ei n f (dA (z*m)) l1)
  else .ok (z,l)
def AQ (n:Nat) (atom:List Sy->bn Int):Nat->List Sy->bn Int
 | 0,l=>bad 2 n l
 | f+1,l=>if hd l=126 then (match AQ n atom f l.tail with
   | .error x=>.error x
   | .ok (z,l1)=>.ok (dA (z+1),l1))
  else match atom l with
   | .error x=>.error x
   | .ok (z,l1)=>Ei n (l1.length+1) z l1
def kC (c:Int):Bool:=decide (c<0\/c=124\/c=38\/c=41)
def lU (n:Nat) (atom:List Sy->bn Int):Nat->Int->List Sy->bn Int
 | 0,_,l=>bad 2 n l
 | f+1,z,l=>if kC (hd l)=true then .ok (z,l) else match AQ n atom (l.length+1) l with
  | .error x=>.error x
  | .ok (y,l1)=>lU n atom f (dA (z+1+y)) l1
def TW (n:Nat) (atom:List Sy->bn Int) (l:List Sy):bn Int:=
 if kC (hd l)=true then .ok (1,l) else match AQ n atom (l.length+1) l with
  | .error x=>.error x
  | .ok (y,l1)=>lU n atom (l1.length+1) y l1
def lV (n:Nat) (sub:List Sy->bn Int) (sign:Int):Nat->Int->List Sy->bn Int
 | 0,_,l=>bad 2 n l
 | f+1,z,l=>if hd l=sign then (match sub l.tail with
   | .error x=>.error x
   | .ok (y,l1)=>lV n sub sign f (dA (z+1+y)) l1)
  else .ok (z,l)
def QT (n:Nat) (sub:List Sy->bn Int) (sign:Int) (l:List Sy):bn Int:=
 match sub l with
 | .error x=>.error x
 | .ok (y,l1)=>lV n sub sign (l1.length+1) y l1
def aaw (n:Nat) (atom:List Sy->bn Int):List Sy->bn Int:=QT n (TW n atom) 38
def zO (n:Nat) (atom:List Sy->bn Int):List Sy->bn Int:=QT n (aaw n atom) 124
def yP (n:Nat):Nat->List Sy->bn Int
 | 0,l=>if hd l=40 then bad 4 n l else AP n l
 | k+1,l=>if hd l=40 then (match zO n (yP n k) l.tail with
   | .error x=>.error x
   | .ok (z,l1)=>if hd l1=41 then .ok (z,l1.tail) else bad 2 n l1)
  else AP n l
def TY (n:Nat):bn Int->Int×Int
 | .error x=>x
 | .ok (z,l)=>if hd l<0 then (if 60<z then (5,0) else (0,0)) else (2,AL n l)
def xG (s:ByteArray):Int×Int:=if 60<s.size then (1,0) else TY s.size (zO s.size (yP s.size 8) (ai s 0))
theorem Il (s:ByteArray) (k:Nat):s.get! k=s.data[k]! := by cases s;rfl
theorem get_extract (s:ByteArray) (p k:Nat):(s.extract p s.size).get! k=s.get! (p+k):=by
 rw [Il,Il,ByteArray.data_extract]
 have hs:s.size=s.data.size:=rfl
 by_cases h:p+k<s.data.size
 ·have h1:k<(s.data.extract p s.size).size:=by simp;omega
  rw [getElem!_pos (s.data.extract p s.size) k h1,getElem!_pos s.data (p+k) h];simp
 ·have h1:¬ k<(s.data.extract p s.size).size:=by simp;omega
  rw [getElem!_neg (s.data.extract p s.size) k h1,getElem!_neg s.data (p+k) h]
theorem decode_extract (s:ByteArray) (p:Nat):Utf8.decode (s.extract p s.size) 0=Utf8.decode s p:=by
 rw [Lib.decode_at,Lib.decode_at]
 simp only [get_extract,Nat.add_zero,Nat.zero_add,Nat.sub_zero]
 have:(s.extract p s.size).size=s.size - p:=by simp
 rw [this]
theorem yQ (s:ByteArray) (p:Nat) (h:p<s.size):Lib.decodeGo (s.extract p s.size)=Utf8.decode s p:=by
 have:(s.extract p s.size).size=s.size - p:=by simp
 rw [Lib.decodeGo,if_neg (by omega),decode_extract]
theorem FQ (s:ByteArray):Lib.decodeGo (s.extract s.size s.size)=(65533,0):=by
 have:(s.extract s.size s.size).size=0:=by simp
 rw [Lib.decodeGo,if_pos this]
end Go.Proofs.YtfolanohokflkaaGreatDoor
