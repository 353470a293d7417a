import Derived.Test.YtfolanohokflkaaGreatDoorTabC
import Derived.WalkKit
import Derived.WalkSpells
import Derived.WalkLawsBesides
import Derived.Lib.DecodeN
import Derived.Shelf.Unicode.DecodeSlow
namespace Go.Proofs.YtfolanohokflkaaGreatDoor
structure Sy where
 c:Nat
 fr:Nat
 to:Nat
def jF (s:ByteArray):Nat->Nat->List Sy
 | 0,_=>[]
 | f+1,p=>if p<s.size then ⟨(Utf8.decode s p).1,p,p+(Utf8.decode s p).2⟩::jF s f (p+(Utf8.decode s p).2) else []
def af (s:ByteArray) (p:Nat):List Sy:=jF s (s.size - p) p
theorem dz (s:ByteArray) (i:Nat) (hi:i<s.size):1<=(Utf8.decode s i).2/\i+(Utf8.decode s i).2<=s.size:=by
 unfold Utf8.decode
 simp only [Nat.add_zero,Bool.and_eq_true,beq_iff_eq,decide_eq_true_eq,ge_iff_le]
 repeat' split
 all_goals simp only []
 all_goals omega
theorem IA (s:ByteArray):∀ (f g p:Nat),s.size - p<=f->s.size - p<=g->jF s f p=jF s g p:=by
 intro f
 induction f with
 | zero=>
  intro g p h1 h2
  cases g with
  | zero=>rfl
  | succ g=>rw [jF,jF,if_neg (by omega)]
 | succ f ih=>
  intro g p h1 h2
  cases g with
  | zero=>rw [jF,jF,if_neg (by omega)]
  | succ g=>
   rw [jF,jF]
   by_cases h:p<s.size
   ·have:=dz s p h
    rw [if_pos h,if_pos h,ih g _ (by omega) (by omega)]
   ·rw [if_neg h,if_neg h]
theorem dn (s:ByteArray) (p:Nat) (h:p<s.size) :
  af s p=⟨(Utf8.decode s p).1,p,p+(Utf8.decode s p).2⟩::af s (p+(Utf8.decode s p).2):=by
 have:=dz s p h
 unfold af
 rw [show s.size - p=(s.size - p - 1)+1 from by omega,jF,if_pos h]
 rw [IA s (s.size - p - 1) (s.size - (p+(Utf8.decode s p).2)) _ (by omega) (by omega)]
theorem dA (s:ByteArray) (p:Nat) (h:s.size<=p):af s p=[]:=by
 unfold af;rw [show s.size - p=0 from by omega];rfl
theorem uN (s:ByteArray):∀ (f p:Nat),(jF s f p).length<=f:=by
 intro f
 induction f with
 | zero=>intro p;exact Nat.le_refl _
 | succ f ih=>
  intro p
  rw [jF]
  split
  ·simpa using ih _
  ·simp
theorem qo (s:ByteArray) (p:Nat):(af s p).length<=s.size - p:=uN s _ p
end Go.Proofs.YtfolanohokflkaaGreatDoor
namespace Go.Proofs.YtfolanohokflkaaGreatDoor
open Go.RowKit
theorem bM (wr:World) (cs:List Value) (t:TypeId):∀ (j:Nat) (u:Value),cs[j]? = some u->(wr.alloc (.cells cs.toArray t)).cell? ((⟨wr.heap.size,0,none⟩:Addr).add j)=some u:=by
 intro j u hj
 rw [Addr.add_lit,World.cell?_alloc_at _ _ _ _ rfl]
 simpa using hj
theorem ji {B:Nat} {w wr w1:World} {o:Obj} {e size n:Nat} {v:Value} {xs:List Value} (hb:Below B w wr) (ho:wr.ownsRow B e size v n xs) (hg:(wr.alloc o).grownBy w1 v.ownBlock) (hB:B<=wr.heap.size):Below B w w1:=
 (hb.alloc hB o).grown hg (by simp;omega) (fun k hk=>(ho.lt k hk).1)
end Go.Proofs.YtfolanohokflkaaGreatDoor
namespace Go.Proofs.YtfolanohokflkaaGreatDoor
open Go.RowKit
def ints (zs:List Int):List Value:=zs.map (Value.int .i64)
theorem En (zs:List Int) (z:Int):ints (zs++[z])=ints zs++[.int .i64 z]:=by simp [ints]
theorem gZ:(Tryz.prog.info? 3).map (fun i=>(i.zero,i.size,i.bytes))=some (some (.int .i64 0),1,8):=by kernel_rfl
theorem aaX (z:Value) (h:z.oneCell'=true):∀ u∈[z],u.oneCell'=true:=by intro u hu;simp at hu;subst hu;exact h
theorem OH {ops:Array Oper} {rest:List Oper} {o:Oper} {a:Act} {Q:Exit->Act->World->Prop} (w wr:World) (zs:List Int) (v:Value) (z:Int) (s x:Operand) (hg:o.guard=none)
  (hop:o.op=.call { callee:=.builtin .append,args:=#[s,x],argTypes:=#[31,31] }) (hs:a.eval s=v) (hx:a.eval x=.slice (some ⟨wr.heap.size,0,none⟩) 1 1)
  (ho:Hid (wr.ownsRow w.heap.size 3 1 v zs.length (ints zs))) (hb:Hid (Below w.heap.size w wr)) (hl:zs.length<=2000000)
  (K:∀ v' w',Hid (w'.ownsRow w.heap.size 3 1 v' (zs++[z]).length (ints (zs++[z])))->Hid (Below w.heap.size w w')->wpList Tryz.prog ops Q rest (a.put o.dst v') w') :
  wpList Tryz.prog ops Q (o::rest) a (wr.alloc (.cells #[.int .i64 z] 3)):=by
 obtain ⟨i0,hi,hz0,hz1,hz2⟩:=info_parts gZ
 have hb':Below w.heap.size w wr:=hb
 have:=hb'.size
 refine wpList_append_own _ hg s x 31 hop w.heap.size 3 i0 (.int .i64 0) 1 8 Tryz.underlying31 hi hz0 hz1 hz2 rfl (by decide) _ _ _ hs ((aa ho).alloc _) ⟨wr.heap.size,0,none⟩ 1 1 [.int .i64 z] hx rfl (bM wr [.int .i64 z] _) (aaX _ rfl) (by unfold maxLen;omega) (by omega) (by simp;omega) ?_
 intro v' w' h1 h2 _
 refine K v' w' ?_ (ji hb ho h2 hb'.size)
 show w'.ownsRow _ _ _ _ _ _
 rw [En,List.length_append];exact h1
end Go.Proofs.YtfolanohokflkaaGreatDoor
namespace Go.Proofs.YtfolanohokflkaaGreatDoor
abbrev bn (a:Type):=Except (Int×Int) (a×List Sy)
def AJ (n:Nat):List Sy->Int
 | []=>n
 | x::_=>x.fr
def hd:List Sy->Int
 | []=>-1
 | x::_=>x.c
def bad {a:Type} (e:Int) (n:Nat) (l:List Sy):bn a:=.error (e,AJ n l)
def fP (c:Int):Bool:=decide (48<=c/\c<=57)
def iR (l:List Sy):Int×List Sy:=
 if 0<hd l - 48/\fP (hd l.tail)=true then (10*(hd l - 48)+(hd l.tail - 48),l.tail.tail) else (hd l - 48,l.tail)
def bP (n:Nat) (least:Int) (l:List Sy):bn Int:=
 if fP (hd l)=true then (if (iR l).1<least\/12<(iR l).1 then bad 3 n (iR l).2 else .ok (iR l)) else bad 2 n l
def kE (m:Int):Int:=if m=0 then 1 else m
def rE (n:Nat) (m:Int) (l:List Sy):bn Int:=if hd l=125 then .ok (m,l.tail) else bad 2 n l
def tK (n:Nat) (l:List Sy):bn Int:=
 match bP n 0 l with
 | .error x=>.error x
 | .ok (a,l1)=>
  if hd l1=44 then
   (if hd l1.tail=125 then .ok (a+1,l1.tail.tail)
    else match bP n a l1.tail with
     | .error x=>.error x
     | .ok (m,l2)=>rE n (kE m) l2)
  else rE n (kE a) l1
def kH (c:Int):Bool:=decide (c=42\/c=43\/c=63\/c=123)
def qp (n:Nat) (l:List Sy):bn Int:=if hd l=123 then tK n l.tail else .ok (2,l.tail)
def uO (c:Int):Int:=if 48<=c/\c<=57 then c - 48 else if 97<=c/\c<=102 then c - 87 else -1
def mQ:Nat->Int->Nat->List Sy->Int×Nat×List Sy
 | 0,v,k,l=>(v,k,l)
 | f+1,v,k,l=>if 0<=uO (hd l) then mQ f (16*v+uO (hd l)) (k+1) l.tail else (v,k,l)
def kI (n:Nat) (x:Int×Nat×List Sy):bn Int:=
 if x.2.1=0\/¬ hd x.2.2=125 then bad 2 n x.2.2 else if aD x.1=true then .ok (x.1,x.2.2.tail) else bad 3 n x.2.2
def mM (n:Nat) (l:List Sy):bn Int:=if hd l=123 then kI n (mQ 6 0 0 l.tail) else bad 2 n l
def mG (c:Int):Bool:=[124,38,126,42,43,63,123,125,91,93,40,41,46,92].contains c
def qR (c:Int):Bool:=mG c||[94,45].contains c
def dJ (n:Nat) (l:List Sy):bn Int:=
 if hd l=117 then mM n l.tail else if hd l=110 then .ok (10,l.tail) else if qR (hd l)=true then .ok (hd l,l.tail) else bad 2 n l
def isSet (l:List Sy):Bool:=decide (hd l=92/\(hd l.tail=100\/hd l.tail=119))
def fe (n:Nat) (l:List Sy):bn Int:=
 if hd l=92 then dJ n l.tail else if hd l<0\/hd l=93\/hd l=45 then bad 2 n l else .ok (hd l,l.tail)
def IB (n:Nat) (l:List Sy):bn Unit:=
 if isSet l=true then .ok ((),l.tail.tail)
 else match fe n l with
  | .error x=>.error x
  | .ok (a,l1)=>
   if hd l1=45 then (match fe n l1.tail with
    | .error x=>.error x
    | .ok (b,l2)=>if b<a then bad 3 n l2 else .ok ((),l2))
   else .ok ((),l1)
def jY (n:Nat):Nat->List Sy->bn Unit
 | 0,l=>bad 2 n l
 | f+1,l=>if hd l=93 then .ok ((),l.tail) else match IB n l with
  | .error x=>.error x
  | .ok (_,l1)=>jY n f l1
def AL (n:Nat) (l:List Sy):bn Unit:=
 if hd l=94 then jY n (l.length+1) l.tail else jY n (l.length+1) l
def AO (n:Nat) (l:List Sy):bn Int:=
 if hd l=91 then (match AL n l.tail with
  | .error x=>.error x
  | .ok (_,l1)=>.ok (1,l1))
 else if hd l=92 then
  (if isSet l=true then .ok (1,l.tail.tail) else match dJ n l.tail with
   | .error x=>.error x
   | .ok (_,l1)=>.ok (1,l1))
 else if hd l=46 then .ok (1,l.tail)
 else if hd l<0\/mG (hd l)=true then bad 2 n l
 else .ok (1,l.tail)
def Eo (n:Nat):Nat->Int->List Sy->bn Int
 | 0,_,l=>bad 2 n l
 | f+1,z,l=>if kH (hd l)=true then (match qp n l with
   | .error x=>.error x
   | .ok (m,l1)=>Eo n f (dG (z*m)) l1)
  else .ok (z,l)
def AP (n:Nat) (atom:List Sy->bn Int):Nat->List Sy->bn Int
 | 0,l=>bad 2 n l
 | f+1,l=>if hd l=126 then (match AP n atom f l.tail with
   | .error x=>.error x
   | .ok (z,l1)=>.ok (dG (z+1),l1))
  else match atom l with
   | .error x=>.error x
   | .ok (z,l1)=>Eo n (l1.length+1) z l1
def iE (c:Int):Bool:=decide (c<0\/c=124\/c=38\/c=41)
def lY (n:Nat) (atom:List Sy->bn Int):Nat->Int->List Sy->bn Int
 | 0,_,l=>bad 2 n l
 | f+1,z,l=>if iE (hd l)=true then .ok (z,l) else match AP n atom (l.length+1) l with
  | .error x=>.error x
  | .ok (y,l1)=>lY n atom f (dG (z+1+y)) l1
def Us (n:Nat) (atom:List Sy->bn Int) (l:List Sy):bn Int:=
 if iE (hd l)=true then .ok (1,l) else match AP n atom (l.length+1) l with
  | .error x=>.error x
  | .ok (y,l1)=>lY n atom (l1.length+1) y l1
def lZ (n:Nat) (sub:List Sy->bn Int) (sign:Int):Nat->Int->List Sy->bn Int
 | 0,_,l=>bad 2 n l
 | f+1,z,l=>if hd l=sign then (match sub l.tail with
   | .error x=>.error x
   | .ok (y,l1)=>lZ n sub sign f (dG (z+1+y)) l1)
  else .ok (z,l)
def Rj (n:Nat) (sub:List Sy->bn Int) (sign:Int) (l:List Sy):bn Int:=
 match sub l with
 | .error x=>.error x
 | .ok (y,l1)=>lZ n sub sign (l1.length+1) y l1
def aaY (n:Nat) (atom:List Sy->bn Int):List Sy->bn Int:=Rj n (Us n atom) 38
def zQ (n:Nat) (atom:List Sy->bn Int):List Sy->bn Int:=Rj n (aaY n atom) 124
def yS (n:Nat):Nat->List Sy->bn Int
 | 0,l=>if hd l=40 then bad 4 n l else AO n l
 | k+1,l=>if hd l=40 then (match zQ n (yS n k) l.tail with
   | .error x=>.error x
   | .ok (z,l1)=>if hd l1=41 then .ok (z,l1.tail) else bad 2 n l1)
  else AO n l
def Ut (n:Nat):bn Int->Int×Int
 | .error x=>x
 | .ok (z,l)=>if hd l<0 then (if 60<z then (5,0) else (0,0)) else (2,AJ n l)
def xM (s:ByteArray):Int×Int:=if 60<s.size then (1,0) else Ut s.size (zQ s.size (yS s.size 8) (af s 0))
end Go.Proofs.YtfolanohokflkaaGreatDoor
namespace Go.Proofs.YtfolanohokflkaaGreatDoor
theorem IC (s:ByteArray) (k:Nat):s.get! k=s.data[k]! := by cases s;rfl
theorem get_extract (s:ByteArray) (p k:Nat):(s.extract p s.size).get! k=s.get! (p+k):=by
 rw [IC,IC,ByteArray.data_extract]
 have hs:s.size=s.data.size:=rfl
 by_cases h:p+k<s.data.size
 ·have h1:k<(s.data.extract p s.size).size:=by simp;omega
  rw [getElem!_pos (s.data.extract p s.size) k h1,getElem!_pos s.data (p+k) h];simp
 ·have h1:¬ k<(s.data.extract p s.size).size:=by simp;omega
  rw [getElem!_neg (s.data.extract p s.size) k h1,getElem!_neg s.data (p+k) h]
theorem decode_extract (s:ByteArray) (p:Nat):Utf8.decode (s.extract p s.size) 0=Utf8.decode s p:=by
 rw [Lib.decode_at,Lib.decode_at]
 simp only [get_extract,Nat.add_zero,Nat.zero_add,Nat.sub_zero]
 have:(s.extract p s.size).size=s.size - p:=by simp
 rw [this]
theorem yT (s:ByteArray) (p:Nat) (h:p<s.size):Lib.decodeGo (s.extract p s.size)=Utf8.decode s p:=by
 have:(s.extract p s.size).size=s.size - p:=by simp
 rw [Lib.decodeGo,if_neg (by omega),decode_extract]
theorem FZ (s:ByteArray):Lib.decodeGo (s.extract s.size s.size)=(65533,0):=by
 have:(s.extract s.size s.size).size=0:=by simp
 rw [Lib.decodeGo,if_pos this]
end Go.Proofs.YtfolanohokflkaaGreatDoor
