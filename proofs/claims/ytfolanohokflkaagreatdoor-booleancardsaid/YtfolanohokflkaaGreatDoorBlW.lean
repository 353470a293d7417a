import Derived.Test.YtfolanohokflkaaGreatDoorProC
import Derived.WalkKit
import Derived.WalkSpells
import Derived.WalkLawsBesides
import Derived.WalkMore
import Derived.Deep.QuietTactic
import Derived.BigQuiet
namespace Go.Proofs.YtfolanohokflkaaGreatDoor
open Go.RowKit
def CF (s:ByteArray) (n:Nat):ByteArray:=if n<s.size then s.extract 0 n else s
theorem VJ (s:ByteArray) (n:Nat):(CF s n).size<=n:=by
 unfold CF
 split
 ·simp [ByteArray.size_extract];omega
 ·omega
set_option maxRecDepth 100000 in
set_option maxHeartbeats 4000000 in
theorem YB {w:World} {s:ByteArray} {n:Nat} (hn:n<=60) :
  Calls Tryz.prog 18 #[.string s,.int .i64 (n:Int)] w fun x w'=>x=.returned (.string (CF s n))/\w'=w:=by
 unfold CF
 by_cases h:n<s.size
 ·rw [if_pos h]
  have h':(n:Int)<(s.size:Int):=by omega
  go_enter Tryz.func18,Tryz.ntmps18
  go_wp2_with fail
  go_ret
  exact ⟨by simp,rfl⟩
 ·rw [if_neg h]
  have h':¬ (n:Int)<(s.size:Int):=by omega
  go_enter Tryz.func18,Tryz.ntmps18
  go_wp2_with fail
  go_ret
  exact ⟨rfl,rfl⟩
def Zh (a:Int):Prop:=a=-1\/a=0\/a=1
def xS (a b c:Int) (o:Bool):Bool:=if a<0\/b<0\/c<0 then true else if o=true then ((c==1)==(a==1||b==1)) else ((c==1)==(a==1&&b==1))
set_option maxRecDepth 100000 in
set_option maxHeartbeats 40000000 in
theorem Rh {w:World} {a b c:Int} (ha:Zh a) (hb:Zh b) (hc:Zh c) :
  Calls Tryz.prog 20 #[.int .i64 a,.int .i64 b,.int .i64 c,.int .i64 0] w fun x w'=>x=.returned (.bool (xS a b c false))/\w'=w:=by
 rcases ha with rfl | rfl | rfl<;>rcases hb with rfl | rfl | rfl<;>rcases hc with rfl | rfl | rfl <;>
 ·go_enter Tryz.func20,Tryz.ntmps20
  go_wp2_with fail
  go_ret
  exact ⟨rfl,rfl⟩
set_option maxRecDepth 100000 in
set_option maxHeartbeats 40000000 in
theorem VK {w:World} {a b c:Int} (ha:Zh a) (hb:Zh b) (hc:Zh c) :
  Calls Tryz.prog 20 #[.int .i64 a,.int .i64 b,.int .i64 c,.int .i64 1] w fun x w'=>x=.returned (.bool (xS a b c true))/\w'=w:=by
 rcases ha with rfl | rfl | rfl<;>rcases hb with rfl | rfl | rfl<;>rcases hc with rfl | rfl | rfl <;>
 ·go_enter Tryz.func20,Tryz.ntmps20
  go_wp2_with fail
  go_ret
  exact ⟨rfl,rfl⟩
end Go.Proofs.YtfolanohokflkaaGreatDoor
namespace Go.Proofs.YtfolanohokflkaaGreatDoor
open Go.RowKit
theorem gJ {w w':World} (h:Hid (Lib.Utf8Tabs 4 5 w)) (hb:Hid (Below w.heap.size w w')):Hid (Lib.Utf8Tabs 4 5 w'):=by
 have hlt:=lv (aa h)
 exact iG (aa h) ((aa hb).block 4 (by omega)) ((aa hb).block 5 (by omega))
theorem jb {w w1 w2:World} (h:Hid (Below w.heap.size w w1)) (k:Hid (Below w1.heap.size w1 w2)):Hid (Below w.heap.size w w2):=
 ⟨(aa k).os.trans (aa h).os,(aa k).tape.trans (aa h).tape,(aa k).output.trans (aa h).output,Nat.le_trans (aa h).size (aa k).size,fun i hi=>((aa k).block i (Nat.lt_of_lt_of_le hi (aa h).size)).trans ((aa h).block i hi)⟩
set_option maxRecDepth 100000 in
set_option maxHeartbeats 40000000 in
theorem Gg {w:World} {p q t:ByteArray} {a b:Bool} (ht:Hid (Lib.Utf8Tabs 4 5 w))
  (HA:Hid (Calls Tryz.prog 16 #[] w fun x w'=>x=.returned (.bool true)/\Hid (Below w.heap.size w w')))
  (HR1:Hid (∀ W:World,Hid (Lib.Utf8Tabs 4 5 W)->Calls Tryz.prog 17 #[.string p] W fun x w'=>x=.returned (.bool a)/\Hid (Below W.heap.size W w')))
  (HR2:Hid (∀ W:World,Hid (Lib.Utf8Tabs 4 5 W)->Calls Tryz.prog 17 #[.string q] W fun x w'=>x=.returned (.bool b)/\Hid (Below W.heap.size W w'))) (h:a=false\/b=false) :
  Calls Tryz.prog 6 #[.string p,.string q,.string t] w fun e w'=>e=.returned (.bool true)/\Hid (Below w.heap.size w w'):=by
 cases a
 ·clear h
  go_enter Tryz.func6,Tryz.ntmps6
  go_wp2_with (first
   | (have HA':=HA;clear HA;go_at_call 16;refine (aa HA').mono ?_;clear HA';rintro x w1 ⟨rfl,B1⟩)
   | (have H1':=HR1;clear HR1;go_at_call 17;refine (aa H1' w1 (gJ ht B1)).mono ?_;clear H1';rintro x w2 ⟨rfl,hb2⟩;have B2:=jb B1 hb2;clear hb2)
   | (have H2':=HR2;clear HR2;go_at_call 17;refine (aa H2' w2 (gJ ht B2)).mono ?_;clear H2';rintro x w3 ⟨rfl,hb3⟩;have B3:=jb B2 hb3;clear hb3))
  go_ret
  exact ⟨rfl,B3⟩
 ·have hb:b=false:=by rcases h with h | h;cases h;exact h
  subst hb
  clear h
  go_enter Tryz.func6,Tryz.ntmps6
  go_wp2_with (first
   | (have HA':=HA;clear HA;go_at_call 16;refine (aa HA').mono ?_;clear HA';rintro x w1 ⟨rfl,B1⟩)
   | (have H1':=HR1;clear HR1;go_at_call 17;refine (aa H1' w1 (gJ ht B1)).mono ?_;clear H1';rintro x w2 ⟨rfl,hb2⟩;have B2:=jb B1 hb2;clear hb2)
   | (have H2':=HR2;clear HR2;go_at_call 17;refine (aa H2' w2 (gJ ht B2)).mono ?_;clear H2';rintro x w3 ⟨rfl,hb3⟩;have B3:=jb B2 hb3;clear hb3))
  go_ret
  exact ⟨rfl,B3⟩
set_option maxRecDepth 100000 in
set_option maxHeartbeats 40000000 in
theorem Gh {w:World} {p q t u:ByteArray} {a b c d n:Int} (ht:Hid (Lib.Utf8Tabs 4 5 w)) (hp:p.size<=60) (hq:q.size<=60)
  (HA:Hid (Calls Tryz.prog 16 #[] w fun x w'=>x=.returned (.bool true)/\Hid (Below w.heap.size w w')))
  (HR1:Hid (∀ W:World,Hid (Lib.Utf8Tabs 4 5 W)->Calls Tryz.prog 17 #[.string p] W fun x w'=>x=.returned (.bool true)/\Hid (Below W.heap.size W w')))
  (HR2:Hid (∀ W:World,Hid (Lib.Utf8Tabs 4 5 W)->Calls Tryz.prog 17 #[.string q] W fun x w'=>x=.returned (.bool true)/\Hid (Below W.heap.size W w')))
  (HC:Hid (∀ W:World,Calls Tryz.prog 18 #[.string t,.int .i64 60] W fun x w'=>x=.returned (.string u)/\w'=W))
  (HI1:Hid (∀ W:World,Hid (Lib.Utf8Tabs 4 5 W)->Calls Tryz.prog 19 #[.string p,.string u] W fun x w'=>x=.returned (.int .i64 a)/\Hid (Below W.heap.size W w')))
  (HI2:Hid (∀ W:World,Hid (Lib.Utf8Tabs 4 5 W)->Calls Tryz.prog 19 #[.string q,.string u] W fun x w'=>x=.returned (.int .i64 b)/\Hid (Below W.heap.size W w')))
  (HI3:Hid (∀ W:World,Hid (Lib.Utf8Tabs 4 5 W)->Calls Tryz.prog 19 #[.string (((⟨#[40]⟩++p)++⟨#[41,38,40]⟩)++q++⟨#[41]⟩),.string u] W fun x w'=>x=.returned (.int .i64 c)/\Hid (Below W.heap.size W w')))
  (HI4:Hid (∀ W:World,Hid (Lib.Utf8Tabs 4 5 W)->Calls Tryz.prog 19 #[.string (((⟨#[40]⟩++p)++⟨#[41,124,40]⟩)++q++⟨#[41]⟩),.string u] W fun x w'=>x=.returned (.int .i64 d)/\Hid (Below W.heap.size W w')))
  (HI5:Hid (∀ W:World,Hid (Lib.Utf8Tabs 4 5 W)->Calls Tryz.prog 19 #[.string ((⟨#[126,40]⟩++p)++⟨#[41]⟩),.string u] W fun x w'=>x=.returned (.int .i64 n)/\Hid (Below W.heap.size W w')))
  (HH1:Hid (∀ W:World,Calls Tryz.prog 20 #[.int .i64 a,.int .i64 b,.int .i64 c,.int .i64 0] W fun x w'=>x=.returned (.bool true)/\w'=W))
  (HH2:Hid (∀ W:World,Calls Tryz.prog 20 #[.int .i64 a,.int .i64 b,.int .i64 d,.int .i64 1] W fun x w'=>x=.returned (.bool true)/\w'=W))
  (hn:(a=0/\(n=-1\/n=1))\/(a=1/\(n=-1\/n=0))) :
  Calls Tryz.prog 6 #[.string p,.string q,.string t] w fun e w'=>e=.returned (.bool true)/\Hid (Below w.heap.size w w'):=by
 rcases hn with ⟨rfl,rfl | rfl⟩ | ⟨rfl,rfl | rfl⟩ <;>
 ·go_enter Tryz.func6,Tryz.ntmps6
  go_wp2_with (first
   | (have HA':=HA;clear HA;go_at_call 16;refine (aa HA').mono ?_;clear HA';rintro x w1 ⟨rfl,B1⟩)
   | (have H1':=HR1;clear HR1;go_at_call 17;refine (aa H1' w1 (gJ ht B1)).mono ?_;clear H1';rintro x w2 ⟨rfl,hb2⟩;have B2:=jb B1 hb2;clear hb2)
   | (have H2':=HR2;clear HR2;go_at_call 17;refine (aa H2' w2 (gJ ht B2)).mono ?_;clear H2';rintro x w3 ⟨rfl,hb3⟩;have B3:=jb B2 hb3;clear hb3)
   | (go_at_call 18;refine (aa HC w3).mono ?_;clear HC;rintro x w4 ⟨rfl,rfl⟩)
   | (have H':=HI1;clear HI1;go_at_call 19;refine (aa H' _ (gJ ht B3)).mono ?_;clear H';rintro x w5 ⟨rfl,hb⟩;have B5:=jb B3 hb;clear hb)
   | (have H':=HI2;clear HI2;go_at_call 19;refine (aa H' _ (gJ ht B5)).mono ?_;clear H';rintro x w6 ⟨rfl,hb⟩;have B6:=jb B5 hb;clear hb)
   | (have H':=HI3;clear HI3;go_at_call 19;refine (aa H' _ (gJ ht B6)).mono ?_;clear H';rintro x w7 ⟨rfl,hb⟩;have B7:=jb B6 hb;clear hb)
   | (have H':=HI4;clear HI4;go_at_call 19;refine (aa H' _ (gJ ht B7)).mono ?_;clear H';rintro x w8 ⟨rfl,hb⟩;have B8:=jb B7 hb;clear hb)
   | (have H':=HI5;clear HI5;go_at_call 19;refine (aa H' _ (gJ ht B8)).mono ?_;clear H';rintro x w9 ⟨rfl,hb⟩;have B9:=jb B8 hb;clear hb)
   | (have H':=HH1;clear HH1;go_at_call 20;refine (aa H' _).mono ?_;clear H';rintro x wa ⟨rfl,rfl⟩)
   | (have H':=HH2;clear HH2;go_at_call 20;refine (aa H' _).mono ?_;clear H';rintro x wb ⟨rfl,rfl⟩))
  go_ret
  exact ⟨rfl,B9⟩
end Go.Proofs.YtfolanohokflkaaGreatDoor
