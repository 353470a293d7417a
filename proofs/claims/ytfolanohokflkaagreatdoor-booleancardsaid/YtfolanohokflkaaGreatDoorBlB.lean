import Derived.Test.YtfolanohokflkaaGreatDoorBgC
import Derived.Test.YtfolanohokflkaaGreatDoorPrF
namespace Go.Proofs.YtfolanohokflkaaGreatDoor
open Go.RowKit
set_option maxRecDepth 100000 in
set_option maxHeartbeats 4000000 in
theorem Df {w:World} {s u:ByteArray} {B e:Int} (hu:u.size<=60) (Va:Hid (Calls Tryz.prog 55 #[.string s,.int .i64 B] (w.alloc (aD nd0)) fun x w'=>x=.returned (.tuple #[gN nd0,.int .i64 e])/\Hid (Below (w.alloc (aD nd0)).heap.size (w.alloc (aD nd0)) w'))) :
  Calls Tryz.prog 38 #[.string s,.string u,.int .i64 B] w fun x w'=>x=.returned (.tuple #[gN nd0,.int .i64 e])/\Hid (Below w.heap.size w w'):=by
 have hat:=ax.new w nd0
 have HAT:=hide hat
 have hsz:w.heap.size<(w.alloc (aD nd0)).heap.size:=by simp
 have HA:Hid (Below w.heap.size w (w.alloc (aD nd0))):=(Below.refl _ _).alloc (Nat.le_refl _) _
 have d1:decide ((60:Int)<(u.size:Int))=false:=by simp;omega
 clear hat
 go_enter Tryz.func38,Tryz.ntmps38
 go_wp2_with (go_at_call 55;refine (aa Va).mono ?_;clear Va;rintro x w2 ⟨hx,HB2⟩;rw [gN] at hx;subst hx;have rT:Hid (ax w2 w.heap.size nd0):=((aa HB2).block _ hsz).trans (aa HAT);have hs2:=(aa HB2).size;obtain ⟨c0,c1,c2,c3,c4,c5,c6⟩:=ax.cells (aa rT);have cf:=ax.fz (aa rT))
 have HB3:Hid (Below w.heap.size w w2):=(aa HA).trans ((aa HB2).mono (by omega))
 clear c0 c1 c2 c3 c4 c5 c6 cf
 show bodyPost _ _ _ _ _ (bJ w2 w.heap.size nd0)
 refine tJ (n:=nd0) rfl rfl rfl (hide (ax.set (aa rT))) ⟨rfl,?_⟩
 have b:=aa HB3
 exact Below.setCell (Below.setCell (Below.setCell (Below.setCell (Below.setCell (Below.setCell (Below.setCell b (Nat.le_refl _) _) (Nat.le_refl _) _) (Nat.le_refl _) _) (Nat.le_refl _) _) (Nat.le_refl _) _) (Nat.le_refl _) _) (Nat.le_refl _) _
set_option maxRecDepth 100000 in
set_option maxHeartbeats 4000000 in
theorem Re {w:World} {p u:ByteArray} {B e:Int} (he:e≠0) (HBT:Hid (Calls Tryz.prog 38 #[.string p,.string u,.int .i64 B] ((w.alloc (.cells #[.string u] 9)).alloc (.cells #[.int .i64 B] 3)) fun x w'=>x=.returned (.tuple #[gN nd0,.int .i64 e])/\Hid (Below ((w.alloc (.cells #[.string u] 9)).alloc (.cells #[.int .i64 B] 3)).heap.size ((w.alloc (.cells #[.string u] 9)).alloc (.cells #[.int .i64 B] 3)) w'))) :
  Calls Tryz.prog 37 #[.string p,.string u,.int .i64 B] w fun x w'=>x=.returned (.tuple #[.bool false,.int .i64 e])/\Hid (Below w.heap.size w w'):=by
 have s1:(w.alloc (.cells #[.string u] 9)).heap.size=w.heap.size+1:=by simp
 have Zg:Hid (Below w.heap.size w ((w.alloc (.cells #[.string u] 9)).alloc (.cells #[.int .i64 B] 3))):=((Below.refl _ _).alloc (Nat.le_refl _) _).alloc (by rw [s1];omega) _
 have he':(e==0)=false:=by simpa using he
 clear s1
 go_enter Tryz.func37,Tryz.ntmps37
 go_wp2_with (go_at_call 38;refine (aa HBT).mono ?_;clear HBT;rintro x w2 ⟨hx,HB2⟩;rw [gN] at hx;subst hx)
 go_ret2
 have b:=(aa Zg).trans ((aa HB2).mono (aa Zg).size)
 exact ⟨rfl,b.alloc b.size _⟩
theorem CB {w:World} {p u:ByteArray} {e:Int} (he:e≠0) (hu:u.size<=60) (hr:∀ W:World,Hid (Lib.Utf8Tabs 4 5 W)->Calls Tryz.prog 65 #[.string p] W fun x w'=>∃ m q,x=.returned (.tuple #[gN m,.agg #[.int .i64 e,.int .i64 q]])/\Hid (Below W.heap.size W w')) (ht:Hid (Lib.Utf8Tabs 4 5 w)) :
  Calls Tryz.prog 37 #[.string p,.string u,.int .i64 200] w fun x w'=>x=.returned (.tuple #[.bool false,.int .i64 e])/\Hid (Below w.heap.size w w'):=by
 have tb:∀ {W:World} (o:Obj),Hid (Lib.Utf8Tabs 4 5 W)->Hid (Lib.Utf8Tabs 4 5 (W.alloc o)):=fun {W} o h=>by
  have hlt:=lv (aa h)
  exact iG (aa h) (Below.heap_alloc W _ 4 (by omega)) (Below.heap_alloc W _ 5 (by omega))
 exact Re he (hide (Df hu (hide (Q7 he (hide (hr _ (tb _ (tb _ (tb _ (tb _ ht))))))))))
def rV (p u:ByteArray):Bool×Int:=match bn p with
 | .error x=>(false,x.1)
 | .ok P=>(lZ P (sM u),0)
theorem Rf {w:World} {p u:ByteArray} (hu:u.size<=60) (ht:Hid (Lib.Utf8Tabs 4 5 w)) :
  Calls Tryz.prog 37 #[.string p,.string u,.int .i64 200] w fun x w'=>x=.returned (.tuple #[.bool (rV p u).1,.int .i64 (rV p u).2])/\Hid (Below w.heap.size w w'):=by
 unfold rV
 by_cases hl:60<p.size
 ·have e:bn p=.error (1,0):=by rw [bn,if_pos hl]
  rw [e]
  exact CB (e:=1) (by decide) hu (fun W hW=>(Er (w:=W) (by omega)).mono fun x w' h=>⟨nd0,0,h.1,h.2⟩) ht
 ·have e:=yC p hl
  cases hR:lX p with
  | error y=>
   rw [hR] at e
   have hn:=Gf e
   rw [e]
   exact CB hn hu (fun W hW=>(yE (w:=W) (by omega) hW (hide hR)).mono fun x w' ⟨m,a,b⟩=>⟨m,y.2,a,b⟩) ht
  | ok z=>
   rw [hR] at e
   dsimp only at e
   by_cases hz:60<z.2
   ·rw [if_pos hz] at e
    rw [e]
    refine CB (e:=5) (by decide) hu (fun W hW=>?_) ht
    have h:=uM (w:=W) (by omega) hW (hide hR)
    rw [if_pos hz] at h
    exact h.mono fun x w' ⟨m,a,b,_⟩=>⟨m,0,a,b⟩
   ·rw [if_neg hz] at e
    rw [e]
    have hB:=F4 u
    exact MJ e (by omega) hu ht (hide hR) hz (by omega) (by omega)
end Go.Proofs.YtfolanohokflkaaGreatDoor
namespace Go.Proofs.YtfolanohokflkaaGreatDoor
open Go.RowKit
def CE (p u:ByteArray):Int:=if (rV p u).2=0 then (if (rV p u).1=true then 1 else 0) else -1
set_option maxRecDepth 100000 in
set_option maxHeartbeats 4000000 in
theorem rW {w:World} {p u:ByteArray} (hu:u.size<=60) (ht:Hid (Lib.Utf8Tabs 4 5 w)) :
  Calls Tryz.prog 19 #[.string p,.string u] w fun x w'=>x=.returned (.int .i64 (CE p u))/\Hid (Below w.heap.size w w'):=by
 have HM:=hide (Rf (p:=p) hu ht)
 unfold CE
 generalize rV p u=be at *
 obtain ⟨b,e⟩:=be
 clear ht hu
 by_cases he:e=0
 ·subst he
  cases b
  ·go_enter Tryz.func19,Tryz.ntmps19
   go_wp2_with (go_at_call 37;refine (aa HM).mono ?_;clear HM;rintro x w2 ⟨rfl,HB2⟩)
   go_ret
   exact ⟨rfl,HB2⟩
  ·go_enter Tryz.func19,Tryz.ntmps19
   go_wp2_with (go_at_call 37;refine (aa HM).mono ?_;clear HM;rintro x w2 ⟨rfl,HB2⟩)
   go_ret
   exact ⟨rfl,HB2⟩
 ·have he':(e==0)=false:=by simpa using he
  dsimp only at HM ⊢
  rw [if_neg he]
  clear he
  go_enter Tryz.func19,Tryz.ntmps19
  go_wp2_with (go_at_call 37;refine (aa HM).mono ?_;clear HM;rintro x w2 ⟨rfl,HB2⟩)
  go_ret
  exact ⟨rfl,HB2⟩
def nS (p:ByteArray):Bool:=match bn p with
 | .error _=>false
 | .ok _=>true
set_option maxRecDepth 100000 in
set_option maxHeartbeats 4000000 in
theorem sP {w:World} {p:ByteArray} (ht:Hid (Lib.Utf8Tabs 4 5 w)) :
  Calls Tryz.prog 17 #[.string p] w fun x w'=>x=.returned (.bool (nS p))/\Hid (Below w.heap.size w w'):=by
 have HM:=hide (Q0 w p ht)
 have e:nS p=((wK p).1==0):=by
  rw [AQ]
  unfold nS
  cases h:bn p with
  | error x=>have:=Gf h;simpa [SA] using this
  | ok q=>rfl
 rw [e]
 generalize wK p=be at *
 obtain ⟨a,b⟩:=be
 clear ht e
 dsimp only at HM ⊢
 go_enter Tryz.func17,Tryz.ntmps17
 go_wp2_with (go_at_call 36;refine (aa HM).mono ?_;clear HM;rintro x w2 ⟨rfl,HB2⟩)
 go_ret
 exact ⟨rfl,HB2⟩
end Go.Proofs.YtfolanohokflkaaGreatDoor
