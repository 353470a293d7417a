import Derived.Test.YtfolanohokflkaaGreatDoorNsA
import Derived.Deep.RegionHeld3
import Derived.Test.YtfolanohokflkaaGreatDoorFdD
import Derived.Test.YtfolanohokflkaaGreatDoorPrI
namespace Go.Proofs.YtfolanohokflkaaGreatDoor
open Go.RowKit
theorem Oz {Q:Ending->World->Prop} {a:Act} {w W:World} {e:Int} (h2:a.tmps.getD 4 undef=.pointer (some ⟨w.heap.size,0,none⟩)) (h3:a.tmps.getD 5 undef=.int .i64 e) (hd:a.defers=[]) (hat:Hid (ax W w.heap.size nd0)) (hb:Hid (Below w.heap.size w W))
  (hq:∀ W',Hid (Below w.heap.size w W')->Q (.returned (.tuple #[gJ nd0,.int .i64 e])) W'):bodyPost Tryz.prog Tryz.f55 Q .ret a (bO W w.heap.size nd0).drew:=by
 have hn:ax (bO W w.heap.size nd0) w.heap.size nd0:=ax.set (aa hat)
 have b:=aa hb
 have hb':Below w.heap.size w (bO W w.heap.size nd0):=Below.setCell (Below.setCell (Below.setCell (Below.setCell (Below.setCell (Below.setCell (Below.setCell b (Nat.le_refl _) _) (Nat.le_refl _) _) (Nat.le_refl _) _) (Nat.le_refl _) _) (Nat.le_refl _) _) (Nat.le_refl _) _) (Nat.le_refl _) _
 clear hat hb b
 generalize bO W w.heap.size nd0=W' at *
 exact FM (n:=nd0) h2 h3 hd hn (hq W'.drew hb'.drew)
set_option maxRecDepth 100000 in
set_option maxHeartbeats 4000000 in
theorem TS {w:World} {s:ByteArray} {B e:Int} (he:e≠0) (XG:Hid (Calls Tryz.prog 65 #[.string s] (w.alloc (aB nd0)) fun x w'=>∃ m p,x=.returned (.tuple #[gJ m,.agg #[.int .i64 e,.int .i64 p]])/\Hid (Below (w.alloc (aB nd0)).heap.size (w.alloc (aB nd0)) w'))) :
  Calls Tryz.prog 55 #[.string s,.int .i64 B] w fun x w'=>x=.returned (.tuple #[gJ nd0,.int .i64 e])/\Hid (Below w.heap.size w w'):=by
 have hat:=ax.new w nd0
 have HAT:=hide hat
 have hsz:w.heap.size<(w.alloc (aB nd0)).heap.size:=by simp
 have HA:Hid (Below w.heap.size w (w.alloc (aB nd0))):=(Below.refl _ _).alloc (Nat.le_refl _) _
 have he':(e==0)=false:=by simpa using he
 clear hat
 go_enter Tryz.func55,Tryz.ntmps55
 go_wp2_with (go_at_call 65;refine (aa XG).mono ?_;clear XG;rintro x w2 ⟨m,p,hx,HB2⟩;rw [gJ] at hx;subst hx;have sZ:Hid (ax w2 w.heap.size nd0):=((aa HB2).block _ hsz).trans (aa HAT);have hs2:=(aa HB2).size;have Yt:=ax.alloc (ax.alloc sZ (aB m)) (iP e p))
 have HB3:Hid (Below w.heap.size w ((w2.alloc (aB m)).alloc (iP e p))):=by
  have b2:=(aa HA).trans ((aa HB2).mono (by omega))
  exact (b2.alloc b2.size _).alloc (by have:=b2.size;simp;omega) _
 have hG:=heap_alloc_new (w2.alloc (aB m)) (iP e p)
 have hq:(w2.alloc (aB m)).heap.size=w2.heap.size+1:=by simp
 rw [hq] at hG
 have hrq:w.heap.size<w2.heap.size+1:=by omega
 clear he' HAT HA hq
 generalize (w2.alloc (aB m)).alloc (iP e p)=W3 at *
 generalize hqq:w2.heap.size+1=q at *
 obtain ⟨r0,r1,r2,r3,r4,r5,r6⟩:=ax.cells (aa Yt)
 have rf:=ax.fz (aa Yt)
 obtain ⟨g0,g1,gf⟩:=jS hG
 generalize hr:w.heap.size=r at *
 have e1:r≠q:=by omega
 have e2:q≠r:=by omega
 go_region_held3 (fun w'=>w'.cell? ⟨q,0,none⟩=some (.int .i64 e)) (go_keep) (fail)
 go_wp2_with fail
 subst hr
 exact Oz rfl rfl rfl Yt HB3 fun W' h1=>⟨rfl,h1⟩
end Go.Proofs.YtfolanohokflkaaGreatDoor
namespace Go.Proofs.YtfolanohokflkaaGreatDoor
open Go.RowKit
set_option maxRecDepth 100000 in
set_option maxHeartbeats 4000000 in
theorem Eg {w:World} {s u:ByteArray} {B e:Int} (hu:u.size<=60) (XG:Hid (Calls Tryz.prog 55 #[.string s,.int .i64 B] (w.alloc (aB nd0)) fun x w'=>x=.returned (.tuple #[gJ nd0,.int .i64 e])/\Hid (Below (w.alloc (aB nd0)).heap.size (w.alloc (aB nd0)) w'))) :
  Calls Tryz.prog 38 #[.string s,.string u,.int .i64 B] w fun x w'=>x=.returned (.tuple #[gJ nd0,.int .i64 e])/\Hid (Below w.heap.size w w'):=by
 have hat:=ax.new w nd0
 have HAT:=hide hat
 have hsz:w.heap.size<(w.alloc (aB nd0)).heap.size:=by simp
 have HA:Hid (Below w.heap.size w (w.alloc (aB nd0))):=(Below.refl _ _).alloc (Nat.le_refl _) _
 have d1:decide ((60:Int)<(u.size:Int))=false:=by simp;omega
 clear hat
 go_enter Tryz.func38,Tryz.ntmps38
 go_wp2_with (go_at_call 55;refine (aa XG).mono ?_;clear XG;rintro x w2 ⟨hx,HB2⟩;rw [gJ] at hx;subst hx;have sZ:Hid (ax w2 w.heap.size nd0):=((aa HB2).block _ hsz).trans (aa HAT);have hs2:=(aa HB2).size;obtain ⟨c0,c1,c2,c3,c4,c5,c6⟩:=ax.cells (aa sZ);have cf:=ax.fz (aa sZ))
 have HB3:Hid (Below w.heap.size w w2):=(aa HA).trans ((aa HB2).mono (by omega))
 clear c0 c1 c2 c3 c4 c5 c6 cf
 show bodyPost _ _ _ _ _ (bO w2 w.heap.size nd0)
 refine uI (n:=nd0) rfl rfl rfl (hide (ax.set (aa sZ))) ⟨rfl,?_⟩
 have b:=aa HB3
 exact Below.setCell (Below.setCell (Below.setCell (Below.setCell (Below.setCell (Below.setCell (Below.setCell b (Nat.le_refl _) _) (Nat.le_refl _) _) (Nat.le_refl _) _) (Nat.le_refl _) _) (Nat.le_refl _) _) (Nat.le_refl _) _) (Nat.le_refl _) _
set_option maxRecDepth 100000 in
set_option maxHeartbeats 4000000 in
theorem TT {w:World} {p u:ByteArray} {B e:Int} (he:e≠0) (P_:Hid (Calls Tryz.prog 38 #[.string p,.string u,.int .i64 B] ((w.alloc (.cells #[.string u] 9)).alloc (.cells #[.int .i64 B] 3)) fun x w'=>x=.returned (.tuple #[gJ nd0,.int .i64 e])/\Hid (Below ((w.alloc (.cells #[.string u] 9)).alloc (.cells #[.int .i64 B] 3)).heap.size ((w.alloc (.cells #[.string u] 9)).alloc (.cells #[.int .i64 B] 3)) w'))) :
  Calls Tryz.prog 37 #[.string p,.string u,.int .i64 B] w fun x w'=>x=.returned (.tuple #[.bool false,.int .i64 e])/\Hid (Below w.heap.size w w'):=by
 have s1:(w.alloc (.cells #[.string u] 9)).heap.size=w.heap.size+1:=by simp
 have Mj:Hid (Below w.heap.size w ((w.alloc (.cells #[.string u] 9)).alloc (.cells #[.int .i64 B] 3))):=((Below.refl _ _).alloc (Nat.le_refl _) _).alloc (by rw [s1];omega) _
 have he':(e==0)=false:=by simpa using he
 clear s1
 go_enter Tryz.func37,Tryz.ntmps37
 go_wp2_with (go_at_call 38;refine (aa P_).mono ?_;clear P_;rintro x w2 ⟨hx,HB2⟩;rw [gJ] at hx;subst hx)
 go_ret2
 have b:=(aa Mj).trans ((aa HB2).mono (aa Mj).size)
 exact ⟨rfl,b.alloc b.size _⟩
theorem DF {w:World} {p u:ByteArray} {e:Int} (he:e≠0) (hu:u.size<=60) (hr:∀ W:World,Hid (Lib.Utf8Tabs 4 5 W)->Calls Tryz.prog 65 #[.string p] W fun x w'=>∃ m q,x=.returned (.tuple #[gJ m,.agg #[.int .i64 e,.int .i64 q]])/\Hid (Below W.heap.size W w')) (ht:Hid (Lib.Utf8Tabs 4 5 w)) :
  Calls Tryz.prog 37 #[.string p,.string u,.int .i64 200] w fun x w'=>x=.returned (.tuple #[.bool false,.int .i64 e])/\Hid (Below w.heap.size w w'):=by
 have tb:∀ {W:World} (o:Obj),Hid (Lib.Utf8Tabs 4 5 W)->Hid (Lib.Utf8Tabs 4 5 (W.alloc o)):=fun {W} o h=>by
  have hlt:=lT (aa h)
  exact iM (aa h) (Below.heap_alloc W _ 4 (by omega)) (Below.heap_alloc W _ 5 (by omega))
 exact TT he (hide (Eg hu (hide (TS he (hide (hr _ (tb _ (tb _ (tb _ (tb _ ht))))))))))
def tu (p u:ByteArray):Bool×Int:=match aZ p with
 | .error x=>(false,x.1)
 | .ok P=>(qZ P (mE u),0)
theorem TU {w:World} {p u:ByteArray} (hu:u.size<=60) (ht:Hid (Lib.Utf8Tabs 4 5 w)) :
  Calls Tryz.prog 37 #[.string p,.string u,.int .i64 200] w fun x w'=>x=.returned (.tuple #[.bool (tu p u).1,.int .i64 (tu p u).2])/\Hid (Below w.heap.size w w'):=by
 unfold tu
 by_cases hl:60<p.size
 ·have e:aZ p=.error (1,0):=by rw [aZ,if_pos hl]
  rw [e]
  exact DF (e:=1) (by decide) hu (fun W hW=>(FL (w:=W) (by omega)).mono fun x w' h=>⟨nd0,0,h.1,h.2⟩) ht
 ·have e:=zo p hl
  cases hR:kX p with
  | error y=>
   rw [hR] at e
   have hn:=GU e
   rw [e]
   exact DF hn hu (fun W hW=>(zu (w:=W) (by omega) hW (hide hR)).mono fun x w' ⟨m,a,b⟩=>⟨m,y.2,a,b⟩) ht
  | ok z=>
   rw [hR] at e
   dsimp only at e
   by_cases hz:60<z.2
   ·rw [if_pos hz] at e
    rw [e]
    refine DF (e:=5) (by decide) hu (fun W hW=>?_) ht
    have h:=vH (w:=W) (by omega) hW (hide hR)
    rw [if_pos hz] at h
    exact h.mono fun x w' ⟨m,a,b,_⟩=>⟨m,0,a,b⟩
   ·rw [if_neg hz] at e
    rw [e]
    have hB:=Ap u
    exact Ow e (by omega) hu ht (hide hR) hz (by omega) (by omega)
end Go.Proofs.YtfolanohokflkaaGreatDoor
namespace Go.Proofs.YtfolanohokflkaaGreatDoor
open Go.RowKit
def Mk (p u:ByteArray):Int:=if (tu p u).2=0 then (if (tu p u).1=true then 1 else 0) else -1
set_option maxRecDepth 100000 in
set_option maxHeartbeats 4000000 in
theorem tC {w:World} {p u:ByteArray} (hu:u.size<=60) (ht:Hid (Lib.Utf8Tabs 4 5 w)) :
  Calls Tryz.prog 19 #[.string p,.string u] w fun x w'=>x=.returned (.int .i64 (Mk p u))/\Hid (Below w.heap.size w w'):=by
 have HM:=hide (TU (p:=p) hu ht)
 unfold Mk
 generalize tu p u=be at *
 obtain ⟨b,e⟩:=be
 clear ht hu
 by_cases he:e=0
 ·subst he
  cases b
  ·go_enter Tryz.func19,Tryz.ntmps19
   go_wp2_with (go_at_call 37;refine (aa HM).mono ?_;clear HM;rintro x w2 ⟨rfl,HB2⟩)
   go_ret
   exact ⟨rfl,HB2⟩
  ·go_enter Tryz.func19,Tryz.ntmps19
   go_wp2_with (go_at_call 37;refine (aa HM).mono ?_;clear HM;rintro x w2 ⟨rfl,HB2⟩)
   go_ret
   exact ⟨rfl,HB2⟩
 ·have he':(e==0)=false:=by simpa using he
  dsimp only at HM ⊢
  rw [if_neg he]
  clear he
  go_enter Tryz.func19,Tryz.ntmps19
  go_wp2_with (go_at_call 37;refine (aa HM).mono ?_;clear HM;rintro x w2 ⟨rfl,HB2⟩)
  go_ret
  exact ⟨rfl,HB2⟩
def ow (p:ByteArray):Bool:=match aZ p with
 | .error _=>false
 | .ok _=>true
set_option maxRecDepth 100000 in
set_option maxHeartbeats 4000000 in
theorem uq {w:World} {p:ByteArray} (ht:Hid (Lib.Utf8Tabs 4 5 w)) :
  Calls Tryz.prog 17 #[.string p] w fun x w'=>x=.returned (.bool (ow p))/\Hid (Below w.heap.size w w'):=by
 have HM:=hide (TE w p ht)
 have e:ow p=((xM p).1==0):=by
  rw [BR]
  unfold ow
  cases h:aZ p with
  | error x=>have:=GU h;simpa [U2] using this
  | ok q=>rfl
 rw [e]
 generalize xM p=be at *
 obtain ⟨a,b⟩:=be
 clear ht e
 dsimp only at HM ⊢
 go_enter Tryz.func17,Tryz.ntmps17
 go_wp2_with (go_at_call 36;refine (aa HM).mono ?_;clear HM;rintro x w2 ⟨rfl,HB2⟩)
 go_ret
 exact ⟨rfl,HB2⟩
end Go.Proofs.YtfolanohokflkaaGreatDoor
