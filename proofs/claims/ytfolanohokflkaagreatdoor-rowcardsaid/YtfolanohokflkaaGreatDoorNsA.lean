import Derived.Test.YtfolanohokflkaaGreatDoorNdX
import Derived.WalkKit
import Derived.WalkSpells
import Derived.WalkLawsBesides
import Derived.WalkMore
import Derived.Defers
import Derived.Recover
import Derived.KernelRfl
import Derived.Deep.QuietTactic
import Derived.BigQuiet
import Derived.Deep.RegionHeld3
import Derived.Test.YtfolanohokflkaaGreatDoorPSame
import Derived.Test.YtfolanohokflkaaGreatDoorTxtB
import Derived.Test.YtfolanohokflkaaGreatDoorRpG
import Derived.Test.YtfolanohokflkaaGreatDoorClsB
namespace Go.Proofs.YtfolanohokflkaaGreatDoor
open Go.RowKit
abbrev Xy (e p:Int):Value:=.iface 74 (.agg #[.int .i64 e,.int .i64 p])
theorem Xz {P:Program} {c:Code} {Q Q':Exit->Act->List Frame->World->Prop} {a:Act} {cs:List Frame} {w:World} (h:c.wpS P Q a cs w) (hq:∀ e a' cs' w',Q e a' cs' w'->Q' e a' cs' w'):c.wpS P Q' a cs w:=
 fun b k hb hr=>let ⟨e,a',cs',w',q,r⟩:=h b k hb hr;⟨e,a',cs',w',hq _ _ _ _ q,r⟩
theorem Dk {P:Program} {x y:Code} {Q:Exit->Act->List Frame->World->Prop} {a:Act} {cs:List Frame} {w:World} (A:Act) (C:List Frame) (W:World) (h:x.wpS P (fun e a' cs' w'=>e=.normal/\a'=A/\cs'=C/\w'=W) a cs w) (h2:y.wpS P Q A C W):(Code.seq x y).wpS P Q a cs w:=
 wpS_seq (Xz h fun _ _ _ _ ⟨e1,e2,e3,e4⟩=>by subst e1;subst e2;subst e3;subst e4;exact h2)
theorem Oi (v:Value) (w:World):(Instr.typeAssert (.iface 74 v) 20 74 true).run Tryz.prog w=.ok (.tuple #[v,.bool true]) w:=by kernel_rfl
def yN (q v:Value):Act:={ tmps:=#[q,v,undef,undef,v,undef,undef,undef,undef,undef,undef,undef,undef,undef,undef,undef],defers:=[] }
def XA (c₀:Frame) (cs cs':List Frame) (R:Ending->FrameMode->World->Prop):Exit->Act->World->Prop:=fun e a' w'=>bodyPostS Tryz.prog Tryz.f70 c₀ cs R e a' cs' w'
set_option maxRecDepth 100000 in
set_option maxHeartbeats 4000000 in
theorem vG (q:Addr) (w:World) :
  CallsD Tryz.prog 70 #[.pointer (some q)] .returning w fun e u' w'=>e=.returned (.tuple #[])/\u'=.returning/\w'=w:=by
 refine callsD_of_wpS Tryz.func70 rfl fun c₀ cs hu=>?_
 refine Dk (yN (.pointer (some q)) .nilIface) (c₀::cs) w ?_ ?_
 ·apply wpS_region
  simp [wpOpsS,go_sem,recoverD,hu,Tryz.ntmps70,yN,Array.replicate]
 ·refine wpS_of_wp ?_
  unfold yN
  have HU:=hide hu
  clear hu
  change Code.wp _ _ (XA c₀ cs (c₀::cs) _) _ _
  go_wp2_with fail
  refine ⟨rfl,.returning,?_,_,results_none rfl _ _ _,rfl,rfl,rfl⟩
  rw [<-aa HU]
set_option maxRecDepth 100000 in
set_option maxHeartbeats 4000000 in
theorem TD (b:Nat) (e p:Int) (u0 u1:Value) (older:List PanicEntry) (w:World) (h0:w.cell? ⟨b,0,none⟩=some u0) (h1:w.cell? ⟨b,1,none⟩=some u1) (hz:∀ k,w.frozen? ⟨b,k,none⟩=false) :
  CallsD Tryz.prog 70 #[.pointer (some ⟨b,0,none⟩)] (.panicking ({ v:=Xy e p,recovered:=false }::older)) w fun x u' w'=>
   x=.returned (.tuple #[])/\u'=.panicking ({ v:=Xy e p,recovered:=true }::older)/\w'=((w.setCell ⟨b,0,none⟩ (.int .i64 e)).setCell ⟨b,1,none⟩ (.int .i64 p)).alloc (.cells #[.int .i64 e,.int .i64 p] 74):=by
 refine callsD_of_wpS Tryz.func70 rfl fun c₀ cs hu=>?_
 refine Dk (yN (.pointer (some ⟨b,0,none⟩)) (Xy e p)) ({ c₀ with mode:=.panicking ({ v:=Xy e p,recovered:=true }::older) }::cs) w ?_ ?_
 ·apply wpS_region
  simp [wpOpsS,go_sem,recoverD,hu,Tryz.ntmps70,yN,Array.replicate]
 ·refine wpS_of_wp ?_
  unfold yN
  have hlt:=World.block_lt_of_cell? w _ h0
  have r0:(w.alloc (.cells #[.int .i64 e,.int .i64 p] 74)).cell? ⟨b,0,none⟩=some u0:=by rw [World.cell?_alloc_past _ _ _ hlt];exact h0
  have r1:(w.alloc (.cells #[.int .i64 e,.int .i64 p] 74)).cell? ⟨b,1,none⟩=some u1:=by rw [World.cell?_alloc_past _ _ _ hlt];exact h1
  have g0:(w.alloc (.cells #[.int .i64 e,.int .i64 p] 74)).frozen? ⟨b,0,none⟩=false:=by rw [World.frozen?_alloc_past _ _ _ hlt];exact hz 0
  have g1:(w.alloc (.cells #[.int .i64 e,.int .i64 p] 74)).frozen? ⟨b,1,none⟩=false:=by rw [World.frozen?_alloc_past _ _ _ hlt];exact hz 1
  have hf0:=hz 0
  have hf1:=hz 1
  have Wz:=fun w1=>Oi (.agg #[.int .i64 e,.int .i64 p]) w1
  clear hu hz
  change Code.wp _ _ (XA c₀ cs ({ c₀ with mode:=.panicking ({ v:=Xy e p,recovered:=true }::older) }::cs) _) _ _
  go_wp2_with fail
  exact ⟨rfl,_,rfl,_,results_none rfl _ _ _,rfl,rfl,rfl⟩
def kX (s:ByteArray):Except (Int×Int) Pn:=match bU s.size (bH s.size 8) (af s 0) with
 | .error y=>.error y
 | .ok (z,l)=>if hd l<0 then .ok z else .error (2,AJ s.size l)
theorem zo (s:ByteArray) (h:¬ 60<s.size):aZ s=match kX s with
  | .error y=>.error y
  | .ok z=>if 60<z.2 then .error (5,0) else .ok z.1:=by
 rw [aZ,if_neg h,kX]
 cases bU s.size (bH s.size 8) (af s 0) with
 | error y=>rfl
 | ok y=>
  obtain ⟨z,l⟩:=y
  show (if hd l<0 then (if 60<z.2 then Except.error ((5,0):Int×Int) else Except.ok z.1) else Except.error (2,AJ s.size l))=_
  by_cases hl:hd l<0
  ·rw [if_pos hl];dsimp only;rw [if_pos hl]
  ·rw [if_neg hl];dsimp only;rw [if_neg hl]
theorem XB {w:World} {s:ByteArray} (hs:s.size<=60) (ht:Hid (Lib.Utf8Tabs 4 5 w)) {y:Int×Int} (hR:Hid (kX s=.error y)) :
  Calls Tryz.prog 99 #[.string s] w fun x w'=>x=AR y.1 y.2/\Hid (Below w.heap.size w w'):=by
 have h:=q8 w s hs ht
 have hr:=aa hR
 rw [kX] at hr
 cases hc:bU s.size (bH s.size 8) (af s 0) with
 | error y'=>
  rw [hc] at h hr
  injection hr with hr
  subst hr
  exact h
 | ok u=>
  obtain ⟨z,l⟩:=u
  rw [hc] at h hr
  dsimp only at hr
  by_cases hl:hd l<0
  ·rw [if_pos hl] at hr;cases hr
  ·rw [if_neg hl] at hr
   injection hr with hr
   subst hr
   exact h.mono fun x w' hh=>hh.2 hl
theorem aaz {w:World} {s:ByteArray} (hs:s.size<=60) (ht:Hid (Lib.Utf8Tabs 4 5 w)) {z:Pn} (hR:Hid (kX s=.ok z)) :
  Calls Tryz.prog 99 #[.string s] w fun x w'=>∃ m,x=.returned (gJ m)/\Hid (a_ w' (fun k=>w.heap.size<=k) m z)/\Hid (Below w.heap.size w w'):=by
 have h:=q8 w s hs ht
 have hr:=aa hR
 rw [kX] at hr
 cases hc:bU s.size (bH s.size 8) (af s 0) with
 | error y'=>
  rw [hc] at hr
  cases hr
 | ok u=>
  obtain ⟨z',l⟩:=u
  rw [hc] at h hr
  dsimp only at hr
  by_cases hl:hd l<0
  ·rw [if_pos hl] at hr
   injection hr with hr
   subst hr
   exact h.mono fun x w' hh=>hh.1 hl
  ·rw [if_neg hl] at hr;cases hr
theorem XC {w:World} {s:ByteArray} {k j:Nat} (hs:s.size<=60) (ht:Hid (Lib.Utf8Tabs 4 5 w)) (hk:w.cell? ⟨k,0,none⟩=some (.string s)) {y:Int×Int} (hR:Hid (kX s=.error y)) :
  Calls Tryz.prog 98 #[.pointer (some ⟨k,0,none⟩),.pointer (some ⟨j,0,none⟩)] w fun x w'=>x=AR y.1 y.2/\Hid (Below w.heap.size w w'):=by
 go_enter Tryz.func98,Tryz.ntmps98
 go_wp2_with (go_at_call 99;refine (XB hs ht hR).mono ?_;rintro x w1 ⟨rfl,HB⟩)
 exact ⟨rfl,rfl,HB⟩
theorem XD {j:Nat} {w w1:World} {n:Nd} (h:Below w.heap.size w w1):Hid (Up j w (bO w1 j n)):=
 ⟨(Lg w1 j n).trans h.os,(Dh w1 j n).trans h.tape,(xC w1 j n).trans h.output,by rw [oo];exact h.size,fun k hk hj=>(dm hj).trans (h.block k hk)⟩
set_option maxRecDepth 100000 in
set_option maxHeartbeats 4000000 in
theorem aaA {w:World} {s:ByteArray} {k j:Nat} (hs:s.size<=60) (ht:Hid (Lib.Utf8Tabs 4 5 w)) (hk:w.cell? ⟨k,0,none⟩=some (.string s)) {m0:Nd} (hj:Hid (ax w j m0)) {z:Pn} (hR:Hid (kX s=.ok z)) :
  Calls Tryz.prog 98 #[.pointer (some ⟨k,0,none⟩),.pointer (some ⟨j,0,none⟩)] w fun x w'=>x=.returned (.tuple #[])/\∃ m,Hid (Up j w w')/\Hid (ax w' j m)/\Hid (a_ w' (fun k=>w.heap.size<=k) m z):=by
 have hlt:=ax.lt (aa hj)
 go_enter Tryz.func98,Tryz.ntmps98
 go_wp2_with (go_at_call 99;refine (aaz hs ht hR).mono ?_;simp only [gJ];rintro x w1 ⟨m,rfl,HN,HB⟩;have HJ:=hide (ax.move (aa hj) ((aa HB).block j hlt));obtain ⟨c0,c1,c2,c3,c4,c5,c6⟩:=ax.cells (aa HJ);have cf:=ax.fz (aa HJ))
 change bodyPost _ _ _ _ _ (bO w1 j m)
 go_end0
 exact ⟨rfl,m,XD (aa HB),hide (ax.set (aa HJ)),a_.move HN fun i hi _=>⟨dm (by omega),hi⟩⟩
end Go.Proofs.YtfolanohokflkaaGreatDoor
namespace Go.Proofs.YtfolanohokflkaaGreatDoor
open Go.RowKit
set_option maxRecDepth 100000 in
set_option maxHeartbeats 4000000 in
theorem Ls {w:World} {s:ByteArray} {k j:Nat} (hs:s.size<=60) (ht:Hid (Lib.Utf8Tabs 4 5 w)) (hk:w.cell? ⟨k,0,none⟩=some (.string s)) {y:Int×Int} (hR:Hid (kX s=.error y)) :
  Calls Tryz.prog 41 #[.func (.func 98) #[] #[.pointer (some ⟨k,0,none⟩),.pointer (some ⟨j,0,none⟩)]] w fun x w'=>x=.returned (.agg #[.int .i64 y.1,.int .i64 y.2])/\Hid (Below w.heap.size w w'):=by
 have hmf:∀ (fn:Fn) (first cap:Array Value) (w:World),(Instr.makeFunc fn first cap).run Tryz.prog w=.ok (.func fn first cap) w:=fun _ _ _ _=>rfl
 have hkl:=World.block_lt_of_cell? w _ hk
 have hk1:(w.alloc (.cells #[.int .i64 0,.int .i64 0] 74)).cell? ⟨k,0,none⟩=some (.string s):=by rw [World.cell?_alloc_past _ _ _ hkl];exact hk
 have hlt:=lT (aa ht)
 have ht1:Hid (Lib.Utf8Tabs 4 5 (w.alloc (.cells #[.int .i64 0,.int .i64 0] 74))):=iM (aa ht) (Below.heap_alloc w _ 4 (by omega)) (Below.heap_alloc w _ 5 (by omega))
 have HW:=hide (XC (j:=j) hs ht1 hk1 hR)
 clear hk hkl hR ht hk1 ht1
 go_enter_defers Tryz.func41,Tryz.ntmps41
 go_wp2_with (go_at_call 98;refine (aa HW).mono ?_;clear HW;rintro x w1 ⟨rfl,HB⟩)
 have hn:w.heap.size<(w.alloc (.cells #[.int .i64 0,.int .i64 0] 74)).heap.size:=by simp
 have q0:w1.cell? ⟨w.heap.size,0,none⟩=some (.int .i64 0):=by rw [(aa HB).cell (p:=⟨w.heap.size,0,none⟩) hn];exact bM w [.int .i64 0,.int .i64 0] _ 0 _ rfl
 have q1:w1.cell? ⟨w.heap.size,1,none⟩=some (.int .i64 0):=by rw [(aa HB).cell (p:=⟨w.heap.size,1,none⟩) hn];exact bM w [.int .i64 0,.int .i64 0] _ 1 _ rfl
 have fz:∀ k,w1.frozen? ⟨w.heap.size,k,none⟩=false:=fun k=>by rw [(aa HB).frozen (p:=⟨w.heap.size,k,none⟩) hn];exact World.frozen?_alloc_at _ _ _ _ rfl
 have hl1:=World.block_lt_of_cell? w1 _ q0
 refine leaves_cons (f:=70) (args:=#[.pointer (some ⟨w.heap.size,0,none⟩)]) (by simp) (by simp [go_sem]) ?_
 refine (TD w.heap.size y.1 y.2 (.int .i64 0) (.int .i64 0) [] w1 q0 q1 fz).mono ?_
 rintro x u' w'' ⟨rfl,rfl,rfl⟩
 show Leaves _ _ _ _ [] .returning _
 refine ⟨.agg #[.int .i64 y.1,.int .i64 y.2],?_,rfl,?_⟩
 ·simp [results,Tryz.results41,go_sem,q0,q1,hl1]
 ·exact Lr (((((Up.below ((Below.refl _ _).alloc (Nat.le_refl _) _)).trans (Up.below (aa HB))).trans (Up.set _ _ _ _)).trans (Up.set _ _ _ _)).trans (Up.below ((Below.refl _ _).alloc (Nat.le_refl _) _)))
theorem Up.o7 {j:Nat} {w w1:World} (h:Up j w w1) (n k:Nat) (u:Value) (hn:w.heap.size<=n):Up j w (w1.setCell ⟨n,k,none⟩ u):=
 ⟨h.os,h.tape,h.output,by have:=h.size;simpa [World.setCell] using this,fun i hi hij=>(Below.heap_setCell w1 ⟨n,k,none⟩ u i (by show i≠n;omega)).trans (h.block i hi hij)⟩
set_option maxRecDepth 100000 in
set_option maxHeartbeats 4000000 in
theorem Oj {w:World} {s:ByteArray} {k j:Nat} (hs:s.size<=60) (ht:Hid (Lib.Utf8Tabs 4 5 w)) (hk:w.cell? ⟨k,0,none⟩=some (.string s)) {m0:Nd} (hj:Hid (ax w j m0)) {z:Pn} (hR:Hid (kX s=.ok z)) :
  Calls Tryz.prog 41 #[.func (.func 98) #[] #[.pointer (some ⟨k,0,none⟩),.pointer (some ⟨j,0,none⟩)]] w fun x w'=>x=.returned (.agg #[.int .i64 0,.int .i64 0])/\∃ m,Hid (Up j w w')/\Hid (ax w' j m)/\Hid (a_ w' (fun k=>w.heap.size<k) m z):=by
 have hmf:∀ (fn:Fn) (first cap:Array Value) (w:World),(Instr.makeFunc fn first cap).run Tryz.prog w=.ok (.func fn first cap) w:=fun _ _ _ _=>rfl
 have hkl:=World.block_lt_of_cell? w _ hk
 have hjl:j<w.heap.size:=ax.lt (aa hj)
 have hk1:(w.alloc (.cells #[.int .i64 0,.int .i64 0] 74)).cell? ⟨k,0,none⟩=some (.string s):=by rw [World.cell?_alloc_past _ _ _ hkl];exact hk
 have hj1:=ax.alloc hj (.cells #[.int .i64 0,.int .i64 0] 74)
 have hlt:=lT (aa ht)
 have ht1:Hid (Lib.Utf8Tabs 4 5 (w.alloc (.cells #[.int .i64 0,.int .i64 0] 74))):=iM (aa ht) (Below.heap_alloc w _ 4 (by omega)) (Below.heap_alloc w _ 5 (by omega))
 have HW:=hide (aaA hs ht1 hk1 hj1 hR)
 have hnew:w.heap.size<(w.alloc (.cells #[.int .i64 0,.int .i64 0] 74)).heap.size:=by simp
 have c0:=bM w [.int .i64 0,.int .i64 0] 74 0 _ rfl
 have c1:=bM w [.int .i64 0,.int .i64 0] 74 1 _ rfl
 have hne:w.heap.size≠j:=by omega
 have HN:=hide hnew
 have C0:=hide c0
 have C1:=hide c1
 clear hk hkl hR ht hk1 ht1 hj1 hj hnew c0 c1
 go_enter_defers Tryz.func41,Tryz.ntmps41
 go_wp2_with (go_at_call 98;refine (aa HW).mono ?_;clear HW;rintro x w1 ⟨rfl,m,HU,HJ,HND⟩;have q0:w1.cell? ⟨w.heap.size,0,none⟩=some (.int .i64 0):=(by rw [World.cell?_of_block (a:=⟨w.heap.size,0,none⟩) ((aa HU).block _ (aa HN) hne)];exact aa C0);have q1:w1.cell? ⟨w.heap.size,1,none⟩=some (.int .i64 0):=(by rw [World.cell?_of_block (a:=⟨w.heap.size,1,none⟩) ((aa HU).block _ (aa HN) hne)];exact aa C1);have z0:w1.frozen? ⟨w.heap.size,0,none⟩=false:=(by rw [World.frozen?_of_block (a:=⟨w.heap.size,0,none⟩) ((aa HU).block _ (aa HN) hne)];exact World.frozen?_alloc_at _ _ _ _ rfl);have z1:w1.frozen? ⟨w.heap.size,1,none⟩=false:=(by rw [World.frozen?_of_block (a:=⟨w.heap.size,1,none⟩) ((aa HU).block _ (aa HN) hne)];exact World.frozen?_alloc_at _ _ _ _ rfl))
 have hl1:=World.block_lt_of_cell? w1 _ q0
 refine leaves_cons (f:=70) (args:=#[.pointer (some ⟨w.heap.size,0,none⟩)]) (by simp) (by simp [go_sem]) ?_
 refine (vG ⟨w.heap.size,0,none⟩ _).mono ?_
 rintro x u' w'' ⟨rfl,rfl,rfl⟩
 show Leaves _ _ _ _ [] .returning _
 refine ⟨.agg #[.int .i64 0,.int .i64 0],?_,rfl,m,?_,?_,?_⟩
 ·simp [results,Tryz.results41,go_sem,q0,q1]
 ·exact Up.o7 (Up.o7 ((Up.below ((Below.refl _ _).alloc (Nat.le_refl _) _)).trans (aa HU)) _ _ _ (Nat.le_refl _)) _ _ _ (Nat.le_refl _)
 ·exact ax.move (aa HJ) ((Below.heap_setCell _ ⟨w.heap.size,1,none⟩ _ j (Ne.symm hne)).trans (Below.heap_setCell _ ⟨w.heap.size,0,none⟩ _ j (Ne.symm hne)))
 ·exact a_.move HND fun i hi _=>by
   have hi':w.heap.size+1<=i:=Nat.le_trans (Nat.le_of_eq (by simp)) hi
   exact ⟨(Below.heap_setCell _ ⟨w.heap.size,1,none⟩ _ i (by show i≠w.heap.size;omega)).trans (Below.heap_setCell _ ⟨w.heap.size,0,none⟩ _ i (by show i≠w.heap.size;omega)),by omega⟩
end Go.Proofs.YtfolanohokflkaaGreatDoor
namespace Go.Proofs.YtfolanohokflkaaGreatDoor
open Go.RowKit
abbrev iP (e p:Int):Obj:=.cells #[.int .i64 e,.int .i64 p] 74
theorem Lt {Q:Ending->World->Prop} {a:Act} {W:World} {rb gb:Nat} {n:Nd} {e p:Int} (h2:a.tmps.getD 2 undef=.pointer (some ⟨rb,0,none⟩)) (h3:a.tmps.getD 3 undef=.pointer (some ⟨gb,0,none⟩)) (hd:a.defers=[]) (hat:Hid (ax W rb n)) (g0:W.cell? ⟨gb,0,none⟩=some (.int .i64 e)) (g1:W.cell? ⟨gb,1,none⟩=some (.int .i64 p)) (hq:Q (.returned (.tuple #[gJ n,.agg #[.int .i64 e,.int .i64 p]])) W):bodyPost Tryz.prog Tryz.f65 Q .ret a W:=by
 obtain ⟨k0,k1,k2,k3,k4,k5,k6⟩:=ax.cells (aa hat)
 refine bodyPost_ret (v:=.tuple #[gJ n,.agg #[.int .i64 e,.int .i64 p]]) ?_ hd hq
 have h2':a.tmps[2]?.getD undef=.pointer (some ⟨rb,0,none⟩):=by simpa using h2
 have h3':a.tmps[3]?.getD undef=.pointer (some ⟨gb,0,none⟩):=by simpa using h3
 simp [results,Tryz.results65,h2',h3',go_sem,k0,k1,k2,k3,k4,k5,k6,g0,g1,gJ]
abbrev rd4 (w:World) (s:ByteArray):World:=(((w.alloc (.cells #[.string s] 9)).alloc (aB nd0)).alloc (iP 0 0)).alloc (aB nd0)
theorem jS {w:World} {b:Nat} {e p:Int} {t:TypeId} (h:w.heap[b]? = some (.cells #[.int .i64 e,.int .i64 p] t)):w.cell? ⟨b,0,none⟩=some (.int .i64 e)/\w.cell? ⟨b,1,none⟩=some (.int .i64 p)/\∀ k,w.frozen? ⟨b,k,none⟩=false:=by
 refine ⟨?_,?_,fun k=>?_⟩<;>simp [World.cell?,World.frozen?,h]
structure Dl (W:World) (n:Nat) (m:Nd):Prop where
 r:ax W (n+1) nd0
 g:W.heap[n+1+1]? = some (iP 0 0)
 v:ax W (n+1+1+1) m
theorem XE (w:World) (s:ByteArray):Dl (rd4 w s) w.heap.size nd0:=by
 have s1:(w.alloc (.cells #[.string s] 9)).heap.size=w.heap.size+1:=by simp
 have s2:((w.alloc (.cells #[.string s] 9)).alloc (aB nd0)).heap.size=w.heap.size+1+1:=by simp
 have s3:(((w.alloc (.cells #[.string s] 9)).alloc (aB nd0)).alloc (iP 0 0)).heap.size=w.heap.size+1+1+1:=by simp
 refine ⟨?_,?_,?_⟩
 ·have h:=ax.new (w.alloc (.cells #[.string s] 9)) nd0
  rw [s1] at h
  exact aa (ax.alloc (ax.alloc (hide h) _) _)
 ·have h:=heap_alloc_new ((w.alloc (.cells #[.string s] 9)).alloc (aB nd0)) (iP 0 0)
  rw [s2] at h
  exact (Below.heap_alloc _ _ _ (by rw [s3];omega)).trans h
 ·have h:=ax.new (((w.alloc (.cells #[.string s] 9)).alloc (aB nd0)).alloc (iP 0 0)) nd0
  rw [s3] at h
  exact h
theorem Lu (w:World) (s:ByteArray):(rd4 w s).heap.size=w.heap.size+4:=by simp
theorem Qq (w:World) (s:ByteArray):(rd4 w s).cell? ⟨w.heap.size,0,none⟩=some (.string s):=by
 have h:=bM w [.string s] 9 0 _ rfl
 rw [World.cell?_alloc_past _ _ _ (by simp;omega),World.cell?_alloc_past _ _ _ (by simp;omega),World.cell?_alloc_past _ _ _ (by simp)]
 exact h
theorem uo (w:World) (s:ByteArray):Below w.heap.size w (rd4 w s):=((((Below.refl _ _).alloc (Nat.le_refl _) _).alloc (by simp) _).alloc (by simp;omega) _).alloc (by simp;omega) _
theorem Dl.stop {W:World} {n:Nat} {m:Nd} (h:Dl W n m) (o:Obj):Dl (W.alloc o) n m:=
 ⟨aa (ax.alloc (hide h.r) _),(Below.heap_alloc _ _ _ (Array.getElem?_eq_some_iff.1 h.g).1).trans h.g,aa (ax.alloc (hide h.v) _)⟩
theorem Dl.below {W W':World} {n:Nat} {m:Nd} (h:Dl W n m) (hb:Below W.heap.size W W') (hs:W.heap.size=n+4):Dl W' n m:=
 ⟨(hb.block _ (by omega)).trans h.r,(hb.block _ (by omega)).trans h.g,(hb.block _ (by omega)).trans h.v⟩
theorem aaB {W W':World} {n:Nat} (hb:Below W.heap.size W W') (hs:W.heap.size=n+4):n+4<=W'.heap.size:=hs▸hb.size
set_option maxRecDepth 100000 in
set_option maxHeartbeats 4000000 in
theorem FL {w:World} {s:ByteArray} (hs:(60:Int)<(s.size:Int)) :
  Calls Tryz.prog 65 #[.string s] w fun x w'=>x=.returned (.tuple #[gJ nd0,.agg #[.int .i64 1,.int .i64 0]])/\Hid (Below w.heap.size w w'):=by
 go_enter Tryz.func65,Tryz.ntmps65
 go_wp2_with fail
 have hb:Below w.heap.size w (((w.alloc (.cells #[.string s] 9)).alloc (aB nd0)).alloc (iP 1 0)):=(((Below.refl _ _).alloc (Nat.le_refl _) _).alloc (by simp) _).alloc (by simp;omega) _
 have s1:(w.alloc (.cells #[.string s] 9)).heap.size=w.heap.size+1:=by simp
 have s2:((w.alloc (.cells #[.string s] 9)).alloc (aB nd0)).heap.size=w.heap.size+1+1:=by simp
 have h1:=ax.new (w.alloc (.cells #[.string s] 9)) nd0
 rw [s1] at h1
 have h2:=heap_alloc_new ((w.alloc (.cells #[.string s] 9)).alloc (aB nd0)) (iP 1 0)
 rw [s2] at h2
 obtain ⟨g0,g1,-⟩:=jS h2
 exact Lt rfl rfl rfl (ax.alloc (hide h1) _) g0 g1 ⟨rfl,hb⟩
def zt (W:World) (n:Nat) (m:Nd) (e p:Int):World:=((bO W (n+1) m).setCell ⟨n+1+1,0,none⟩ (.int .i64 e)).setCell ⟨n+1+1,1,none⟩ (.int .i64 p)
section
variable {W:World} {n:Nat} {m:Nd} {e p:Int}
theorem Lx {k:Nat} (h1:k≠n+1) (h2:k≠n+1+1):(zt W n m e p).heap[k]? = W.heap[k]?:=
 (Below.heap_setCell _ ⟨n+1+1,1,none⟩ _ k h2).trans ((Below.heap_setCell _ ⟨n+1+1,0,none⟩ _ k h2).trans (dm h1))
theorem Ol:(zt W n m e p).heap.size=W.heap.size:=by simp [zt,World.setCell,bO]
theorem aaC (hR:Dl W n m):ax (zt W n m e p) (n+1) m:=by
 have h2:n+1≠n+1+1:=by omega
 exact (Below.heap_setCell _ ⟨n+1+1,1,none⟩ _ (n+1) h2).trans ((Below.heap_setCell _ ⟨n+1+1,0,none⟩ _ (n+1) h2).trans (ax.set hR.r))
theorem aaD (hR:Dl W n m):(zt W n m e p).heap[n+1+1]? = some (iP e p):=by
 have hg1:(bO W (n+1) m).heap[n+1+1]? = some (iP 0 0):=(dm (by omega)).trans hR.g
 have k0:=heap_setCell_same _ (n+1+1) 0 _ _ (.int .i64 e) hg1
 have k1:=heap_setCell_same _ (n+1+1) 1 _ _ (.int .i64 p) k0
 exact k1.trans (by simp)
theorem LA {w:World} (hB:Below w.heap.size w W):Below w.heap.size w (zt W w.heap.size m e p):=
 Below.setCell (Below.setCell (Below.setCell (Below.setCell (Below.setCell (Below.setCell (Below.setCell (Below.setCell (Below.setCell hB (Nat.le_succ _) _) (Nat.le_succ _) _) (Nat.le_succ _) _) (Nat.le_succ _) _) (Nat.le_succ _) _) (Nat.le_succ _) _) (Nat.le_succ _) _) (Nat.le_add_right _ 2) _) (Nat.le_add_right _ 2) _
end
theorem Om {Q:Ending->World->Prop} {a:Act} {w W:World} {m:Nd} {e p:Int} (h2:a.tmps.getD 2 undef=.pointer (some ⟨w.heap.size+1,0,none⟩)) (h3:a.tmps.getD 3 undef=.pointer (some ⟨w.heap.size+1+1,0,none⟩)) (hd:a.defers=[]) (hR:Hid (Dl W w.heap.size m)) (hB:Hid (Below w.heap.size w W))
  (hq:∀ w',(∀ k,k≠w.heap.size+1->k≠w.heap.size+1+1->w'.heap[k]? = W.heap[k]?)->w'.heap.size=W.heap.size->Hid (Below w.heap.size w w')->Q (.returned (.tuple #[gJ m,.agg #[.int .i64 e,.int .i64 p]])) w'):bodyPost Tryz.prog Tryz.f65 Q .ret a (zt W w.heap.size m e p).drew:=by
 have hr:=aaC (e:=e) (p:=p) (aa hR)
 have hg:=aaD (e:=e) (p:=p) (aa hR)
 have hb:=LA (m:=m) (e:=e) (p:=p) (aa hB)
 have hsz:=Ol (W:=W) (n:=w.heap.size) (m:=m) (e:=e) (p:=p)
 have ho:=fun k a b=>Lx (W:=W) (n:=w.heap.size) (m:=m) (e:=e) (p:=p) (k:=k) a b
 generalize zt W w.heap.size m e p=W' at *
 obtain ⟨g0,g1,-⟩:=jS hg
 exact Lt h2 h3 hd (n:=m) hr g0 g1 (hq W'.drew ho hsz hb.drew)
set_option maxRecDepth 100000 in
set_option maxHeartbeats 4000000 in
theorem Qr {w:World} {s:ByteArray} (hs:s.size<=60) {e p:Int} {K:World->Nd->Prop} (HA:Hid (Calls Tryz.prog 41 #[.func (.func 98) #[] #[.pointer (some ⟨w.heap.size,0,none⟩),.pointer (some ⟨w.heap.size+1+1+1,0,none⟩)]] (rd4 w s) fun x w'=>x=.returned (.agg #[.int .i64 e,.int .i64 p])/\∃ m,Hid (Dl w' w.heap.size m)/\Hid (Below w.heap.size w w')/\w.heap.size+4<=w'.heap.size/\Hid (K w' m))) :
  Calls Tryz.prog 65 #[.string s] w fun x w'=>∃ m w2,x=.returned (.tuple #[gJ m,.agg #[.int .i64 (if e=0/\60<m.sz then 5 else e),.int .i64 (if e=0/\60<m.sz then 0 else p)]])/\Hid (Below w.heap.size w w')/\Hid (K w2 m)/\w.heap.size+4<=w2.heap.size/\w2.heap.size<=w'.heap.size/\∀ k,k<w2.heap.size->k≠w.heap.size+1->k≠w.heap.size+1+1->w'.heap[k]? = w2.heap[k]? := by
 have hmf:∀ (fn:Fn) (first cap:Array Value) (w:World),(Instr.makeFunc fn first cap).run Tryz.prog w=.ok (.func fn first cap) w:=fun _ _ _ _=>rfl
 have hs':(s.size:Int)<=60:=by omega
 clear hs
 by_cases he:e=0
 ·subst he
  go_enter Tryz.func65,Tryz.ntmps65
  go_wp2_with (go_at_call 41;refine (aa HA).mono ?_;clear HA;rintro x w2 ⟨rfl,m,HR2,HB,hz,HK⟩;have HR3:=hide ((aa HR2).stop (iP 0 p));obtain ⟨c0,c1,c2,c3,c4,c5,c6⟩:=ax.cells (aa HR3).v)
  ·have HQ:=hide (heap_alloc_new w2 (iP 5 0))
   have HB3:=hide ((aa HB).alloc (by omega) (iP 5 0))
   have mR:Hid (∀ k,k<w2.heap.size->(w2.alloc (iP 5 0)).heap[k]? = w2.heap[k]?):=fun k hk=>Below.heap_alloc w2 _ k hk
   have HZ3:Hid (w2.heap.size<=(w2.alloc (iP 5 0)).heap.size):=by show _<=_;simp
   have HR4:=hide ((aa HR2).stop (iP 5 0))
   clear HR3 c0 c1 c2 c3 c4 c5 c6
   generalize w2.alloc (iP 5 0)=W at *
   generalize hqq:w2.heap.size=q at *
   obtain ⟨Dm,LB,LC⟩:=aa HR4
   obtain ⟨c0,c1,c2,c3,c4,c5,c6⟩:=ax.cells LC
   obtain ⟨r0,r1,r2,r3,r4,r5,r6⟩:=ax.cells Dm
   have rf:=ax.fz Dm
   obtain ⟨g0,g1,gf⟩:=jS LB
   obtain ⟨q0,q1,-⟩:=jS (aa HQ)
   clear Dm LB LC
   have hn:w.heap.size+1+1+1<q:=by omega
   generalize hv:w.heap.size+1+1+1=v at *
   generalize hg:w.heap.size+1+1=g at *
   generalize hr:w.heap.size+1=r at *
   have e1:r≠v:=by omega
   have e2:v≠r:=by omega
   have e3:g≠v:=by omega
   have e4:v≠g:=by omega
   have e5:r≠q:=by omega
   have e6:q≠r:=by omega
   have e7:g≠q:=by omega
   have e8:q≠g:=by omega
   have e9:r≠g:=by omega
   have e10:g≠r:=by omega
   go_region_held3 (fun w'=>w'.cell? ⟨v,0,none⟩=some (.int .i64 m.sh)/\w'.cell? ⟨v,1,none⟩=some (.slice m.pa m.pn m.pc)/\w'.cell? ⟨v,2,none⟩=some (.string m.ss)/\w'.cell? ⟨v,3,none⟩=some (.int .i64 m.le)/\w'.cell? ⟨v,4,none⟩=some (.int .i64 m.mo)/\w'.cell? ⟨v,5,none⟩=some (.int .i64 m.fa)/\w'.cell? ⟨v,6,none⟩=some (.int .i64 m.sz)/\w'.cell? ⟨q,0,none⟩=some (.int .i64 5)/\w'.cell? ⟨q,1,none⟩=some (.int .i64 0)) (go_keep) (fail)
   go_wp2_with fail
   subst hv
   subst hg
   subst hr
   subst hqq
   refine Om rfl rfl rfl HR4 HB3 fun w' h1 h2 h3=>⟨m,w2,?_,h3,HK,hz,Nat.le_trans (aa HZ3) (Nat.le_of_eq h2.symm),fun k a b c=>(h1 k b c).trans (aa mR k a)⟩
   rw [if_pos ⟨trivial,by assumption⟩,if_pos ⟨trivial,by assumption⟩]
  ·have HQ:=hide (heap_alloc_new w2 (iP 0 p))
   have HB3:=hide ((aa HB).alloc (by omega) (iP 0 p))
   have mR:Hid (∀ k,k<w2.heap.size->(w2.alloc (iP 0 p)).heap[k]? = w2.heap[k]?):=fun k hk=>Below.heap_alloc w2 _ k hk
   have HZ3:Hid (w2.heap.size<=(w2.alloc (iP 0 p)).heap.size):=by show _<=_;simp
   have HR4:=hide ((aa HR2).stop (iP 0 p))
   clear HR3 c0 c1 c2 c3 c4 c5 c6
   generalize w2.alloc (iP 0 p)=W at *
   generalize hqq:w2.heap.size=q at *
   obtain ⟨Dm,LB,LC⟩:=aa HR4
   obtain ⟨c0,c1,c2,c3,c4,c5,c6⟩:=ax.cells LC
   obtain ⟨r0,r1,r2,r3,r4,r5,r6⟩:=ax.cells Dm
   have rf:=ax.fz Dm
   obtain ⟨g0,g1,gf⟩:=jS LB
   obtain ⟨q0,q1,-⟩:=jS (aa HQ)
   clear Dm LB LC
   have hn:w.heap.size+1+1+1<q:=by omega
   generalize hv:w.heap.size+1+1+1=v at *
   generalize hg:w.heap.size+1+1=g at *
   generalize hr:w.heap.size+1=r at *
   have e1:r≠v:=by omega
   have e2:v≠r:=by omega
   have e3:g≠v:=by omega
   have e4:v≠g:=by omega
   have e5:r≠q:=by omega
   have e6:q≠r:=by omega
   have e7:g≠q:=by omega
   have e8:q≠g:=by omega
   have e9:r≠g:=by omega
   have e10:g≠r:=by omega
   go_region_held3 (fun w'=>w'.cell? ⟨v,0,none⟩=some (.int .i64 m.sh)/\w'.cell? ⟨v,1,none⟩=some (.slice m.pa m.pn m.pc)/\w'.cell? ⟨v,2,none⟩=some (.string m.ss)/\w'.cell? ⟨v,3,none⟩=some (.int .i64 m.le)/\w'.cell? ⟨v,4,none⟩=some (.int .i64 m.mo)/\w'.cell? ⟨v,5,none⟩=some (.int .i64 m.fa)/\w'.cell? ⟨v,6,none⟩=some (.int .i64 m.sz)/\w'.cell? ⟨q,0,none⟩=some (.int .i64 0)/\w'.cell? ⟨q,1,none⟩=some (.int .i64 p)) (go_keep) (fail)
   go_wp2_with fail
   subst hv
   subst hg
   subst hr
   subst hqq
   refine Om rfl rfl rfl HR4 HB3 fun w' h1 h2 h3=>⟨m,w2,?_,h3,HK,hz,Nat.le_trans (aa HZ3) (Nat.le_of_eq h2.symm),fun k a b c=>(h1 k b c).trans (aa mR k a)⟩
   rw [if_neg (fun a=>by omega),if_neg (fun a=>by omega)]
 ·have he':(e==0)=false:=by simpa using he
  go_enter Tryz.func65,Tryz.ntmps65
  go_wp2_with (go_at_call 41;refine (aa HA).mono ?_;clear HA;rintro x w2 ⟨rfl,m,HR2,HB,hz,HK⟩)
  have HQ:=hide (heap_alloc_new w2 (iP e p))
  have HB3:=hide ((aa HB).alloc (by omega) (iP e p))
  have mR:Hid (∀ k,k<w2.heap.size->(w2.alloc (iP e p)).heap[k]? = w2.heap[k]?):=fun k hk=>Below.heap_alloc w2 _ k hk
  have HZ3:Hid (w2.heap.size<=(w2.alloc (iP e p)).heap.size):=by show _<=_;simp
  have HR4:=hide ((aa HR2).stop (iP e p))
  clear he'
  generalize w2.alloc (iP e p)=W at *
  generalize hqq:w2.heap.size=q at *
  obtain ⟨Dm,LB,LC⟩:=aa HR4
  obtain ⟨c0,c1,c2,c3,c4,c5,c6⟩:=ax.cells LC
  obtain ⟨r0,r1,r2,r3,r4,r5,r6⟩:=ax.cells Dm
  have rf:=ax.fz Dm
  obtain ⟨g0,g1,gf⟩:=jS LB
  obtain ⟨q0,q1,-⟩:=jS (aa HQ)
  clear Dm LB LC
  have hn:w.heap.size+1+1+1<q:=by omega
  generalize hv:w.heap.size+1+1+1=v at *
  generalize hg:w.heap.size+1+1=g at *
  generalize hr:w.heap.size+1=r at *
  have e1:r≠v:=by omega
  have e2:v≠r:=by omega
  have e3:g≠v:=by omega
  have e4:v≠g:=by omega
  have e5:r≠q:=by omega
  have e6:q≠r:=by omega
  have e7:g≠q:=by omega
  have e8:q≠g:=by omega
  have e9:r≠g:=by omega
  have e10:g≠r:=by omega
  go_region_held3 (fun w'=>w'.cell? ⟨v,0,none⟩=some (.int .i64 m.sh)/\w'.cell? ⟨v,1,none⟩=some (.slice m.pa m.pn m.pc)/\w'.cell? ⟨v,2,none⟩=some (.string m.ss)/\w'.cell? ⟨v,3,none⟩=some (.int .i64 m.le)/\w'.cell? ⟨v,4,none⟩=some (.int .i64 m.mo)/\w'.cell? ⟨v,5,none⟩=some (.int .i64 m.fa)/\w'.cell? ⟨v,6,none⟩=some (.int .i64 m.sz)/\w'.cell? ⟨q,0,none⟩=some (.int .i64 e)/\w'.cell? ⟨q,1,none⟩=some (.int .i64 p)) (go_keep) (fail)
  go_wp2_with fail
  subst hv
  subst hg
  subst hr
  subst hqq
  refine Om rfl rfl rfl HR4 HB3 fun w' h1 h2 h3=>⟨m,w2,?_,h3,HK,hz,Nat.le_trans (aa HZ3) (Nat.le_of_eq h2.symm),fun k a b c=>(h1 k b c).trans (aa mR k a)⟩
  rw [if_neg (fun a=>he a.1),if_neg (fun a=>he a.1)]
end Go.Proofs.YtfolanohokflkaaGreatDoor
namespace Go.Proofs.YtfolanohokflkaaGreatDoor
open Go.RowKit
theorem Dn {w w1 w2:World} (h:Hid (Below w.heap.size w w1)) (k:Hid (Below w1.heap.size w1 w2)):Hid (Below w.heap.size w w2):=
 ⟨(aa k).os.trans (aa h).os,(aa k).tape.trans (aa h).tape,(aa k).output.trans (aa h).output,Nat.le_trans (aa h).size (aa k).size,fun i hi=>((aa k).block i (Nat.lt_of_lt_of_le hi (aa h).size)).trans ((aa h).block i hi)⟩
theorem Oo {w w1 w2:World} {o o':Obj} {n:Nat} (h:Hid (Below w.heap.size w w1)) (e:w2=((w1.alloc o).alloc o').drewN n):Hid (Below w.heap.size w w2):=by
 have h1:=aa h
 have h2:Below w.heap.size w ((w1.alloc o).alloc o'):=(h1.alloc h1.size _).alloc (by have:=h1.size;simp;omega) _
 subst e
 exact ⟨h2.os,h2.tape,h2.output,h2.size,h2.block⟩
set_option maxRecDepth 100000 in
set_option maxHeartbeats 4000000 in
theorem Dp {w:World} {s:ByteArray} {e p:Int} (HA:Hid (Calls Tryz.prog 65 #[.string s] w fun x w'=>∃ m,x=.returned (.tuple #[gJ m,.agg #[.int .i64 e,.int .i64 p]])/\Hid (Below w.heap.size w w'))) :
  Calls Tryz.prog 36 #[.string s] w fun x w'=>x=.returned (.tuple #[.int .i64 e,.int .i64 p])/\Hid (Below w.heap.size w w'):=by
 go_enter Tryz.func36,Tryz.ntmps36
 go_wp2_with (go_at_call 65;refine (aa HA).mono ?_;clear HA;rintro x w2 ⟨m,hx,HB⟩;rw [gJ] at hx;subst hx)
 go_quiet (fail)
 go_wp2_with fail
 go_ret2
 exact ⟨rfl,Oo HB rfl⟩
theorem LD {w:World} {s:ByteArray} (ht:Hid (Lib.Utf8Tabs 4 5 w)):Hid (Lib.Utf8Tabs 4 5 (rd4 w s)):=by
 have hlt:=lT (aa ht)
 have hb:=uo w s
 exact iM (aa ht) (hb.block _ (by omega)) (hb.block _ (by omega))
theorem zu {w:World} {s:ByteArray} (hs:s.size<=60) (ht:Hid (Lib.Utf8Tabs 4 5 w)) {y:Int×Int} (hR:Hid (kX s=.error y)) :
  Calls Tryz.prog 65 #[.string s] w fun x w'=>∃ m,x=.returned (.tuple #[gJ m,.agg #[.int .i64 y.1,.int .i64 y.2]])/\Hid (Below w.heap.size w w'):=by
 have hsz:=Lu w s
 refine (Qr (K:=fun _ m=>m=nd0) hs (hide ((Ls (j:=w.heap.size+1+1+1) hs (LD ht) (Qq w s) hR).mono fun x w' h=>⟨h.1,nd0,hide ((XE w s).below (aa h.2) hsz),hide ((uo w s).trans ((aa h.2).mono (uo w s).size)),aaB (aa h.2) hsz,rfl⟩))).mono ?_
 rintro x w' ⟨m,w2,hx,hb,hk,-⟩
 have hm:m=nd0:=aa hk
 subst hm
 have hn:¬ (y.1=0/\60<nd0.sz):=fun h=>absurd h.2 (by decide)
 rw [if_neg hn,if_neg hn] at hx
 exact ⟨nd0,hx,hb⟩
theorem vH {w:World} {s:ByteArray} (hs:s.size<=60) (ht:Hid (Lib.Utf8Tabs 4 5 w)) {z:Pn} (hR:Hid (kX s=.ok z)) :
  Calls Tryz.prog 65 #[.string s] w fun x w'=>∃ m,x=.returned (.tuple #[gJ m,.agg #[.int .i64 (if 60<z.2 then 5 else 0),.int .i64 0]])/\Hid (Below w.heap.size w w')/\Hid (a_ w' (fun k=>w.heap.size<=k) m z):=by
 have hsz:=Lu w s
 have h4:=XE w s
 have hb4:=uo w s
 have hA:=Oj (j:=w.heap.size+1+1+1) hs (LD ht) (Qq w s) (hide h4.v) hR
 refine (Qr (e:=0) (p:=0) (K:=fun w' m=>a_ w' (fun k=>w.heap.size+4<k) m z) hs (hide (hA.mono ?_))).mono ?_
 ·rintro x w' ⟨hx,m,HU,HJ,HN⟩
  have hu:=aa HU
  refine ⟨hx,m,hide ⟨(hu.block _ (by omega) (by omega)).trans h4.r,(hu.block _ (by omega) (by omega)).trans h4.g,aa HJ⟩,hide ⟨hu.os.trans hb4.os,hu.tape.trans hb4.tape,hu.output.trans hb4.output,Nat.le_trans hb4.size hu.size,fun k hk=>(hu.block k (by omega) (by omega)).trans (hb4.block k hk)⟩,by have:=hu.size;omega,a_.move HN fun k hk _=>⟨rfl,by omega⟩⟩
 ·rintro x w' ⟨m,w2,hx,hb,hk,h4',hle,ho⟩
  have hm:m.sz=z.2:=(aa hk).1
  have he:(0:Int)=0/\60<m.sz↔60<z.2:=by rw [hm];exact ⟨fun h=>h.2,fun h=>⟨rfl,h⟩⟩
  refine ⟨m,?_,hb,a_.move hk fun k h1 h2=>⟨ho k h2 (by omega) (by omega),by omega⟩⟩
  rw [hx]
  by_cases hz:60<z.2
  ·rw [if_pos (he.2 hz),if_pos (he.2 hz),if_pos hz]
  ·rw [if_neg (fun h=>hz (he.1 h)),if_neg (fun h=>hz (he.1 h)),if_neg hz]
theorem TE (w:World) (s:ByteArray) (ht:Hid (Lib.Utf8Tabs 4 5 w)) :
  Calls Tryz.prog 36 #[.string s] w fun x w'=>x=.returned (.tuple #[.int .i64 (xM s).1,.int .i64 (xM s).2])/\Hid (Below w.heap.size w w'):=by
 rw [BR]
 by_cases hl:60<s.size
 ·rw [aZ,if_pos hl]
  exact Dp (hide ((FL (w:=w) (by omega)).mono fun x w' h=>⟨nd0,h.1,h.2⟩))
 ·rw [zo s hl]
  cases hR:kX s with
  | error y=>exact Dp (hide (zu (by omega) ht (hide hR)))
  | ok z=>
   dsimp only
   have h:=Dp (hide ((vH (w:=w) (by omega) ht (hide hR)).mono fun x w' ⟨m,a,b,_⟩=>⟨m,a,b⟩))
   by_cases hz:60<z.2
   ·rw [if_pos hz] at h ⊢;exact h
   ·rw [if_neg hz] at h ⊢;exact h
end Go.Proofs.YtfolanohokflkaaGreatDoor
namespace Go.Proofs.YtfolanohokflkaaGreatDoor
open Go.RowKit
theorem FM {Q:Ending->World->Prop} {a:Act} {W:World} {rb:Nat} {n:Nd} {e:Int} (h2:a.tmps.getD 4 undef=.pointer (some ⟨rb,0,none⟩)) (h3:a.tmps.getD 5 undef=.int .i64 e) (hd:a.defers=[]) (hat:Hid (ax W rb n)) (hq:Q (.returned (.tuple #[gJ n,.int .i64 e])) W):bodyPost Tryz.prog Tryz.f55 Q .ret a W:=by
 obtain ⟨k0,k1,k2,k3,k4,k5,k6⟩:=ax.cells (aa hat)
 refine bodyPost_ret (v:=.tuple #[gJ n,.int .i64 e]) ?_ hd hq
 have h2':a.tmps[4]?.getD undef=.pointer (some ⟨rb,0,none⟩):=by simpa using h2
 have h3':a.tmps[5]?.getD undef=.int .i64 e:=by simpa using h3
 simp [results,Tryz.results55,h2',h3',go_sem,k0,k1,k2,k3,k4,k5,k6,gJ]
theorem TG {Q:Ending->World->Prop} {a:Act} {w w2 W:World} {m:Nd} {z:Pn} (h2:a.tmps.getD 4 undef=.pointer (some ⟨w.heap.size,0,none⟩)) (h3:a.tmps.getD 5 undef=.int .i64 0) (hd:a.defers=[]) (hat:Hid (ax W w.heap.size nd0)) (hb:Hid (Below w.heap.size w W)) (hW:Hid (∀ k,k<w2.heap.size->W.heap[k]? = w2.heap[k]?)) (hn:Hid (a_ w2 (fun k=>w.heap.size<k) m z))
  (hq:∀ W',Hid (Below w.heap.size w W')->Hid (a_ W' (fun k=>w.heap.size<k) m z)->Q (.returned (.tuple #[gJ m,.int .i64 0])) W'):bodyPost Tryz.prog Tryz.f55 Q .ret a (bO W w.heap.size m):=by
 refine FM (n:=m) h2 h3 hd (hide (ax.set (aa hat))) (hq _ ?_ ?_)
 ·have b:=aa hb
  exact Below.setCell (Below.setCell (Below.setCell (Below.setCell (Below.setCell (Below.setCell (Below.setCell b (Nat.le_refl _) _) (Nat.le_refl _) _) (Nat.le_refl _) _) (Nat.le_refl _) _) (Nat.le_refl _) _) (Nat.le_refl _) _) (Nat.le_refl _) _
 ·exact a_.move hn fun k hk hl=>⟨(dm (by omega)).trans (aa hW k hl),hk⟩
set_option maxRecDepth 100000 in
set_option maxHeartbeats 4000000 in
theorem XF {w:World} {s:ByteArray} {B:Int} (hs:s.size<=60) (ht:Hid (Lib.Utf8Tabs 4 5 w)) {z:Pn} (hR:Hid (kX s=.ok z)) (hz:¬ 60<z.2) (hB0:0<=B) (hB1:B<=200) :
  Calls Tryz.prog 55 #[.string s,.int .i64 B] w fun x w'=>∃ m,x=.returned (.tuple #[gJ m,.int .i64 0])/\Hid (Below w.heap.size w w')/\Hid (a_ w' (fun k=>w.heap.size<k) m z):=by
 have htb:Hid (Lib.Utf8Tabs 4 5 (w.alloc (aB nd0))):=by
  have hlt:=lT (aa ht)
  exact iM (aa ht) (Below.heap_alloc w _ 4 (by omega)) (Below.heap_alloc w _ 5 (by omega))
 have hrd:=vH (w:=w.alloc (aB nd0)) hs htb hR
 rw [if_neg hz] at hrd
 have XG:=hide hrd
 have hat:=ax.new w nd0
 have HAT:=hide hat
 have hsz:w.heap.size<(w.alloc (aB nd0)).heap.size:=by simp
 have HA:Hid (Below w.heap.size w (w.alloc (aB nd0))):=(Below.refl _ _).alloc (Nat.le_refl _) _
 have d1:decide (B<0)=false:=by simp;omega
 have d2:decide (200<B)=false:=by simp;omega
 clear hrd ht htb hR hz hat
 go_enter Tryz.func55,Tryz.ntmps55
 go_wp2_with (go_at_call 65;refine (aa XG).mono ?_;clear XG;simp only [gJ];rintro x w2 ⟨m,rfl,HB2,iI⟩;have sZ:Hid (ax w2 w.heap.size nd0):=((aa HB2).block _ hsz).trans (aa HAT);have hs2:=(aa HB2).size;have Yt:=ax.alloc (ax.alloc sZ (aB m)) (iP 0 0);obtain ⟨c0,c1,c2,c3,c4,c5,c6⟩:=ax.cells (aa Yt);have cf:=ax.fz (aa Yt))
 have lQ:Hid (a_ w2 (fun k=>w.heap.size<k) m z):=a_.move iI fun k hk _=>⟨rfl,by omega⟩
 have HB3:Hid (Below w.heap.size w ((w2.alloc (aB m)).alloc (iP 0 0))):=by
  have b2:=(aa HA).trans ((aa HB2).mono (by omega))
  exact (b2.alloc b2.size _).alloc (by have:=b2.size;simp;omega) _
 have HW3:Hid (∀ k,k<w2.heap.size->((w2.alloc (aB m)).alloc (iP 0 0)).heap[k]? = w2.heap[k]?):=fun k hk=>(Below.heap_alloc _ _ k (by simp;omega)).trans (Below.heap_alloc w2 _ k hk)
 clear c0 c1 c2 c3 c4 c5 c6 cf
 generalize (w2.alloc (aB m)).alloc (iP 0 0)=W3 at *
 exact TG rfl rfl rfl Yt HB3 HW3 lQ fun W' h1 h2=>⟨m,rfl,h1,h2⟩
end Go.Proofs.YtfolanohokflkaaGreatDoor
namespace Go.Proofs.YtfolanohokflkaaGreatDoor
open Go.RowKit
theorem uI {Q:Ending->World->Prop} {a:Act} {W:World} {rb:Nat} {n:Nd} {e:Int} (h2:a.tmps.getD 6 undef=.pointer (some ⟨rb,0,none⟩)) (h3:a.tmps.getD 7 undef=.int .i64 e) (hd:a.defers=[]) (hat:Hid (ax W rb n)) (hq:Q (.returned (.tuple #[gJ n,.int .i64 e])) W):bodyPost Tryz.prog Tryz.f38 Q .ret a W:=by
 obtain ⟨k0,k1,k2,k3,k4,k5,k6⟩:=ax.cells (aa hat)
 refine bodyPost_ret (v:=.tuple #[gJ n,.int .i64 e]) ?_ hd hq
 have h2':a.tmps[6]?.getD undef=.pointer (some ⟨rb,0,none⟩):=by simpa using h2
 have h3':a.tmps[7]?.getD undef=.int .i64 e:=by simpa using h3
 simp [results,Tryz.results38,h2',h3',go_sem,k0,k1,k2,k3,k4,k5,k6,gJ]
theorem Ee {Q:Ending->World->Prop} {a:Act} {w w2 W:World} {m:Nd} {z:Pn} (h2:a.tmps.getD 6 undef=.pointer (some ⟨w.heap.size,0,none⟩)) (h3:a.tmps.getD 7 undef=.int .i64 0) (hd:a.defers=[]) (hat:Hid (ax W w.heap.size nd0)) (hb:Hid (Below w.heap.size w W)) (hW:Hid (∀ k,k<w2.heap.size->W.heap[k]? = w2.heap[k]?)) (hn:Hid (a_ w2 (fun k=>w.heap.size<k) m z))
  (hq:∀ W',Hid (Below w.heap.size w W')->Hid (a_ W' (fun k=>w.heap.size<k) m z)->Q (.returned (.tuple #[gJ m,.int .i64 0])) W'):bodyPost Tryz.prog Tryz.f38 Q .ret a (bO W w.heap.size m):=by
 refine uI (n:=m) h2 h3 hd (hide (ax.set (aa hat))) (hq _ ?_ ?_)
 ·have b:=aa hb
  exact Below.setCell (Below.setCell (Below.setCell (Below.setCell (Below.setCell (Below.setCell (Below.setCell b (Nat.le_refl _) _) (Nat.le_refl _) _) (Nat.le_refl _) _) (Nat.le_refl _) _) (Nat.le_refl _) _) (Nat.le_refl _) _) (Nat.le_refl _) _
 ·exact a_.move hn fun k hk hl=>⟨(dm (by omega)).trans (aa hW k hl),hk⟩
set_option maxRecDepth 100000 in
set_option maxHeartbeats 4000000 in
theorem xG {w:World} {s u:ByteArray} {B:Int} (hs:s.size<=60) (hu:u.size<=60) (ht:Hid (Lib.Utf8Tabs 4 5 w)) {z:Pn} (hR:Hid (kX s=.ok z)) (hz:¬ 60<z.2) (hB0:0<=B) (hB1:B<=200) :
  Calls Tryz.prog 38 #[.string s,.string u,.int .i64 B] w fun x w'=>∃ m,x=.returned (.tuple #[gJ m,.int .i64 0])/\Hid (Below w.heap.size w w')/\Hid (a_ w' (fun k=>w.heap.size<k) m z):=by
 have htb:Hid (Lib.Utf8Tabs 4 5 (w.alloc (aB nd0))):=by
  have hlt:=lT (aa ht)
  exact iM (aa ht) (Below.heap_alloc w _ 4 (by omega)) (Below.heap_alloc w _ 5 (by omega))
 have XG:=hide (XF (w:=w.alloc (aB nd0)) hs htb hR hz hB0 hB1)
 have hat:=ax.new w nd0
 have HAT:=hide hat
 have hsz:w.heap.size<(w.alloc (aB nd0)).heap.size:=by simp
 have HA:Hid (Below w.heap.size w (w.alloc (aB nd0))):=(Below.refl _ _).alloc (Nat.le_refl _) _
 have d1:decide ((60:Int)<(u.size:Int))=false:=by simp;omega
 clear ht htb hR hz hat
 go_enter Tryz.func38,Tryz.ntmps38
 go_wp2_with (go_at_call 55;refine (aa XG).mono ?_;clear XG;simp only [gJ];rintro x w2 ⟨m,rfl,HB2,iI⟩;have sZ:Hid (ax w2 w.heap.size nd0):=((aa HB2).block _ hsz).trans (aa HAT);have hs2:=(aa HB2).size;obtain ⟨c0,c1,c2,c3,c4,c5,c6⟩:=ax.cells (aa sZ);have cf:=ax.fz (aa sZ))
 have lQ:Hid (a_ w2 (fun k=>w.heap.size<k) m z):=a_.move iI fun k hk _=>⟨rfl,by omega⟩
 have HB3:Hid (Below w.heap.size w w2):=(aa HA).trans ((aa HB2).mono (by omega))
 clear c0 c1 c2 c3 c4 c5 c6 cf
 exact Ee rfl rfl rfl sZ HB3 (hide fun k _=>rfl) lQ fun W' h1 h2=>⟨m,rfl,h1,h2⟩
end Go.Proofs.YtfolanohokflkaaGreatDoor
namespace Go.Proofs.YtfolanohokflkaaGreatDoor
open Go.RowKit
structure NS (w X:World) (pb:Nat) (m:Nd) (t1:TB):Prop where
 nd:ax X pb m
 bl:Below w.heap.size w X
 tb:bf X t1 nZ (ak nZ) [] []
theorem NS.under {w X Y:World} {pb:Nat} {m:Nd} {t1:TB} (hb:Hid (Below X.heap.size X Y)) (h:Hid (NS w X pb m t1)):Hid (NS w Y pb m t1):=
 ⟨((aa hb).block _ (Array.getElem?_eq_some_iff.1 (aa h).nd).1).trans (aa h).nd,(aa h).bl.trans ((aa hb).mono (aa h).bl.size),aa (bf.below (hide (aa h).tb) (aa hb))⟩
theorem NS.cells {w X:World} {pb:Nat} {m:Nd} {t1:TB} (h:Hid (NS w X pb m t1)):X.cell? ⟨pb,0,none⟩=some (.int .i64 m.sh)/\X.cell? ⟨pb,1,none⟩=some (.slice m.pa m.pn m.pc)/\X.cell? ⟨pb,2,none⟩=some (.string m.ss)/\X.cell? ⟨pb,3,none⟩=some (.int .i64 m.le)/\X.cell? ⟨pb,4,none⟩=some (.int .i64 m.mo)/\X.cell? ⟨pb,5,none⟩=some (.int .i64 m.fa)/\X.cell? ⟨pb,6,none⟩=some (.int .i64 m.sz):=ax.cells (aa h).nd
theorem NS.after {w X Y:World} {pb:Nat} {m:Nd} {t1 t':TB} (h:Hid (NS w X pb m t1)) (hf:Hid (bq t1 t' X Y)) (hp:¬ TF t1 pb):Hid (ax Y pb m):=((aa hf).block pb (Array.getElem?_eq_some_iff.1 (aa h).nd).1 hp).trans (aa h).nd
theorem ax.under {W W':World} {pb:Nat} {m:Nd} (hb:Hid (Below W.heap.size W W')) (h:Hid (ax W pb m)):Hid (ax W' pb m):=
 ((aa hb).block _ (Array.getElem?_eq_some_iff.1 (aa h)).1).trans (aa h)
end Go.Proofs.YtfolanohokflkaaGreatDoor
