import Derived.Test.YtfolanohokflkaaGreatDoorNdU
import Derived.WalkKit
import Derived.WalkSpells
import Derived.WalkLawsBesides
import Derived.WalkMore
import Derived.Defers
import Derived.Recover
import Derived.KernelRfl
import Derived.Deep.QuietTactic
import Derived.BigQuiet
import Derived.Deep.RegionHeld3
import Derived.Test.YtfolanohokflkaaGreatDoorPSame
namespace Go.Proofs.YtfolanohokflkaaGreatDoor
open Go.RowKit
section
variable {w0 w:World} {b:Nat} {s:ByteArray} {d:Int} {l:List Sy}
set_option maxRecDepth 100000 in
set_option maxHeartbeats 8000000 in
theorem adU {sub:List Sy->bn Pn} (HA:Hid (oF 250 sub b s d)) (SG:Hid (WC sub)):oF 218 (qU s.size sub 38 (jg true)) b s d:=by
 intro w l h
 rw [KV]
 have hbw:=PL.lt h
 have dI:=jB h (aB nd0)
 have zW:Hid (∀ w',Hid (Up b (w.alloc (aB nd0)) w')->Hid (Up b w w')):=fun w' hu=>jA h hu
 have BG:Hid (∀ w' l' n,Hid (PL (w.alloc (aB nd0)) w' b s d l')->Hid (PL w (bH w' w.heap.size n) b s d l')):=fun w' l' n h'=>nU h h' n
 have HAT:=hide (au.new w nd0)
 have hsz1:(w.alloc (aB nd0)).heap.size=w.heap.size+1:=by simp
 clear h
 cases hi:uz s.size sub 38 l with
 | error y=>
  have HI:=hide hi
  clear hi
  go_enter Tryz.func218,Tryz.ntmps218
  go_wp2_with (go_at_call 217;refine (KW (zl (by decide) HA SG dI) HI).mono ?_;rintro x w3 ⟨rfl,HU⟩)
  exact ⟨rfl,rfl,aa zW _ HU⟩
 | ok y=>
  obtain ⟨ps,l1⟩:=y
  have HI:=hide hi
  clear hi
  go_enter Tryz.func218,Tryz.ntmps218
  go_wp2_with (first
   | (go_at_call 217;refine (PR (zl (by decide) HA SG dI) HI).mono ?_;clear dI;rintro x w2 ⟨ao,cap,aM,rfl,iU,hn1,adL,HT2⟩)
   | (go_at_call 216;refine (vw w2 2 ao cap aM ps hn1 (by omega) (aa iU).1 (aa iU).2.1.1 (fun i h h'=>((aa iU).2.1.2 i h h').1) (aa iU).2.2).mono ?_;simp only [gm];rintro x w3 ⟨rfl,HB3⟩;have HT3:=PL.below HT2 (aa HB3);have nS:=jf.below iU (aa HB3);clear HT2 iU HB3;have HR3:=au.up HAT (PL.up HT3) (by omega);obtain ⟨c0,c1,c2,c3,c4,c5,c6⟩:=au.cells (aa HR3);have cf:=au.fz (aa HR3)))
  change bodyPost _ _ _ _ _ (bH w3 w.heap.size ⟨2,ao,aM.length,cap,⟨#[]⟩,0,0,0,vG ps⟩)
  refine jC (rb:=w.heap.size) (n:=⟨2,ao,aM.length,cap,⟨#[]⟩,0,0,0,vG ps⟩) 2 rfl rfl rfl (hide (au.set (aa HR3))) ?_
  exact ⟨_,rfl,aV.move (hide (PO true (aa nS))) fun j hj hl=>⟨cO (by omega),by omega⟩,aa BG _ _ _ HT3⟩
set_option maxRecDepth 100000 in
set_option maxHeartbeats 8000000 in
theorem ZJ {sub:List Sy->bn Pn} (HA:Hid (oF 218 sub b s d)) (SG:Hid (WC sub)):oF 147 (qU s.size sub 124 (jg false)) b s d:=by
 intro w l h
 rw [KV]
 have hbw:=PL.lt h
 have dI:=jB h (aB nd0)
 have zW:Hid (∀ w',Hid (Up b (w.alloc (aB nd0)) w')->Hid (Up b w w')):=fun w' hu=>jA h hu
 have BG:Hid (∀ w' l' n,Hid (PL (w.alloc (aB nd0)) w' b s d l')->Hid (PL w (bH w' w.heap.size n) b s d l')):=fun w' l' n h'=>nU h h' n
 have HAT:=hide (au.new w nd0)
 have hsz1:(w.alloc (aB nd0)).heap.size=w.heap.size+1:=by simp
 clear h
 cases hi:uz s.size sub 124 l with
 | error y=>
  have HI:=hide hi
  clear hi
  go_enter Tryz.func147,Tryz.ntmps147
  go_wp2_with (go_at_call 217;refine (KW (xw (by decide) HA SG dI) HI).mono ?_;rintro x w3 ⟨rfl,HU⟩)
  exact ⟨rfl,rfl,aa zW _ HU⟩
 | ok y=>
  obtain ⟨ps,l1⟩:=y
  have HI:=hide hi
  clear hi
  go_enter Tryz.func147,Tryz.ntmps147
  go_wp2_with (first
   | (go_at_call 217;refine (PR (xw (by decide) HA SG dI) HI).mono ?_;clear dI;rintro x w2 ⟨ao,cap,aM,rfl,iU,hn1,adL,HT2⟩)
   | (go_at_call 216;refine (vw w2 1 ao cap aM ps hn1 (by omega) (aa iU).1 (aa iU).2.1.1 (fun i h h'=>((aa iU).2.1.2 i h h').1) (aa iU).2.2).mono ?_;simp only [gm];rintro x w3 ⟨rfl,HB3⟩;have HT3:=PL.below HT2 (aa HB3);have nS:=jf.below iU (aa HB3);clear HT2 iU HB3;have HR3:=au.up HAT (PL.up HT3) (by omega);obtain ⟨c0,c1,c2,c3,c4,c5,c6⟩:=au.cells (aa HR3);have cf:=au.fz (aa HR3)))
  change bodyPost _ _ _ _ _ (bH w3 w.heap.size ⟨1,ao,aM.length,cap,⟨#[]⟩,0,0,0,vG ps⟩)
  refine jC (rb:=w.heap.size) (n:=⟨1,ao,aM.length,cap,⟨#[]⟩,0,0,0,vG ps⟩) 2 rfl rfl rfl (hide (au.set (aa HR3))) ?_
  exact ⟨_,rfl,aV.move (hide (PO false (aa nS))) fun j hj hl=>⟨cO (by omega),by omega⟩,aa BG _ _ _ HT3⟩
set_option maxRecDepth 100000 in
set_option maxHeartbeats 8000000 in
theorem PU {R:bn Pn} (HG:Hid (∀ w1,Hid (PL w1 w1 b s d l)->Calls Tryz.prog 320 #[.pointer (some ⟨b,0,none⟩)] w1 (Gj R w1 b s d))) (h:Hid (PL w w b s d l)) (KN:Hid (hd l=40)) :
  Calls Tryz.prog 304 #[.pointer (some ⟨b,0,none⟩)] w (Gj R w b s d):=by
 have hbw:=PL.lt h
 have dI:=jB h (aB nd0)
 have zW:Hid (∀ w',Hid (Up b (w.alloc (aB nd0)) w')->Hid (Up b w w')):=fun w' hu=>jA h hu
 have BG:Hid (∀ w' l' n,Hid (PL (w.alloc (aB nd0)) w' b s d l')->Hid (PL w (bH w' w.heap.size n) b s d l')):=fun w' l' n h'=>nU h h' n
 have HAT:=hide (au.new w nd0)
 have hsz1:(w.alloc (aB nd0)).heap.size=w.heap.size+1:=by simp
 clear h
 cases R with
 | error y=>
  go_enter Tryz.func304,Tryz.ntmps304
  go_wp2_with (first
   | (go_at_call 251;refine (dX dI KN).mono ?_;clear dI;rintro x w1 ⟨rfl,HS⟩)
   | (go_at_call 320;refine (kN (aa HG _ (PL.base HS)) (hide rfl)).mono ?_;rintro x w2 ⟨rfl,HU⟩;have lv:=hide ((PL.up HS).trans (aa HU))))
  exact ⟨rfl,rfl,aa zW _ lv⟩
 | ok y=>
  obtain ⟨z,l1⟩:=y
  go_enter Tryz.func304,Tryz.ntmps304
  go_wp2_with (first
   | (go_at_call 251;refine (dX dI KN).mono ?_;clear dI;rintro x w1 ⟨rfl,HS⟩)
   | (go_at_call 320;refine (kP (aa HG _ (PL.base HS)) (hide rfl)).mono ?_;simp only [gm];rintro x w2 ⟨n,rfl,HN,HS2⟩;have HT2:=PL.join (PL.up HS) HS2;have hs1:=(PL.up HS).size;have HR2:=au.up HAT (PL.up HT2) (by omega);obtain ⟨c0,c1,c2,c3,c4,c5,c6⟩:=au.cells (aa HR2);have cf:=au.fz (aa HR2)))
  change bodyPost _ _ _ _ _ (bH w2 w.heap.size n)
  refine jC (rb:=w.heap.size) (n:=n) 2 rfl rfl rfl (hide (au.set (aa HR2))) ?_
  exact ⟨n,rfl,aV.move HN fun j hj hl=>⟨cO (by omega),by omega⟩,aa BG _ _ _ HT2⟩
end
theorem PV {a:List Sy->bn Int} {c:List Sy->bn Pn} (h:ou a c) {l l':List Sy} {v:Pn} (e:c l=.ok (v,l')):a l=.ok (v.2,l')/\0<=v.2/\v.2<=61:=by
 have h1:=(h l).1
 rw [e] at h1
 exact ⟨h1,(h l).2 _ _ e⟩
theorem PW {a:List Sy->bn Int} {c:List Sy->bn Pn} (h:ou a c) (hl:MN a):WC c:=fun l v l' e=>by
 obtain ⟨h1,h2,h3⟩:=PV h e
 exact ⟨hl l _ h1,h2,h3⟩
theorem ace {a:List Sy->bn Int} {c:List Sy->bn Pn} (h:ou a c):BdP c:=fun _ _ _ e=>(PV h e).2
theorem ZK {n:Nat} {a:List Sy->bn Int} {c:List Sy->bn Pn} (h:ou a c) (hl:Shr a):adT n c:=fun l v l' e=>by
 have h1:=tJ (n:=n) h (l.length+1) l
 have h2:=h1.1
 rw [e] at h2
 exact ⟨tH (n:=n) hl (l.length+1) (y:=(v.2,l')) h2,h1.2 _ _ e⟩
theorem C8 {b:Nat} {s:ByteArray} {d:Int} {k:Nat} (h:oF 304 (ek s.size k) b s d):oF 147 (fJ s.size (ek s.size k)) b s d:=by
 have hs:=x8 (n:=s.size) k
 have hl:=EJ s.size k
 have hi:oF 280 (fun l=>dW s.size (ek s.size k) (l.length+1) l) b s d:=fun w l hp=>adO (hide h) (hide (ace hs)) hp
 have hr:=aeE (hide hi) (hide (ZK hs hl))
 have hb:=adU (hide hr) (hide (PW (BM hs) (Jf hl)))
 exact ZJ (hide hb) (hide (PW (BN (BM hs) 38 true) (EI hl)))
theorem aaS (b:Nat) (s:ByteArray):∀ (k:Nat),k<=8->oF 304 (ek s.size k) b s (8 - (k:Int))
 | 0,_=>by
  intro w l h
  rw [ek]
  by_cases KN:hd l=40
  ·rw [if_pos KN]
   exact PU (fun w1 h1=>KM h1) h KN
  ·rw [if_neg KN]
   exact aaR h KN
 | k+1,hk=>by
  intro w l h
  rw [ek]
  by_cases KN:hd l=40
  ·rw [if_pos KN]
   have hc:=C8 (aaS b s k (by omega))
   have e:(8 - ((k+1:Nat):Int))+1=8 - (k:Int):=by omega
   rw [<-e] at hc
   exact PU (fun w1 h1=>acb (hide hc) (by omega) (by omega) h1 KN) h KN
  ·rw [if_neg KN]
   exact aaR h KN
theorem xx {w w':World} (h:Hid (Up w.heap.size w w')):Hid (Below w.heap.size w w'):=
 ⟨(aa h).os,(aa h).tape,(aa h).output,(aa h).size,fun k hk=>(aa h).block k hk (Nat.ne_of_lt hk)⟩
theorem acf (w:World) (s:ByteArray) (hs:s.size<=60) (ht:Lib.Utf8Tabs 4 5 w):Hid (PL w (w.alloc (.cells #[.string s,.int .i64 0,.int .i64 0] 221)) w.heap.size s 0 (ai s 0)):=by
 have hlt:=lM ht
 refine ⟨0,⟨?_,?_,?_,?_,?_,by omega,?_,Nat.zero_le _,hs⟩,rfl⟩
 ·exact bz w [.string s,.int .i64 0,.int .i64 0] _ 0 _ rfl
 ·exact bz w [.string s,.int .i64 0,.int .i64 0] _ 1 _ rfl
 ·exact bz w [.string s,.int .i64 0,.int .i64 0] _ 2 _ rfl
 ·exact fun k=>World.frozen?_alloc_at _ _ _ _ rfl
 ·exact iE ht (Below.heap_alloc w _ 4 (by omega)) (Below.heap_alloc w _ 5 (by omega))
 ·exact Up.below ((Below.refl _ _).alloc (Nat.le_refl _) _)
def aeH (R:bn Pn) (n:Nat) (w:World) (x:Ending) (w':World):Prop:=
 match R with
 | .error y=>x=vF y.1 y.2/\Hid (Below w.heap.size w w')
 | .ok y=>(hd y.2<0->∃ m,x=.returned (gm m)/\Hid (aV w' (fun k=>w.heap.size<=k) m y.1)/\Hid (Below w.heap.size w w'))/\(¬ hd y.2<0->x=vF 2 (AL n y.2)/\Hid (Below w.heap.size w w'))
abbrev aeI (s:ByteArray):Obj:=.cells #[.string s,.int .i64 0,.int .i64 0] 221
theorem NN {w w':World} {o:Obj} (h0:Up (w.heap.size+1) (w.alloc o) w'):Below w.heap.size w w':=by
 have e:(w.alloc o).heap.size=w.heap.size+1:=by simp
 have h:=h0
 rw [<-e] at h
 have h1:Below w.heap.size w (w.alloc o):=(Below.refl _ w).alloc (Nat.le_refl _) _
 exact h1.trans ((aa (xx (hide h))).mono (by simp))
theorem acg {w3 w4:World} {b:Nat} {n:Nd} (hu:Up b (w3.alloc (aB n)) w4) (hb:b<w3.heap.size):Hid (au w4 w3.heap.size n):=au.up (hide (au.new w3 n)) hu (by omega)
set_option maxRecDepth 100000 in
set_option maxHeartbeats 4000000 in
theorem qP (w:World) (s:ByteArray) (hs:s.size<=60) (ht:Hid (Lib.Utf8Tabs 4 5 w)) :
  Calls Tryz.prog 99 #[.string s] w (aeH (fJ s.size (ek s.size 8) (ai s 0)) s.size w):=by
 have hlt:=lM (aa ht)
 have ht1:Lib.Utf8Tabs 4 5 (w.alloc (aB nd0)):=iE (aa ht) (Below.heap_alloc w _ 4 (by omega)) (Below.heap_alloc w _ 5 (by omega))
 have hsz1:(w.alloc (aB nd0)).heap.size=w.heap.size+1:=by simp
 have HP:=acf (w.alloc (aB nd0)) s hs ht1
 rw [hsz1] at HP
 have HC:=hide (C8 (aaS (w.heap.size+1) s 8 (Nat.le_refl _)) _ _ (PL.base HP))
 have HAT:=hide (au.new w nd0)
 have hsz2:((w.alloc (aB nd0)).alloc (aeI s)).heap.size=w.heap.size+2:=by simp
 clear ht ht1 hlt
 cases hR:fJ s.size (ek s.size 8) (ai s 0) with
 | error y=>
  have HR:=hide hR
  clear hR
  go_enter Tryz.func99,Tryz.ntmps99
  go_wp2_with (first
   | (go_at_call 147;refine (kN (aa HC) HR).mono ?_;rintro x w2 ⟨rfl,HU⟩;have HB:=hide (NN ((PL.up HP).trans (aa HU)))))
  exact ⟨rfl,rfl,HB⟩
 | ok y=>
  obtain ⟨z,l1⟩:=y
  have HR:=hide hR
  clear hR
  have hge:=hd_ge' l1
  by_cases he:hd l1<0
  ·have HE:Hid (hd l1=-1):=by show _=_;omega
   go_enter Tryz.func99,Tryz.ntmps99
   go_wp2_with (first
    | (go_at_call 147;refine (kP (aa HC) HR).mono ?_;simp only [gm];rintro x w3 ⟨n,rfl,HN,mg⟩;have HT3:=PL.join (PL.up HP) mg;have hb3:=PL.lt HT3;have hs3:=(PL.up mg).size;have zh:=PL.alloc HT3 (aB n))
    | (go_at_call 148;refine (dG (PL.base zh) (-1) HE).mono ?_;rintro x w5 ⟨rfl,xE⟩;have qY:=PL.join (PL.up zh) xE;have kz:=acg (PL.up xE) hb3;have oO:=au.up HAT (PL.up qY) (by omega);obtain ⟨g0,g1,g2,g3,g4,g5,g6⟩:=au.cells (aa kz);obtain ⟨c0,c1,c2,c3,c4,c5,c6⟩:=au.cells (aa oO);have cf:=au.fz (aa oO)))
   change bodyPost _ _ _ _ _ (bH w5 w.heap.size n)
   refine jC (rb:=w.heap.size) (n:=n) 2 rfl rfl rfl (hide (au.set (aa oO))) ?_
   have HN5:Hid (aV (bH w5 w.heap.size n) (fun k=>w.heap.size<=k) n z):=aV.move HN fun j hj hl=>by
    have hj':w.heap.size+2<=j:=Nat.le_trans (Nat.le_of_eq hsz2.symm) hj
    refine ⟨?_,by omega⟩
    rw [cO (by omega),(PL.up xE).block j (by simp;omega) (by omega),Below.heap_alloc w3 _ j hl]
   exact ⟨fun _=>⟨n,rfl,HN5,zk (NN (PL.up qY)) (Nat.le_refl _)⟩,fun hh=>absurd he hh⟩
  ·have HE:Hid (¬ hd l1=-1):=by show ¬ _=_;omega
   go_enter Tryz.func99,Tryz.ntmps99
   go_wp2_with (first
    | (go_at_call 147;refine (kP (aa HC) HR).mono ?_;simp only [gm];rintro x w3 ⟨n,rfl,HN,mg⟩;have HT3:=PL.join (PL.up HP) mg;have hb3:=PL.lt HT3;have zh:=PL.alloc HT3 (aB n))
    | (go_at_call 148;refine (rM zh (-1) HE).mono ?_;rintro x w5 ⟨rfl,HU⟩))
   exact ⟨rfl,fun hh=>absurd hh (Int.not_lt.2 he),fun _=>⟨rfl,hide (NN (aa HU))⟩⟩
abbrev WE (e p:Int):Value:=.iface 74 (.agg #[.int .i64 e,.int .i64 p])
theorem WG {P:Program} {c:Code} {Q Q':Exit->Act->List Frame->World->Prop} {a:Act} {cs:List Frame} {w:World} (h:c.wpS P Q a cs w) (hq:∀ e a' cs' w',Q e a' cs' w'->Q' e a' cs' w'):c.wpS P Q' a cs w:=
 fun b k hb hr=>let ⟨e,a',cs',w',q,r⟩:=h b k hb hr;⟨e,a',cs',w',hq _ _ _ _ q,r⟩
theorem C9 {P:Program} {x y:Code} {Q:Exit->Act->List Frame->World->Prop} {a:Act} {cs:List Frame} {w:World} (A:Act) (C:List Frame) (W:World) (h:x.wpS P (fun e a' cs' w'=>e=.normal/\a'=A/\cs'=C/\w'=W) a cs w) (h2:y.wpS P Q A C W):(Code.seq x y).wpS P Q a cs w:=
 wpS_seq (WG h fun _ _ _ _ ⟨e1,e2,e3,e4⟩=>by subst e1;subst e2;subst e3;subst e4;exact h2)
theorem NP (v:Value) (w:World):(Instr.typeAssert (.iface 74 v) 20 74 true).run Tryz.prog w=.ok (.tuple #[v,.bool true]) w:=by kernel_rfl
def yI (q v:Value):Act:={ tmps:=#[q,v,undef,undef,v,undef,undef,undef,undef,undef,undef,undef,undef,undef,undef,undef],defers:=[] }
def WH (c₀:Frame) (cs cs':List Frame) (R:Ending->FrameMode->World->Prop):Exit->Act->World->Prop:=fun e a' w'=>bodyPostS Tryz.prog Tryz.f70 c₀ cs R e a' cs' w'
set_option maxRecDepth 100000 in
set_option maxHeartbeats 4000000 in
theorem qC (q:Addr) (w:World) :
  CallsD Tryz.prog 70 #[.pointer (some q)] .returning w fun e u' w'=>e=.returned (.tuple #[])/\u'=.returning/\w'=w:=by
 refine callsD_of_wpS Tryz.func70 rfl fun c₀ cs hu=>?_
 refine C9 (yI (.pointer (some q)) .nilIface) (c₀::cs) w ?_ ?_
 ·apply wpS_region
  simp [wpOpsS,go_sem,recoverD,hu,Tryz.ntmps70,yI,Array.replicate]
 ·refine wpS_of_wp ?_
  unfold yI
  have HU:=hide hu
  clear hu
  change Code.wp _ _ (WH c₀ cs (c₀::cs) _) _ _
  go_wp2_with fail
  refine ⟨rfl,.returning,?_,_,results_none rfl _ _ _,rfl,rfl,rfl⟩
  rw [<-aa HU]
set_option maxRecDepth 100000 in
set_option maxHeartbeats 4000000 in
theorem yJ (b:Nat) (e p:Int) (u0 u1:Value) (older:List PanicEntry) (w:World) (h0:w.cell? ⟨b,0,none⟩=some u0) (h1:w.cell? ⟨b,1,none⟩=some u1) (hz:∀ k,w.frozen? ⟨b,k,none⟩=false) :
  CallsD Tryz.prog 70 #[.pointer (some ⟨b,0,none⟩)] (.panicking ({ v:=WE e p,recovered:=false }::older)) w fun x u' w'=>
   x=.returned (.tuple #[])/\u'=.panicking ({ v:=WE e p,recovered:=true }::older)/\w'=((w.setCell ⟨b,0,none⟩ (.int .i64 e)).setCell ⟨b,1,none⟩ (.int .i64 p)).alloc (.cells #[.int .i64 e,.int .i64 p] 74):=by
 refine callsD_of_wpS Tryz.func70 rfl fun c₀ cs hu=>?_
 refine C9 (yI (.pointer (some ⟨b,0,none⟩)) (WE e p)) ({ c₀ with mode:=.panicking ({ v:=WE e p,recovered:=true }::older) }::cs) w ?_ ?_
 ·apply wpS_region
  simp [wpOpsS,go_sem,recoverD,hu,Tryz.ntmps70,yI,Array.replicate]
 ·refine wpS_of_wp ?_
  unfold yI
  have hlt:=World.block_lt_of_cell? w _ h0
  have r0:(w.alloc (.cells #[.int .i64 e,.int .i64 p] 74)).cell? ⟨b,0,none⟩=some u0:=by rw [World.cell?_alloc_past _ _ _ hlt];exact h0
  have r1:(w.alloc (.cells #[.int .i64 e,.int .i64 p] 74)).cell? ⟨b,1,none⟩=some u1:=by rw [World.cell?_alloc_past _ _ _ hlt];exact h1
  have g0:(w.alloc (.cells #[.int .i64 e,.int .i64 p] 74)).frozen? ⟨b,0,none⟩=false:=by rw [World.frozen?_alloc_past _ _ _ hlt];exact hz 0
  have g1:(w.alloc (.cells #[.int .i64 e,.int .i64 p] 74)).frozen? ⟨b,1,none⟩=false:=by rw [World.frozen?_alloc_past _ _ _ hlt];exact hz 1
  have hf0:=hz 0
  have hf1:=hz 1
  have VM:=fun w1=>NP (.agg #[.int .i64 e,.int .i64 p]) w1
  clear hu hz
  change Code.wp _ _ (WH c₀ cs ({ c₀ with mode:=.panicking ({ v:=WE e p,recovered:=true }::older) }::cs) _) _ _
  go_wp2_with fail
  exact ⟨rfl,_,rfl,_,results_none rfl _ _ _,rfl,rfl,rfl⟩
def jl (s:ByteArray):Except (Int×Int) Pn:=match fJ s.size (ek s.size 8) (ai s 0) with
 | .error y=>.error y
 | .ok (z,l)=>if hd l<0 then .ok z else .error (2,AL s.size l)
theorem sK (s:ByteArray) (h:¬ 60<s.size):bG s=match jl s with
  | .error y=>.error y
  | .ok z=>if 60<z.2 then .error (5,0) else .ok z.1:=by
 rw [bG,if_neg h,jl]
 cases fJ s.size (ek s.size 8) (ai s 0) with
 | error y=>rfl
 | ok y=>
  obtain ⟨z,l⟩:=y
  show (if hd l<0 then (if 60<z.2 then Except.error ((5,0):Int×Int) else Except.ok z.1) else Except.error (2,AL s.size l))=_
  by_cases hl:hd l<0
  ·rw [if_pos hl];dsimp only;rw [if_pos hl]
  ·rw [if_neg hl];dsimp only;rw [if_neg hl]
theorem WI {w:World} {s:ByteArray} (hs:s.size<=60) (ht:Hid (Lib.Utf8Tabs 4 5 w)) {y:Int×Int} (hR:Hid (jl s=.error y)) :
  Calls Tryz.prog 99 #[.string s] w fun x w'=>x=vF y.1 y.2/\Hid (Below w.heap.size w w'):=by
 have h:=qP w s hs ht
 have hr:=aa hR
 rw [jl] at hr
 cases hc:fJ s.size (ek s.size 8) (ai s 0) with
 | error y'=>
  rw [hc] at h hr
  injection hr with hr
  subst hr
  exact h
 | ok u=>
  obtain ⟨z,l⟩:=u
  rw [hc] at h hr
  dsimp only at hr
  by_cases hl:hd l<0
  ·rw [if_pos hl] at hr;cases hr
  ·rw [if_neg hl] at hr
   injection hr with hr
   subst hr
   exact h.mono fun x w' hh=>hh.2 hl
theorem ZL {w:World} {s:ByteArray} (hs:s.size<=60) (ht:Hid (Lib.Utf8Tabs 4 5 w)) {z:Pn} (hR:Hid (jl s=.ok z)) :
  Calls Tryz.prog 99 #[.string s] w fun x w'=>∃ m,x=.returned (gm m)/\Hid (aV w' (fun k=>w.heap.size<=k) m z)/\Hid (Below w.heap.size w w'):=by
 have h:=qP w s hs ht
 have hr:=aa hR
 rw [jl] at hr
 cases hc:fJ s.size (ek s.size 8) (ai s 0) with
 | error y'=>
  rw [hc] at hr
  cases hr
 | ok u=>
  obtain ⟨z',l⟩:=u
  rw [hc] at h hr
  dsimp only at hr
  by_cases hl:hd l<0
  ·rw [if_pos hl] at hr
   injection hr with hr
   subst hr
   exact h.mono fun x w' hh=>hh.1 hl
  ·rw [if_neg hl] at hr;cases hr
theorem WJ {w:World} {s:ByteArray} {k j:Nat} (hs:s.size<=60) (ht:Hid (Lib.Utf8Tabs 4 5 w)) (hk:w.cell? ⟨k,0,none⟩=some (.string s)) {y:Int×Int} (hR:Hid (jl s=.error y)) :
  Calls Tryz.prog 98 #[.pointer (some ⟨k,0,none⟩),.pointer (some ⟨j,0,none⟩)] w fun x w'=>x=vF y.1 y.2/\Hid (Below w.heap.size w w'):=by
 go_enter Tryz.func98,Tryz.ntmps98
 go_wp2_with (go_at_call 99;refine (WI hs ht hR).mono ?_;rintro x w1 ⟨rfl,HB⟩)
 exact ⟨rfl,rfl,HB⟩
theorem WK {j:Nat} {w w1:World} {n:Nd} (h:Below w.heap.size w w1):Hid (Up j w (bH w1 j n)):=
 ⟨(KO w1 j n).trans h.os,(CY w1 j n).trans h.tape,(xq w1 j n).trans h.output,by rw [nT];exact h.size,fun k hk hj=>(cO hj).trans (h.block k hk)⟩
set_option maxRecDepth 100000 in
set_option maxHeartbeats 4000000 in
theorem ZM {w:World} {s:ByteArray} {k j:Nat} (hs:s.size<=60) (ht:Hid (Lib.Utf8Tabs 4 5 w)) (hk:w.cell? ⟨k,0,none⟩=some (.string s)) {m0:Nd} (hj:Hid (au w j m0)) {z:Pn} (hR:Hid (jl s=.ok z)) :
  Calls Tryz.prog 98 #[.pointer (some ⟨k,0,none⟩),.pointer (some ⟨j,0,none⟩)] w fun x w'=>x=.returned (.tuple #[])/\∃ m,Hid (Up j w w')/\Hid (au w' j m)/\Hid (aV w' (fun k=>w.heap.size<=k) m z):=by
 have hlt:=au.lt (aa hj)
 go_enter Tryz.func98,Tryz.ntmps98
 go_wp2_with (go_at_call 99;refine (ZL hs ht hR).mono ?_;simp only [gm];rintro x w1 ⟨m,rfl,HN,HB⟩;have HJ:=hide (au.move (aa hj) ((aa HB).block j hlt));obtain ⟨c0,c1,c2,c3,c4,c5,c6⟩:=au.cells (aa HJ);have cf:=au.fz (aa HJ))
 change bodyPost _ _ _ _ _ (bH w1 j m)
 go_end0
 exact ⟨rfl,m,WK (aa HB),hide (au.set (aa HJ)),aV.move HN fun i hi _=>⟨cO (by omega),hi⟩⟩
set_option maxRecDepth 100000 in
set_option maxHeartbeats 4000000 in
theorem KX {w:World} {s:ByteArray} {k j:Nat} (hs:s.size<=60) (ht:Hid (Lib.Utf8Tabs 4 5 w)) (hk:w.cell? ⟨k,0,none⟩=some (.string s)) {y:Int×Int} (hR:Hid (jl s=.error y)) :
  Calls Tryz.prog 41 #[.func (.func 98) #[] #[.pointer (some ⟨k,0,none⟩),.pointer (some ⟨j,0,none⟩)]] w fun x w'=>x=.returned (.agg #[.int .i64 y.1,.int .i64 y.2])/\Hid (Below w.heap.size w w'):=by
 have hmf:∀ (fn:Fn) (first cap:Array Value) (w:World),(Instr.makeFunc fn first cap).run Tryz.prog w=.ok (.func fn first cap) w:=fun _ _ _ _=>rfl
 have hkl:=World.block_lt_of_cell? w _ hk
 have hk1:(w.alloc (.cells #[.int .i64 0,.int .i64 0] 74)).cell? ⟨k,0,none⟩=some (.string s):=by rw [World.cell?_alloc_past _ _ _ hkl];exact hk
 have hlt:=lM (aa ht)
 have ht1:Hid (Lib.Utf8Tabs 4 5 (w.alloc (.cells #[.int .i64 0,.int .i64 0] 74))):=iE (aa ht) (Below.heap_alloc w _ 4 (by omega)) (Below.heap_alloc w _ 5 (by omega))
 have HW:=hide (WJ (j:=j) hs ht1 hk1 hR)
 clear hk hkl hR ht hk1 ht1
 go_enter_defers Tryz.func41,Tryz.ntmps41
 go_wp2_with (go_at_call 98;refine (aa HW).mono ?_;clear HW;rintro x w1 ⟨rfl,HB⟩)
 have hn:w.heap.size<(w.alloc (.cells #[.int .i64 0,.int .i64 0] 74)).heap.size:=by simp
 have q0:w1.cell? ⟨w.heap.size,0,none⟩=some (.int .i64 0):=by rw [(aa HB).cell (p:=⟨w.heap.size,0,none⟩) hn];exact bz w [.int .i64 0,.int .i64 0] _ 0 _ rfl
 have q1:w1.cell? ⟨w.heap.size,1,none⟩=some (.int .i64 0):=by rw [(aa HB).cell (p:=⟨w.heap.size,1,none⟩) hn];exact bz w [.int .i64 0,.int .i64 0] _ 1 _ rfl
 have fz:∀ k,w1.frozen? ⟨w.heap.size,k,none⟩=false:=fun k=>by rw [(aa HB).frozen (p:=⟨w.heap.size,k,none⟩) hn];exact World.frozen?_alloc_at _ _ _ _ rfl
 have hl1:=World.block_lt_of_cell? w1 _ q0
 refine leaves_cons (f:=70) (args:=#[.pointer (some ⟨w.heap.size,0,none⟩)]) (by simp) (by simp [go_sem]) ?_
 refine (yJ w.heap.size y.1 y.2 (.int .i64 0) (.int .i64 0) [] w1 q0 q1 fz).mono ?_
 rintro x u' w'' ⟨rfl,rfl,rfl⟩
 show Leaves _ _ _ _ [] .returning _
 refine ⟨.agg #[.int .i64 y.1,.int .i64 y.2],?_,rfl,?_⟩
 ·simp [results,Tryz.results41,go_sem,q0,q1,hl1]
 ·exact xx (((((Up.below ((Below.refl _ _).alloc (Nat.le_refl _) _)).trans (Up.below (aa HB))).trans (Up.set _ _ _ _)).trans (Up.set _ _ _ _)).trans (Up.below ((Below.refl _ _).alloc (Nat.le_refl _) _)))
theorem Up.mr {j:Nat} {w w1:World} (h:Up j w w1) (n k:Nat) (u:Value) (hn:w.heap.size<=n):Up j w (w1.setCell ⟨n,k,none⟩ u):=
 ⟨h.os,h.tape,h.output,by have:=h.size;simpa [World.setCell] using this,fun i hi hij=>(Below.heap_setCell w1 ⟨n,k,none⟩ u i (by show i≠n;omega)).trans (h.block i hi hij)⟩
set_option maxRecDepth 100000 in
set_option maxHeartbeats 4000000 in
theorem NQ {w:World} {s:ByteArray} {k j:Nat} (hs:s.size<=60) (ht:Hid (Lib.Utf8Tabs 4 5 w)) (hk:w.cell? ⟨k,0,none⟩=some (.string s)) {m0:Nd} (hj:Hid (au w j m0)) {z:Pn} (hR:Hid (jl s=.ok z)) :
  Calls Tryz.prog 41 #[.func (.func 98) #[] #[.pointer (some ⟨k,0,none⟩),.pointer (some ⟨j,0,none⟩)]] w fun x w'=>x=.returned (.agg #[.int .i64 0,.int .i64 0])/\∃ m,Hid (Up j w w')/\Hid (au w' j m)/\Hid (aV w' (fun k=>w.heap.size<k) m z):=by
 have hmf:∀ (fn:Fn) (first cap:Array Value) (w:World),(Instr.makeFunc fn first cap).run Tryz.prog w=.ok (.func fn first cap) w:=fun _ _ _ _=>rfl
 have hkl:=World.block_lt_of_cell? w _ hk
 have hjl:j<w.heap.size:=au.lt (aa hj)
 have hk1:(w.alloc (.cells #[.int .i64 0,.int .i64 0] 74)).cell? ⟨k,0,none⟩=some (.string s):=by rw [World.cell?_alloc_past _ _ _ hkl];exact hk
 have hj1:=au.alloc hj (.cells #[.int .i64 0,.int .i64 0] 74)
 have hlt:=lM (aa ht)
 have ht1:Hid (Lib.Utf8Tabs 4 5 (w.alloc (.cells #[.int .i64 0,.int .i64 0] 74))):=iE (aa ht) (Below.heap_alloc w _ 4 (by omega)) (Below.heap_alloc w _ 5 (by omega))
 have HW:=hide (ZM hs ht1 hk1 hj1 hR)
 have hnew:w.heap.size<(w.alloc (.cells #[.int .i64 0,.int .i64 0] 74)).heap.size:=by simp
 have c0:=bz w [.int .i64 0,.int .i64 0] 74 0 _ rfl
 have c1:=bz w [.int .i64 0,.int .i64 0] 74 1 _ rfl
 have hne:w.heap.size≠j:=by omega
 have HN:=hide hnew
 have C0:=hide c0
 have C1:=hide c1
 clear hk hkl hR ht hk1 ht1 hj1 hj hnew c0 c1
 go_enter_defers Tryz.func41,Tryz.ntmps41
 go_wp2_with (go_at_call 98;refine (aa HW).mono ?_;clear HW;rintro x w1 ⟨rfl,m,HU,HJ,HND⟩;have q0:w1.cell? ⟨w.heap.size,0,none⟩=some (.int .i64 0):=(by rw [World.cell?_of_block (a:=⟨w.heap.size,0,none⟩) ((aa HU).block _ (aa HN) hne)];exact aa C0);have q1:w1.cell? ⟨w.heap.size,1,none⟩=some (.int .i64 0):=(by rw [World.cell?_of_block (a:=⟨w.heap.size,1,none⟩) ((aa HU).block _ (aa HN) hne)];exact aa C1);have z0:w1.frozen? ⟨w.heap.size,0,none⟩=false:=(by rw [World.frozen?_of_block (a:=⟨w.heap.size,0,none⟩) ((aa HU).block _ (aa HN) hne)];exact World.frozen?_alloc_at _ _ _ _ rfl);have z1:w1.frozen? ⟨w.heap.size,1,none⟩=false:=(by rw [World.frozen?_of_block (a:=⟨w.heap.size,1,none⟩) ((aa HU).block _ (aa HN) hne)];exact World.frozen?_alloc_at _ _ _ _ rfl))
 have hl1:=World.block_lt_of_cell? w1 _ q0
 refine leaves_cons (f:=70) (args:=#[.pointer (some ⟨w.heap.size,0,none⟩)]) (by simp) (by simp [go_sem]) ?_
 refine (qC ⟨w.heap.size,0,none⟩ _).mono ?_
 rintro x u' w'' ⟨rfl,rfl,rfl⟩
 show Leaves _ _ _ _ [] .returning _
 refine ⟨.agg #[.int .i64 0,.int .i64 0],?_,rfl,m,?_,?_,?_⟩
 ·simp [results,Tryz.results41,go_sem,q0,q1]
 ·exact Up.mr (Up.mr ((Up.below ((Below.refl _ _).alloc (Nat.le_refl _) _)).trans (aa HU)) _ _ _ (Nat.le_refl _)) _ _ _ (Nat.le_refl _)
 ·exact au.move (aa HJ) ((Below.heap_setCell _ ⟨w.heap.size,1,none⟩ _ j (Ne.symm hne)).trans (Below.heap_setCell _ ⟨w.heap.size,0,none⟩ _ j (Ne.symm hne)))
 ·exact aV.move HND fun i hi _=>by
   have hi':w.heap.size+1<=i:=Nat.le_trans (Nat.le_of_eq (by simp)) hi
   exact ⟨(Below.heap_setCell _ ⟨w.heap.size,1,none⟩ _ i (by show i≠w.heap.size;omega)).trans (Below.heap_setCell _ ⟨w.heap.size,0,none⟩ _ i (by show i≠w.heap.size;omega)),by omega⟩
abbrev iG (e p:Int):Obj:=.cells #[.int .i64 e,.int .i64 p] 74
theorem KY {Q:Ending->World->Prop} {a:Act} {W:World} {rb gb:Nat} {n:Nd} {e p:Int} (h2:a.tmps.getD 2 undef=.pointer (some ⟨rb,0,none⟩)) (h3:a.tmps.getD 3 undef=.pointer (some ⟨gb,0,none⟩)) (hd:a.defers=[]) (hat:Hid (au W rb n)) (g0:W.cell? ⟨gb,0,none⟩=some (.int .i64 e)) (g1:W.cell? ⟨gb,1,none⟩=some (.int .i64 p)) (hq:Q (.returned (.tuple #[gm n,.agg #[.int .i64 e,.int .i64 p]])) W):bodyPost Tryz.prog Tryz.f65 Q .ret a W:=by
 obtain ⟨k0,k1,k2,k3,k4,k5,k6⟩:=au.cells (aa hat)
 refine bodyPost_ret (v:=.tuple #[gm n,.agg #[.int .i64 e,.int .i64 p]]) ?_ hd hq
 have h2':a.tmps[2]?.getD undef=.pointer (some ⟨rb,0,none⟩):=by simpa using h2
 have h3':a.tmps[3]?.getD undef=.pointer (some ⟨gb,0,none⟩):=by simpa using h3
 simp [results,Tryz.results65,h2',h3',go_sem,k0,k1,k2,k3,k4,k5,k6,g0,g1,gm]
abbrev rd4 (w:World) (s:ByteArray):World:=(((w.alloc (.cells #[.string s] 9)).alloc (aB nd0)).alloc (iG 0 0)).alloc (aB nd0)
theorem jD {w:World} {b:Nat} {e p:Int} {t:TypeId} (h:w.heap[b]? = some (.cells #[.int .i64 e,.int .i64 p] t)):w.cell? ⟨b,0,none⟩=some (.int .i64 e)/\w.cell? ⟨b,1,none⟩=some (.int .i64 p)/\∀ k,w.frozen? ⟨b,k,none⟩=false:=by
 refine ⟨?_,?_,fun k=>?_⟩<;>simp [World.cell?,World.frozen?,h]
structure C_ (W:World) (n:Nat) (m:Nd):Prop where
 r:au W (n+1) nd0
 g:W.heap[n+1+1]? = some (iG 0 0)
 v:au W (n+1+1+1) m
theorem WL (w:World) (s:ByteArray):C_ (rd4 w s) w.heap.size nd0:=by
 have s1:(w.alloc (.cells #[.string s] 9)).heap.size=w.heap.size+1:=by simp
 have s2:((w.alloc (.cells #[.string s] 9)).alloc (aB nd0)).heap.size=w.heap.size+1+1:=by simp
 have s3:(((w.alloc (.cells #[.string s] 9)).alloc (aB nd0)).alloc (iG 0 0)).heap.size=w.heap.size+1+1+1:=by simp
 refine ⟨?_,?_,?_⟩
 ·have h:=au.new (w.alloc (.cells #[.string s] 9)) nd0
  rw [s1] at h
  exact aa (au.alloc (au.alloc (hide h) _) _)
 ·have h:=heap_alloc_new ((w.alloc (.cells #[.string s] 9)).alloc (aB nd0)) (iG 0 0)
  rw [s2] at h
  exact (Below.heap_alloc _ _ _ (by rw [s3];omega)).trans h
 ·have h:=au.new (((w.alloc (.cells #[.string s] 9)).alloc (aB nd0)).alloc (iG 0 0)) nd0
  rw [s3] at h
  exact h
theorem KZ (w:World) (s:ByteArray):(rd4 w s).heap.size=w.heap.size+4:=by simp
theorem PX (w:World) (s:ByteArray):(rd4 w s).cell? ⟨w.heap.size,0,none⟩=some (.string s):=by
 have h:=bz w [.string s] 9 0 _ rfl
 rw [World.cell?_alloc_past _ _ _ (by simp;omega),World.cell?_alloc_past _ _ _ (by simp;omega),World.cell?_alloc_past _ _ _ (by simp)]
 exact h
theorem tZ (w:World) (s:ByteArray):Below w.heap.size w (rd4 w s):=((((Below.refl _ _).alloc (Nat.le_refl _) _).alloc (by simp) _).alloc (by simp;omega) _).alloc (by simp;omega) _
theorem C_.stop {W:World} {n:Nat} {m:Nd} (h:C_ W n m) (o:Obj):C_ (W.alloc o) n m:=
 ⟨aa (au.alloc (hide h.r) _),(Below.heap_alloc _ _ _ (Array.getElem?_eq_some_iff.1 h.g).1).trans h.g,aa (au.alloc (hide h.v) _)⟩
theorem C_.below {W W':World} {n:Nat} {m:Nd} (h:C_ W n m) (hb:Below W.heap.size W W') (hs:W.heap.size=n+4):C_ W' n m:=
 ⟨(hb.block _ (by omega)).trans h.r,(hb.block _ (by omega)).trans h.g,(hb.block _ (by omega)).trans h.v⟩
theorem ZN {W W':World} {n:Nat} (hb:Below W.heap.size W W') (hs:W.heap.size=n+4):n+4<=W'.heap.size:=hs▸hb.size
set_option maxRecDepth 100000 in
set_option maxHeartbeats 4000000 in
theorem Fq {w:World} {s:ByteArray} (hs:(60:Int)<(s.size:Int)) :
  Calls Tryz.prog 65 #[.string s] w fun x w'=>x=.returned (.tuple #[gm nd0,.agg #[.int .i64 1,.int .i64 0]])/\Hid (Below w.heap.size w w'):=by
 go_enter Tryz.func65,Tryz.ntmps65
 go_wp2_with fail
 have hb:Below w.heap.size w (((w.alloc (.cells #[.string s] 9)).alloc (aB nd0)).alloc (iG 1 0)):=(((Below.refl _ _).alloc (Nat.le_refl _) _).alloc (by simp) _).alloc (by simp;omega) _
 have s1:(w.alloc (.cells #[.string s] 9)).heap.size=w.heap.size+1:=by simp
 have s2:((w.alloc (.cells #[.string s] 9)).alloc (aB nd0)).heap.size=w.heap.size+1+1:=by simp
 have h1:=au.new (w.alloc (.cells #[.string s] 9)) nd0
 rw [s1] at h1
 have h2:=heap_alloc_new ((w.alloc (.cells #[.string s] 9)).alloc (aB nd0)) (iG 1 0)
 rw [s2] at h2
 obtain ⟨g0,g1,-⟩:=jD h2
 exact KY rfl rfl rfl (au.alloc (hide h1) _) g0 g1 ⟨rfl,hb⟩
def zn (W:World) (n:Nat) (m:Nd) (e p:Int):World:=((bH W (n+1) m).setCell ⟨n+1+1,0,none⟩ (.int .i64 e)).setCell ⟨n+1+1,1,none⟩ (.int .i64 p)
section
variable {W:World} {n:Nat} {m:Nd} {e p:Int}
theorem K4 {k:Nat} (h1:k≠n+1) (h2:k≠n+1+1):(zn W n m e p).heap[k]? = W.heap[k]?:=
 (Below.heap_setCell _ ⟨n+1+1,1,none⟩ _ k h2).trans ((Below.heap_setCell _ ⟨n+1+1,0,none⟩ _ k h2).trans (cO h1))
theorem NR:(zn W n m e p).heap.size=W.heap.size:=by simp [zn,World.setCell,bH]
theorem ZO (hR:C_ W n m):au (zn W n m e p) (n+1) m:=by
 have h2:n+1≠n+1+1:=by omega
 exact (Below.heap_setCell _ ⟨n+1+1,1,none⟩ _ (n+1) h2).trans ((Below.heap_setCell _ ⟨n+1+1,0,none⟩ _ (n+1) h2).trans (au.set hR.r))
theorem ZP (hR:C_ W n m):(zn W n m e p).heap[n+1+1]? = some (iG e p):=by
 have hg1:(bH W (n+1) m).heap[n+1+1]? = some (iG 0 0):=(cO (by omega)).trans hR.g
 have k0:=heap_setCell_same _ (n+1+1) 0 _ _ (.int .i64 e) hg1
 have k1:=heap_setCell_same _ (n+1+1) 1 _ _ (.int .i64 p) k0
 exact k1.trans (by simp)
theorem K5 {w:World} (hB:Below w.heap.size w W):Below w.heap.size w (zn W w.heap.size m e p):=
 Below.setCell (Below.setCell (Below.setCell (Below.setCell (Below.setCell (Below.setCell (Below.setCell (Below.setCell (Below.setCell hB (Nat.le_succ _) _) (Nat.le_succ _) _) (Nat.le_succ _) _) (Nat.le_succ _) _) (Nat.le_succ _) _) (Nat.le_succ _) _) (Nat.le_succ _) _) (Nat.le_add_right _ 2) _) (Nat.le_add_right _ 2) _
end
theorem NT {Q:Ending->World->Prop} {a:Act} {w W:World} {m:Nd} {e p:Int} (h2:a.tmps.getD 2 undef=.pointer (some ⟨w.heap.size+1,0,none⟩)) (h3:a.tmps.getD 3 undef=.pointer (some ⟨w.heap.size+1+1,0,none⟩)) (hd:a.defers=[]) (hR:Hid (C_ W w.heap.size m)) (hB:Hid (Below w.heap.size w W))
  (hq:∀ w',(∀ k,k≠w.heap.size+1->k≠w.heap.size+1+1->w'.heap[k]? = W.heap[k]?)->w'.heap.size=W.heap.size->Hid (Below w.heap.size w w')->Q (.returned (.tuple #[gm m,.agg #[.int .i64 e,.int .i64 p]])) w'):bodyPost Tryz.prog Tryz.f65 Q .ret a (zn W w.heap.size m e p).drew:=by
 have hr:=ZO (e:=e) (p:=p) (aa hR)
 have hg:=ZP (e:=e) (p:=p) (aa hR)
 have hb:=K5 (m:=m) (e:=e) (p:=p) (aa hB)
 have hsz:=NR (W:=W) (n:=w.heap.size) (m:=m) (e:=e) (p:=p)
 have ho:=fun k a b=>K4 (W:=W) (n:=w.heap.size) (m:=m) (e:=e) (p:=p) (k:=k) a b
 generalize zn W w.heap.size m e p=W' at *
 obtain ⟨g0,g1,-⟩:=jD hg
 exact KY h2 h3 hd (n:=m) hr g0 g1 (hq W'.drew ho hsz hb.drew)
set_option maxRecDepth 100000 in
set_option maxHeartbeats 4000000 in
theorem PY {w:World} {s:ByteArray} (hs:s.size<=60) {e p:Int} {K:World->Nd->Prop} (HA:Hid (Calls Tryz.prog 41 #[.func (.func 98) #[] #[.pointer (some ⟨w.heap.size,0,none⟩),.pointer (some ⟨w.heap.size+1+1+1,0,none⟩)]] (rd4 w s) fun x w'=>x=.returned (.agg #[.int .i64 e,.int .i64 p])/\∃ m,Hid (C_ w' w.heap.size m)/\Hid (Below w.heap.size w w')/\w.heap.size+4<=w'.heap.size/\Hid (K w' m))) :
  Calls Tryz.prog 65 #[.string s] w fun x w'=>∃ m w2,x=.returned (.tuple #[gm m,.agg #[.int .i64 (if e=0/\60<m.sz then 5 else e),.int .i64 (if e=0/\60<m.sz then 0 else p)]])/\Hid (Below w.heap.size w w')/\Hid (K w2 m)/\w.heap.size+4<=w2.heap.size/\w2.heap.size<=w'.heap.size/\∀ k,k<w2.heap.size->k≠w.heap.size+1->k≠w.heap.size+1+1->w'.heap[k]? = w2.heap[k]? := by
 have hmf:∀ (fn:Fn) (first cap:Array Value) (w:World),(Instr.makeFunc fn first cap).run Tryz.prog w=.ok (.func fn first cap) w:=fun _ _ _ _=>rfl
 have hs':(s.size:Int)<=60:=by omega
 clear hs
 by_cases he:e=0
 ·subst he
  go_enter Tryz.func65,Tryz.ntmps65
  go_wp2_with (go_at_call 41;refine (aa HA).mono ?_;clear HA;rintro x w2 ⟨rfl,m,HR2,HB,hz,HK⟩;have HR3:=hide ((aa HR2).stop (iG 0 p));obtain ⟨c0,c1,c2,c3,c4,c5,c6⟩:=au.cells (aa HR3).v)
  ·have HQ:=hide (heap_alloc_new w2 (iG 5 0))
   have HB3:=hide ((aa HB).alloc (by omega) (iG 5 0))
   have mg:Hid (∀ k,k<w2.heap.size->(w2.alloc (iG 5 0)).heap[k]? = w2.heap[k]?):=fun k hk=>Below.heap_alloc w2 _ k hk
   have HZ3:Hid (w2.heap.size<=(w2.alloc (iG 5 0)).heap.size):=by show _<=_;simp
   have HR4:=hide ((aa HR2).stop (iG 5 0))
   clear HR3 c0 c1 c2 c3 c4 c5 c6
   generalize w2.alloc (iG 5 0)=W at *
   generalize hqq:w2.heap.size=q at *
   obtain ⟨Db,K6,K7⟩:=aa HR4
   obtain ⟨c0,c1,c2,c3,c4,c5,c6⟩:=au.cells K7
   obtain ⟨r0,r1,r2,r3,r4,r5,r6⟩:=au.cells Db
   have rf:=au.fz Db
   obtain ⟨g0,g1,gf⟩:=jD K6
   obtain ⟨q0,q1,-⟩:=jD (aa HQ)
   clear Db K6 K7
   have hn:w.heap.size+1+1+1<q:=by omega
   generalize hv:w.heap.size+1+1+1=v at *
   generalize hg:w.heap.size+1+1=g at *
   generalize hr:w.heap.size+1=r at *
   have e1:r≠v:=by omega
   have e2:v≠r:=by omega
   have e3:g≠v:=by omega
   have e4:v≠g:=by omega
   have e5:r≠q:=by omega
   have e6:q≠r:=by omega
   have e7:g≠q:=by omega
   have e8:q≠g:=by omega
   have e9:r≠g:=by omega
   have e10:g≠r:=by omega
   go_region_held3 (fun w'=>w'.cell? ⟨v,0,none⟩=some (.int .i64 m.sh)/\w'.cell? ⟨v,1,none⟩=some (.slice m.pa m.pn m.pc)/\w'.cell? ⟨v,2,none⟩=some (.string m.ss)/\w'.cell? ⟨v,3,none⟩=some (.int .i64 m.le)/\w'.cell? ⟨v,4,none⟩=some (.int .i64 m.mo)/\w'.cell? ⟨v,5,none⟩=some (.int .i64 m.fa)/\w'.cell? ⟨v,6,none⟩=some (.int .i64 m.sz)/\w'.cell? ⟨q,0,none⟩=some (.int .i64 5)/\w'.cell? ⟨q,1,none⟩=some (.int .i64 0)) (go_keep) (fail)
   go_wp2_with fail
   subst hv
   subst hg
   subst hr
   subst hqq
   refine NT rfl rfl rfl HR4 HB3 fun w' h1 h2 h3=>⟨m,w2,?_,h3,HK,hz,Nat.le_trans (aa HZ3) (Nat.le_of_eq h2.symm),fun k a b c=>(h1 k b c).trans (aa mg k a)⟩
   rw [if_pos ⟨trivial,by assumption⟩,if_pos ⟨trivial,by assumption⟩]
  ·have HQ:=hide (heap_alloc_new w2 (iG 0 p))
   have HB3:=hide ((aa HB).alloc (by omega) (iG 0 p))
   have mg:Hid (∀ k,k<w2.heap.size->(w2.alloc (iG 0 p)).heap[k]? = w2.heap[k]?):=fun k hk=>Below.heap_alloc w2 _ k hk
   have HZ3:Hid (w2.heap.size<=(w2.alloc (iG 0 p)).heap.size):=by show _<=_;simp
   have HR4:=hide ((aa HR2).stop (iG 0 p))
   clear HR3 c0 c1 c2 c3 c4 c5 c6
   generalize w2.alloc (iG 0 p)=W at *
   generalize hqq:w2.heap.size=q at *
   obtain ⟨Db,K6,K7⟩:=aa HR4
   obtain ⟨c0,c1,c2,c3,c4,c5,c6⟩:=au.cells K7
   obtain ⟨r0,r1,r2,r3,r4,r5,r6⟩:=au.cells Db
   have rf:=au.fz Db
   obtain ⟨g0,g1,gf⟩:=jD K6
   obtain ⟨q0,q1,-⟩:=jD (aa HQ)
   clear Db K6 K7
   have hn:w.heap.size+1+1+1<q:=by omega
   generalize hv:w.heap.size+1+1+1=v at *
   generalize hg:w.heap.size+1+1=g at *
   generalize hr:w.heap.size+1=r at *
   have e1:r≠v:=by omega
   have e2:v≠r:=by omega
   have e3:g≠v:=by omega
   have e4:v≠g:=by omega
   have e5:r≠q:=by omega
   have e6:q≠r:=by omega
   have e7:g≠q:=by omega
   have e8:q≠g:=by omega
   have e9:r≠g:=by omega
   have e10:g≠r:=by omega
   go_region_held3 (fun w'=>w'.cell? ⟨v,0,none⟩=some (.int .i64 m.sh)/\w'.cell? ⟨v,1,none⟩=some (.slice m.pa m.pn m.pc)/\w'.cell? ⟨v,2,none⟩=some (.string m.ss)/\w'.cell? ⟨v,3,none⟩=some (.int .i64 m.le)/\w'.cell? ⟨v,4,none⟩=some (.int .i64 m.mo)/\w'.cell? ⟨v,5,none⟩=some (.int .i64 m.fa)/\w'.cell? ⟨v,6,none⟩=some (.int .i64 m.sz)/\w'.cell? ⟨q,0,none⟩=some (.int .i64 0)/\w'.cell? ⟨q,1,none⟩=some (.int .i64 p)) (go_keep) (fail)
   go_wp2_with fail
   subst hv
   subst hg
   subst hr
   subst hqq
   refine NT rfl rfl rfl HR4 HB3 fun w' h1 h2 h3=>⟨m,w2,?_,h3,HK,hz,Nat.le_trans (aa HZ3) (Nat.le_of_eq h2.symm),fun k a b c=>(h1 k b c).trans (aa mg k a)⟩
   rw [if_neg (fun a=>by omega),if_neg (fun a=>by omega)]
 ·have he':(e==0)=false:=by simpa using he
  go_enter Tryz.func65,Tryz.ntmps65
  go_wp2_with (go_at_call 41;refine (aa HA).mono ?_;clear HA;rintro x w2 ⟨rfl,m,HR2,HB,hz,HK⟩)
  have HQ:=hide (heap_alloc_new w2 (iG e p))
  have HB3:=hide ((aa HB).alloc (by omega) (iG e p))
  have mg:Hid (∀ k,k<w2.heap.size->(w2.alloc (iG e p)).heap[k]? = w2.heap[k]?):=fun k hk=>Below.heap_alloc w2 _ k hk
  have HZ3:Hid (w2.heap.size<=(w2.alloc (iG e p)).heap.size):=by show _<=_;simp
  have HR4:=hide ((aa HR2).stop (iG e p))
  clear he'
  generalize w2.alloc (iG e p)=W at *
  generalize hqq:w2.heap.size=q at *
  obtain ⟨Db,K6,K7⟩:=aa HR4
  obtain ⟨c0,c1,c2,c3,c4,c5,c6⟩:=au.cells K7
  obtain ⟨r0,r1,r2,r3,r4,r5,r6⟩:=au.cells Db
  have rf:=au.fz Db
  obtain ⟨g0,g1,gf⟩:=jD K6
  obtain ⟨q0,q1,-⟩:=jD (aa HQ)
  clear Db K6 K7
  have hn:w.heap.size+1+1+1<q:=by omega
  generalize hv:w.heap.size+1+1+1=v at *
  generalize hg:w.heap.size+1+1=g at *
  generalize hr:w.heap.size+1=r at *
  have e1:r≠v:=by omega
  have e2:v≠r:=by omega
  have e3:g≠v:=by omega
  have e4:v≠g:=by omega
  have e5:r≠q:=by omega
  have e6:q≠r:=by omega
  have e7:g≠q:=by omega
  have e8:q≠g:=by omega
  have e9:r≠g:=by omega
  have e10:g≠r:=by omega
  go_region_held3 (fun w'=>w'.cell? ⟨v,0,none⟩=some (.int .i64 m.sh)/\w'.cell? ⟨v,1,none⟩=some (.slice m.pa m.pn m.pc)/\w'.cell? ⟨v,2,none⟩=some (.string m.ss)/\w'.cell? ⟨v,3,none⟩=some (.int .i64 m.le)/\w'.cell? ⟨v,4,none⟩=some (.int .i64 m.mo)/\w'.cell? ⟨v,5,none⟩=some (.int .i64 m.fa)/\w'.cell? ⟨v,6,none⟩=some (.int .i64 m.sz)/\w'.cell? ⟨q,0,none⟩=some (.int .i64 e)/\w'.cell? ⟨q,1,none⟩=some (.int .i64 p)) (go_keep) (fail)
  go_wp2_with fail
  subst hv
  subst hg
  subst hr
  subst hqq
  refine NT rfl rfl rfl HR4 HB3 fun w' h1 h2 h3=>⟨m,w2,?_,h3,HK,hz,Nat.le_trans (aa HZ3) (Nat.le_of_eq h2.symm),fun k a b c=>(h1 k b c).trans (aa mg k a)⟩
  rw [if_neg (fun a=>he a.1),if_neg (fun a=>he a.1)]
theorem Dc {w w1 w2:World} (h:Hid (Below w.heap.size w w1)) (k:Hid (Below w1.heap.size w1 w2)):Hid (Below w.heap.size w w2):=
 ⟨(aa k).os.trans (aa h).os,(aa k).tape.trans (aa h).tape,(aa k).output.trans (aa h).output,Nat.le_trans (aa h).size (aa k).size,fun i hi=>((aa k).block i (Nat.lt_of_lt_of_le hi (aa h).size)).trans ((aa h).block i hi)⟩
theorem NU {w w1 w2:World} {o o':Obj} {n:Nat} (h:Hid (Below w.heap.size w w1)) (e:w2=((w1.alloc o).alloc o').drewN n):Hid (Below w.heap.size w w2):=by
 have h1:=aa h
 have h2:Below w.heap.size w ((w1.alloc o).alloc o'):=(h1.alloc h1.size _).alloc (by have:=h1.size;simp;omega) _
 subst e
 exact ⟨h2.os,h2.tape,h2.output,h2.size,h2.block⟩
set_option maxRecDepth 100000 in
set_option maxHeartbeats 4000000 in
theorem Df {w:World} {s:ByteArray} {e p:Int} (HA:Hid (Calls Tryz.prog 65 #[.string s] w fun x w'=>∃ m,x=.returned (.tuple #[gm m,.agg #[.int .i64 e,.int .i64 p]])/\Hid (Below w.heap.size w w'))) :
  Calls Tryz.prog 36 #[.string s] w fun x w'=>x=.returned (.tuple #[.int .i64 e,.int .i64 p])/\Hid (Below w.heap.size w w'):=by
 go_enter Tryz.func36,Tryz.ntmps36
 go_wp2_with (go_at_call 65;refine (aa HA).mono ?_;clear HA;rintro x w2 ⟨m,hx,HB⟩;rw [gm] at hx;subst hx)
 go_quiet (fail)
 go_wp2_with fail
 go_ret2
 exact ⟨rfl,NU HB rfl⟩
theorem K8 {w:World} {s:ByteArray} (ht:Hid (Lib.Utf8Tabs 4 5 w)):Hid (Lib.Utf8Tabs 4 5 (rd4 w s)):=by
 have hlt:=lM (aa ht)
 have hb:=tZ w s
 exact iE (aa ht) (hb.block _ (by omega)) (hb.block _ (by omega))
theorem zo {w:World} {s:ByteArray} (hs:s.size<=60) (ht:Hid (Lib.Utf8Tabs 4 5 w)) {y:Int×Int} (hR:Hid (jl s=.error y)) :
  Calls Tryz.prog 65 #[.string s] w fun x w'=>∃ m,x=.returned (.tuple #[gm m,.agg #[.int .i64 y.1,.int .i64 y.2]])/\Hid (Below w.heap.size w w'):=by
 have hsz:=KZ w s
 refine (PY (K:=fun _ m=>m=nd0) hs (hide ((KX (j:=w.heap.size+1+1+1) hs (K8 ht) (PX w s) hR).mono fun x w' h=>⟨h.1,nd0,hide ((WL w s).below (aa h.2) hsz),hide ((tZ w s).trans ((aa h.2).mono (tZ w s).size)),ZN (aa h.2) hsz,rfl⟩))).mono ?_
 rintro x w' ⟨m,w2,hx,hb,hk,-⟩
 have hm:m=nd0:=aa hk
 subst hm
 have hn:¬ (y.1=0/\60<nd0.sz):=fun h=>absurd h.2 (by decide)
 rw [if_neg hn,if_neg hn] at hx
 exact ⟨nd0,hx,hb⟩
theorem vz {w:World} {s:ByteArray} (hs:s.size<=60) (ht:Hid (Lib.Utf8Tabs 4 5 w)) {z:Pn} (hR:Hid (jl s=.ok z)) :
  Calls Tryz.prog 65 #[.string s] w fun x w'=>∃ m,x=.returned (.tuple #[gm m,.agg #[.int .i64 (if 60<z.2 then 5 else 0),.int .i64 0]])/\Hid (Below w.heap.size w w')/\Hid (aV w' (fun k=>w.heap.size<=k) m z):=by
 have hsz:=KZ w s
 have h4:=WL w s
 have hb4:=tZ w s
 have hA:=NQ (j:=w.heap.size+1+1+1) hs (K8 ht) (PX w s) (hide h4.v) hR
 refine (PY (e:=0) (p:=0) (K:=fun w' m=>aV w' (fun k=>w.heap.size+4<k) m z) hs (hide (hA.mono ?_))).mono ?_
 ·rintro x w' ⟨hx,m,HU,HJ,HN⟩
  have hu:=aa HU
  refine ⟨hx,m,hide ⟨(hu.block _ (by omega) (by omega)).trans h4.r,(hu.block _ (by omega) (by omega)).trans h4.g,aa HJ⟩,hide ⟨hu.os.trans hb4.os,hu.tape.trans hb4.tape,hu.output.trans hb4.output,Nat.le_trans hb4.size hu.size,fun k hk=>(hu.block k (by omega) (by omega)).trans (hb4.block k hk)⟩,by have:=hu.size;omega,aV.move HN fun k hk _=>⟨rfl,by omega⟩⟩
 ·rintro x w' ⟨m,w2,hx,hb,hk,h4',hle,ho⟩
  have hm:m.sz=z.2:=(aa hk).1
  have he:(0:Int)=0/\60<m.sz↔60<z.2:=by rw [hm];exact ⟨fun h=>h.2,fun h=>⟨rfl,h⟩⟩
  refine ⟨m,?_,hb,aV.move hk fun k h1 h2=>⟨ho k h2 (by omega) (by omega),by omega⟩⟩
  rw [hx]
  by_cases hz:60<z.2
  ·rw [if_pos (he.2 hz),if_pos (he.2 hz),if_pos hz]
  ·rw [if_neg (fun h=>hz (he.1 h)),if_neg (fun h=>hz (he.1 h)),if_neg hz]
theorem SH (w:World) (s:ByteArray) (ht:Hid (Lib.Utf8Tabs 4 5 w)) :
  Calls Tryz.prog 36 #[.string s] w fun x w'=>x=.returned (.tuple #[.int .i64 (xG s).1,.int .i64 (xG s).2])/\Hid (Below w.heap.size w w'):=by
 rw [BP]
 by_cases hl:60<s.size
 ·rw [bG,if_pos hl]
  exact Df (hide ((Fq (w:=w) (by omega)).mono fun x w' h=>⟨nd0,h.1,h.2⟩))
 ·rw [sK s hl]
  cases hR:jl s with
  | error y=>exact Df (hide (zo (by omega) ht (hide hR)))
  | ok z=>
   dsimp only
   have h:=Df (hide ((vz (w:=w) (by omega) ht (hide hR)).mono fun x w' ⟨m,a,b,_⟩=>⟨m,a,b⟩))
   by_cases hz:60<z.2
   ·rw [if_pos hz] at h ⊢;exact h
   ·rw [if_neg hz] at h ⊢;exact h
theorem Fs {Q:Ending->World->Prop} {a:Act} {W:World} {rb:Nat} {n:Nd} {e:Int} (h2:a.tmps.getD 4 undef=.pointer (some ⟨rb,0,none⟩)) (h3:a.tmps.getD 5 undef=.int .i64 e) (hd:a.defers=[]) (hat:Hid (au W rb n)) (hq:Q (.returned (.tuple #[gm n,.int .i64 e])) W):bodyPost Tryz.prog Tryz.f55 Q .ret a W:=by
 obtain ⟨k0,k1,k2,k3,k4,k5,k6⟩:=au.cells (aa hat)
 refine bodyPost_ret (v:=.tuple #[gm n,.int .i64 e]) ?_ hd hq
 have h2':a.tmps[4]?.getD undef=.pointer (some ⟨rb,0,none⟩):=by simpa using h2
 have h3':a.tmps[5]?.getD undef=.int .i64 e:=by simpa using h3
 simp [results,Tryz.results55,h2',h3',go_sem,k0,k1,k2,k3,k4,k5,k6,gm]
theorem SI {Q:Ending->World->Prop} {a:Act} {w w2 W:World} {m:Nd} {z:Pn} (h2:a.tmps.getD 4 undef=.pointer (some ⟨w.heap.size,0,none⟩)) (h3:a.tmps.getD 5 undef=.int .i64 0) (hd:a.defers=[]) (hat:Hid (au W w.heap.size nd0)) (hb:Hid (Below w.heap.size w W)) (hW:Hid (∀ k,k<w2.heap.size->W.heap[k]? = w2.heap[k]?)) (hn:Hid (aV w2 (fun k=>w.heap.size<k) m z))
  (hq:∀ W',Hid (Below w.heap.size w W')->Hid (aV W' (fun k=>w.heap.size<k) m z)->Q (.returned (.tuple #[gm m,.int .i64 0])) W'):bodyPost Tryz.prog Tryz.f55 Q .ret a (bH W w.heap.size m):=by
 refine Fs (n:=m) h2 h3 hd (hide (au.set (aa hat))) (hq _ ?_ ?_)
 ·have b:=aa hb
  exact Below.setCell (Below.setCell (Below.setCell (Below.setCell (Below.setCell (Below.setCell (Below.setCell b (Nat.le_refl _) _) (Nat.le_refl _) _) (Nat.le_refl _) _) (Nat.le_refl _) _) (Nat.le_refl _) _) (Nat.le_refl _) _) (Nat.le_refl _) _
 ·exact aV.move hn fun k hk hl=>⟨(cO (by omega)).trans (aa hW k hl),hk⟩
set_option maxRecDepth 100000 in
set_option maxHeartbeats 4000000 in
theorem WM {w:World} {s:ByteArray} {B:Int} (hs:s.size<=60) (ht:Hid (Lib.Utf8Tabs 4 5 w)) {z:Pn} (hR:Hid (jl s=.ok z)) (hz:¬ 60<z.2) (hB0:0<=B) (hB1:B<=200) :
  Calls Tryz.prog 55 #[.string s,.int .i64 B] w fun x w'=>∃ m,x=.returned (.tuple #[gm m,.int .i64 0])/\Hid (Below w.heap.size w w')/\Hid (aV w' (fun k=>w.heap.size<k) m z):=by
 have htb:Hid (Lib.Utf8Tabs 4 5 (w.alloc (aB nd0))):=by
  have hlt:=lM (aa ht)
  exact iE (aa ht) (Below.heap_alloc w _ 4 (by omega)) (Below.heap_alloc w _ 5 (by omega))
 have hrd:=vz (w:=w.alloc (aB nd0)) hs htb hR
 rw [if_neg hz] at hrd
 have WN:=hide hrd
 have hat:=au.new w nd0
 have HAT:=hide hat
 have hsz:w.heap.size<(w.alloc (aB nd0)).heap.size:=by simp
 have HA:Hid (Below w.heap.size w (w.alloc (aB nd0))):=(Below.refl _ _).alloc (Nat.le_refl _) _
 have d1:decide (B<0)=false:=by simp;omega
 have d2:decide (200<B)=false:=by simp;omega
 clear hrd ht htb hR hz hat
 go_enter Tryz.func55,Tryz.ntmps55
 go_wp2_with (go_at_call 65;refine (aa WN).mono ?_;clear WN;simp only [gm];rintro x w2 ⟨m,rfl,HB2,iy⟩;have sJ:Hid (au w2 w.heap.size nd0):=((aa HB2).block _ hsz).trans (aa HAT);have hs2:=(aa HB2).size;have HA3:=au.alloc (au.alloc sJ (aB m)) (iG 0 0);obtain ⟨c0,c1,c2,c3,c4,c5,c6⟩:=au.cells (aa HA3);have cf:=au.fz (aa HA3))
 have lI:Hid (aV w2 (fun k=>w.heap.size<k) m z):=aV.move iy fun k hk _=>⟨rfl,by omega⟩
 have HB3:Hid (Below w.heap.size w ((w2.alloc (aB m)).alloc (iG 0 0))):=by
  have b2:=(aa HA).trans ((aa HB2).mono (by omega))
  exact (b2.alloc b2.size _).alloc (by have:=b2.size;simp;omega) _
 have HW3:Hid (∀ k,k<w2.heap.size->((w2.alloc (aB m)).alloc (iG 0 0)).heap[k]? = w2.heap[k]?):=fun k hk=>(Below.heap_alloc _ _ k (by simp;omega)).trans (Below.heap_alloc w2 _ k hk)
 clear c0 c1 c2 c3 c4 c5 c6 cf
 generalize (w2.alloc (aB m)).alloc (iG 0 0)=W3 at *
 exact SI rfl rfl rfl HA3 HB3 HW3 lI fun W' h1 h2=>⟨m,rfl,h1,h2⟩
theorem uA {Q:Ending->World->Prop} {a:Act} {W:World} {rb:Nat} {n:Nd} {e:Int} (h2:a.tmps.getD 6 undef=.pointer (some ⟨rb,0,none⟩)) (h3:a.tmps.getD 7 undef=.int .i64 e) (hd:a.defers=[]) (hat:Hid (au W rb n)) (hq:Q (.returned (.tuple #[gm n,.int .i64 e])) W):bodyPost Tryz.prog Tryz.f38 Q .ret a W:=by
 obtain ⟨k0,k1,k2,k3,k4,k5,k6⟩:=au.cells (aa hat)
 refine bodyPost_ret (v:=.tuple #[gm n,.int .i64 e]) ?_ hd hq
 have h2':a.tmps[6]?.getD undef=.pointer (some ⟨rb,0,none⟩):=by simpa using h2
 have h3':a.tmps[7]?.getD undef=.int .i64 e:=by simpa using h3
 simp [results,Tryz.results38,h2',h3',go_sem,k0,k1,k2,k3,k4,k5,k6,gm]
theorem D9 {Q:Ending->World->Prop} {a:Act} {w w2 W:World} {m:Nd} {z:Pn} (h2:a.tmps.getD 6 undef=.pointer (some ⟨w.heap.size,0,none⟩)) (h3:a.tmps.getD 7 undef=.int .i64 0) (hd:a.defers=[]) (hat:Hid (au W w.heap.size nd0)) (hb:Hid (Below w.heap.size w W)) (hW:Hid (∀ k,k<w2.heap.size->W.heap[k]? = w2.heap[k]?)) (hn:Hid (aV w2 (fun k=>w.heap.size<k) m z))
  (hq:∀ W',Hid (Below w.heap.size w W')->Hid (aV W' (fun k=>w.heap.size<k) m z)->Q (.returned (.tuple #[gm m,.int .i64 0])) W'):bodyPost Tryz.prog Tryz.f38 Q .ret a (bH W w.heap.size m):=by
 refine uA (n:=m) h2 h3 hd (hide (au.set (aa hat))) (hq _ ?_ ?_)
 ·have b:=aa hb
  exact Below.setCell (Below.setCell (Below.setCell (Below.setCell (Below.setCell (Below.setCell (Below.setCell b (Nat.le_refl _) _) (Nat.le_refl _) _) (Nat.le_refl _) _) (Nat.le_refl _) _) (Nat.le_refl _) _) (Nat.le_refl _) _) (Nat.le_refl _) _
 ·exact aV.move hn fun k hk hl=>⟨(cO (by omega)).trans (aa hW k hl),hk⟩
set_option maxRecDepth 100000 in
set_option maxHeartbeats 4000000 in
theorem qD {w:World} {s u:ByteArray} {B:Int} (hs:s.size<=60) (hu:u.size<=60) (ht:Hid (Lib.Utf8Tabs 4 5 w)) {z:Pn} (hR:Hid (jl s=.ok z)) (hz:¬ 60<z.2) (hB0:0<=B) (hB1:B<=200) :
  Calls Tryz.prog 38 #[.string s,.string u,.int .i64 B] w fun x w'=>∃ m,x=.returned (.tuple #[gm m,.int .i64 0])/\Hid (Below w.heap.size w w')/\Hid (aV w' (fun k=>w.heap.size<k) m z):=by
 have htb:Hid (Lib.Utf8Tabs 4 5 (w.alloc (aB nd0))):=by
  have hlt:=lM (aa ht)
  exact iE (aa ht) (Below.heap_alloc w _ 4 (by omega)) (Below.heap_alloc w _ 5 (by omega))
 have WN:=hide (WM (w:=w.alloc (aB nd0)) hs htb hR hz hB0 hB1)
 have hat:=au.new w nd0
 have HAT:=hide hat
 have hsz:w.heap.size<(w.alloc (aB nd0)).heap.size:=by simp
 have HA:Hid (Below w.heap.size w (w.alloc (aB nd0))):=(Below.refl _ _).alloc (Nat.le_refl _) _
 have d1:decide ((60:Int)<(u.size:Int))=false:=by simp;omega
 clear ht htb hR hz hat
 go_enter Tryz.func38,Tryz.ntmps38
 go_wp2_with (go_at_call 55;refine (aa WN).mono ?_;clear WN;simp only [gm];rintro x w2 ⟨m,rfl,HB2,iy⟩;have sJ:Hid (au w2 w.heap.size nd0):=((aa HB2).block _ hsz).trans (aa HAT);have hs2:=(aa HB2).size;obtain ⟨c0,c1,c2,c3,c4,c5,c6⟩:=au.cells (aa sJ);have cf:=au.fz (aa sJ))
 have lI:Hid (aV w2 (fun k=>w.heap.size<k) m z):=aV.move iy fun k hk _=>⟨rfl,by omega⟩
 have HB3:Hid (Below w.heap.size w w2):=(aa HA).trans ((aa HB2).mono (by omega))
 clear c0 c1 c2 c3 c4 c5 c6 cf
 exact D9 rfl rfl rfl sJ HB3 (hide fun k _=>rfl) lI fun W' h1 h2=>⟨m,rfl,h1,h2⟩
end Go.Proofs.YtfolanohokflkaaGreatDoor
