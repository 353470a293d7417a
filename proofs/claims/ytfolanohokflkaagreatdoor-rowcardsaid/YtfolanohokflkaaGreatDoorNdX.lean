import Derived.Test.YtfolanohokflkaaGreatDoorNdU
import Derived.WalkKit
import Derived.WalkSpells
import Derived.WalkLawsBesides
import Derived.WalkMore
namespace Go.Proofs.YtfolanohokflkaaGreatDoor
open Go.RowKit
section
variable {w0 w:World} {b:Nat} {s:ByteArray} {d:Int} {l:List Sy}
set_option maxRecDepth 100000 in
set_option maxHeartbeats 8000000 in
theorem aeg {sub:List Sy->bn Pn} (HA:Hid (oN 250 sub b s d)) (TC:Hid (Xx sub)):oN 218 (ma s.size sub 38 (jB true)) b s d:=by
 intro w l h
 rw [Lm]
 have hbw:=PL.lt h
 have dQ:=jQ h (aB nd0)
 have zY:Hid (∀ w',Hid (Up b (w.alloc (aB nd0)) w')->Hid (Up b w w')):=fun w' hu=>jP h hu
 have BI:Hid (∀ w' l' n,Hid (PL (w.alloc (aB nd0)) w' b s d l')->Hid (PL w (bO w' w.heap.size n) b s d l')):=fun w' l' n h'=>oq h h' n
 have HAT:=hide (ax.new w nd0)
 have hsz1:(w.alloc (aB nd0)).heap.size=w.heap.size+1:=by simp
 clear h
 cases hi:uH s.size sub 38 l with
 | error y=>
  have HI:=hide hi
  clear hi
  go_enter Tryz.func218,Tryz.ntmps218
  go_wp2_with (go_at_call 217;refine (Lp (zn (by decide) HA TC dQ) HI).mono ?_;rintro x w3 ⟨rfl,HU⟩)
  exact ⟨rfl,rfl,aa zY _ HU⟩
 | ok y=>
  obtain ⟨ps,l1⟩:=y
  have HI:=hide hi
  clear hi
  go_enter Tryz.func218,Tryz.ntmps218
  go_wp2_with (first
   | (go_at_call 217;refine (Ql (zn (by decide) HA TC dQ) HI).mono ?_;clear dQ;rintro x w2 ⟨ao,cap,aL,rfl,jg,hn1,ad8,HT2⟩)
   | (go_at_call 216;refine (vF w2 2 ao cap aL ps hn1 (by omega) (aa jg).1 (aa jg).2.1.1 (fun i h h'=>((aa jg).2.1.2 i h h').1) (aa jg).2.2).mono ?_;simp only [gJ];rintro x w3 ⟨rfl,HB3⟩;have HT3:=PL.below HT2 (aa HB3);have oh:=jy.below jg (aa HB3);clear HT2 jg HB3;have HR3:=ax.up HAT (PL.up HT3) (by omega);obtain ⟨c0,c1,c2,c3,c4,c5,c6⟩:=ax.cells (aa HR3);have cf:=ax.fz (aa HR3)))
  change bodyPost _ _ _ _ _ (bO w3 w.heap.size ⟨2,ao,aL.length,cap,⟨#[]⟩,0,0,0,vJ ps⟩)
  refine jR (rb:=w.heap.size) (n:=⟨2,ao,aL.length,cap,⟨#[]⟩,0,0,0,vJ ps⟩) 2 rfl rfl rfl (hide (ax.set (aa HR3))) ?_
  exact ⟨_,rfl,a_.move (hide (Qk true (aa oh))) fun j hj hl=>⟨dm (by omega),by omega⟩,aa BI _ _ _ HT3⟩
set_option maxRecDepth 100000 in
set_option maxHeartbeats 8000000 in
theorem aax {sub:List Sy->bn Pn} (HA:Hid (oN 218 sub b s d)) (TC:Hid (Xx sub)):oN 147 (ma s.size sub 124 (jB false)) b s d:=by
 intro w l h
 rw [Lm]
 have hbw:=PL.lt h
 have dQ:=jQ h (aB nd0)
 have zY:Hid (∀ w',Hid (Up b (w.alloc (aB nd0)) w')->Hid (Up b w w')):=fun w' hu=>jP h hu
 have BI:Hid (∀ w' l' n,Hid (PL (w.alloc (aB nd0)) w' b s d l')->Hid (PL w (bO w' w.heap.size n) b s d l')):=fun w' l' n h'=>oq h h' n
 have HAT:=hide (ax.new w nd0)
 have hsz1:(w.alloc (aB nd0)).heap.size=w.heap.size+1:=by simp
 clear h
 cases hi:uH s.size sub 124 l with
 | error y=>
  have HI:=hide hi
  clear hi
  go_enter Tryz.func147,Tryz.ntmps147
  go_wp2_with (go_at_call 217;refine (Lp (xE (by decide) HA TC dQ) HI).mono ?_;rintro x w3 ⟨rfl,HU⟩)
  exact ⟨rfl,rfl,aa zY _ HU⟩
 | ok y=>
  obtain ⟨ps,l1⟩:=y
  have HI:=hide hi
  clear hi
  go_enter Tryz.func147,Tryz.ntmps147
  go_wp2_with (first
   | (go_at_call 217;refine (Ql (xE (by decide) HA TC dQ) HI).mono ?_;clear dQ;rintro x w2 ⟨ao,cap,aL,rfl,jg,hn1,ad8,HT2⟩)
   | (go_at_call 216;refine (vF w2 1 ao cap aL ps hn1 (by omega) (aa jg).1 (aa jg).2.1.1 (fun i h h'=>((aa jg).2.1.2 i h h').1) (aa jg).2.2).mono ?_;simp only [gJ];rintro x w3 ⟨rfl,HB3⟩;have HT3:=PL.below HT2 (aa HB3);have oh:=jy.below jg (aa HB3);clear HT2 jg HB3;have HR3:=ax.up HAT (PL.up HT3) (by omega);obtain ⟨c0,c1,c2,c3,c4,c5,c6⟩:=ax.cells (aa HR3);have cf:=ax.fz (aa HR3)))
  change bodyPost _ _ _ _ _ (bO w3 w.heap.size ⟨1,ao,aL.length,cap,⟨#[]⟩,0,0,0,vJ ps⟩)
  refine jR (rb:=w.heap.size) (n:=⟨1,ao,aL.length,cap,⟨#[]⟩,0,0,0,vJ ps⟩) 2 rfl rfl rfl (hide (ax.set (aa HR3))) ?_
  exact ⟨_,rfl,a_.move (hide (Qk false (aa oh))) fun j hj hl=>⟨dm (by omega),by omega⟩,aa BI _ _ _ HT3⟩
set_option maxRecDepth 100000 in
set_option maxHeartbeats 8000000 in
theorem Qn {R:bn Pn} (HG:Hid (∀ w1,Hid (PL w1 w1 b s d l)->Calls Tryz.prog 320 #[.pointer (some ⟨b,0,none⟩)] w1 (Gt R w1 b s d))) (h:Hid (PL w w b s d l)) (vL:Hid (hd l=40)) :
  Calls Tryz.prog 304 #[.pointer (some ⟨b,0,none⟩)] w (Gt R w b s d):=by
 have hbw:=PL.lt h
 have dQ:=jQ h (aB nd0)
 have zY:Hid (∀ w',Hid (Up b (w.alloc (aB nd0)) w')->Hid (Up b w w')):=fun w' hu=>jP h hu
 have BI:Hid (∀ w' l' n,Hid (PL (w.alloc (aB nd0)) w' b s d l')->Hid (PL w (bO w' w.heap.size n) b s d l')):=fun w' l' n h'=>oq h h' n
 have HAT:=hide (ax.new w nd0)
 have hsz1:(w.alloc (aB nd0)).heap.size=w.heap.size+1:=by simp
 clear h
 cases R with
 | error y=>
  go_enter Tryz.func304,Tryz.ntmps304
  go_wp2_with (first
   | (go_at_call 251;refine (eH dQ vL).mono ?_;clear dQ;rintro x w1 ⟨rfl,HS⟩)
   | (go_at_call 320;refine (kS (aa HG _ (PL.base HS)) (hide rfl)).mono ?_;rintro x w2 ⟨rfl,HU⟩;have lN:=hide ((PL.up HS).trans (aa HU))))
  exact ⟨rfl,rfl,aa zY _ lN⟩
 | ok y=>
  obtain ⟨z,l1⟩:=y
  go_enter Tryz.func304,Tryz.ntmps304
  go_wp2_with (first
   | (go_at_call 251;refine (eH dQ vL).mono ?_;clear dQ;rintro x w1 ⟨rfl,HS⟩)
   | (go_at_call 320;refine (kT (aa HG _ (PL.base HS)) (hide rfl)).mono ?_;simp only [gJ];rintro x w2 ⟨n,rfl,HN,HS2⟩;have HT2:=PL.join (PL.up HS) HS2;have hs1:=(PL.up HS).size;have HR2:=ax.up HAT (PL.up HT2) (by omega);obtain ⟨c0,c1,c2,c3,c4,c5,c6⟩:=ax.cells (aa HR2);have cf:=ax.fz (aa HR2)))
  change bodyPost _ _ _ _ _ (bO w2 w.heap.size n)
  refine jR (rb:=w.heap.size) (n:=n) 2 rfl rfl rfl (hide (ax.set (aa HR2))) ?_
  exact ⟨n,rfl,a_.move HN fun j hj hl=>⟨dm (by omega),by omega⟩,aa BI _ _ _ HT2⟩
end
end Go.Proofs.YtfolanohokflkaaGreatDoor
namespace Go.Proofs.YtfolanohokflkaaGreatDoor
open Go.RowKit
theorem Qo {a:List Sy->bn Int} {c:List Sy->bn Pn} (h:oI a c) {l l':List Sy} {v:Pn} (e:c l=.ok (v,l')):a l=.ok (v.2,l')/\0<=v.2/\v.2<=61:=by
 have h1:=(h l).1
 rw [e] at h1
 exact ⟨h1,(h l).2 _ _ e⟩
theorem Qp {a:List Sy->bn Int} {c:List Sy->bn Pn} (h:oI a c) (hl:M0 a):Xx c:=fun l v l' e=>by
 obtain ⟨h1,h2,h3⟩:=Qo h e
 exact ⟨hl l _ h1,h2,h3⟩
theorem acO {a:List Sy->bn Int} {c:List Sy->bn Pn} (h:oI a c):BdP c:=fun _ _ _ e=>(Qo h e).2
theorem aay {n:Nat} {a:List Sy->bn Int} {c:List Sy->bn Pn} (h:oI a c) (hl:Shr a):aef n c:=fun l v l' e=>by
 have h1:=tX (n:=n) h (l.length+1) l
 have h2:=h1.1
 rw [e] at h2
 exact ⟨tV (n:=n) hl (l.length+1) (y:=(v.2,l')) h2,h1.2 _ _ e⟩
theorem Dj {b:Nat} {s:ByteArray} {d:Int} {k:Nat} (h:oN 304 (bH s.size k) b s d):oN 147 (bU s.size (bH s.size k)) b s d:=by
 have hs:=yg (n:=s.size) k
 have hl:=ER s.size k
 have hi:oN 280 (fun l=>cO s.size (bH s.size k) (l.length+1) l) b s d:=fun w l hp=>aea (hide h) (hide (acO hs)) hp
 have hr:=aeU (hide hi) (hide (aay hs hl))
 have hb:=aeg (hide hr) (hide (Qp (BP hs) (Js hl)))
 exact aax (hide hb) (hide (Qp (BQ (BP hs) 38 true) (EP hl)))
theorem abn (b:Nat) (s:ByteArray):∀ (k:Nat),k<=8->oN 304 (bH s.size k) b s (8 - (k:Int))
 | 0,_=>by
  intro w l h
  rw [bH]
  by_cases vL:hd l=40
  ·rw [if_pos vL]
   exact Qn (fun w1 h1=>Lf h1) h vL
  ·rw [if_neg vL]
   exact abm h vL
 | k+1,hk=>by
  intro w l h
  rw [bH]
  by_cases vL:hd l=40
  ·rw [if_pos vL]
   have hc:=Dj (abn b s k (by omega))
   have e:(8 - ((k+1:Nat):Int))+1=8 - (k:Int):=by omega
   rw [<-e] at hc
   exact Qn (fun w1 h1=>acM (hide hc) (by omega) (by omega) h1 vL) h vL
  ·rw [if_neg vL]
   exact abm h vL
theorem Lr {w w':World} (h:Hid (Up w.heap.size w w')):Hid (Below w.heap.size w w'):=
 ⟨(aa h).os,(aa h).tape,(aa h).output,(aa h).size,fun k hk=>(aa h).block k hk (Nat.ne_of_lt hk)⟩
theorem acP (w:World) (s:ByteArray) (hs:s.size<=60) (ht:Lib.Utf8Tabs 4 5 w):Hid (PL w (w.alloc (.cells #[.string s,.int .i64 0,.int .i64 0] 221)) w.heap.size s 0 (af s 0)):=by
 have hlt:=lT ht
 refine ⟨0,⟨?_,?_,?_,?_,?_,by omega,?_,Nat.zero_le _,hs⟩,rfl⟩
 ·exact bM w [.string s,.int .i64 0,.int .i64 0] _ 0 _ rfl
 ·exact bM w [.string s,.int .i64 0,.int .i64 0] _ 1 _ rfl
 ·exact bM w [.string s,.int .i64 0,.int .i64 0] _ 2 _ rfl
 ·exact fun k=>World.frozen?_alloc_at _ _ _ _ rfl
 ·exact iM ht (Below.heap_alloc w _ 4 (by omega)) (Below.heap_alloc w _ 5 (by omega))
 ·exact Up.below ((Below.refl _ _).alloc (Nat.le_refl _) _)
def aeX (R:bn Pn) (n:Nat) (w:World) (x:Ending) (w':World):Prop:=
 match R with
 | .error y=>x=AR y.1 y.2/\Hid (Below w.heap.size w w')
 | .ok y=>(hd y.2<0->∃ m,x=.returned (gJ m)/\Hid (a_ w' (fun k=>w.heap.size<=k) m y.1)/\Hid (Below w.heap.size w w'))/\(¬ hd y.2<0->x=AR 2 (AJ n y.2)/\Hid (Below w.heap.size w w'))
end Go.Proofs.YtfolanohokflkaaGreatDoor
namespace Go.Proofs.YtfolanohokflkaaGreatDoor
open Go.RowKit
abbrev aeY (s:ByteArray):Obj:=.cells #[.string s,.int .i64 0,.int .i64 0] 221
theorem Oh {w w':World} {o:Obj} (h0:Up (w.heap.size+1) (w.alloc o) w'):Below w.heap.size w w':=by
 have e:(w.alloc o).heap.size=w.heap.size+1:=by simp
 have h:=h0
 rw [<-e] at h
 have h1:Below w.heap.size w (w.alloc o):=(Below.refl _ w).alloc (Nat.le_refl _) _
 exact h1.trans ((aa (Lr (hide h))).mono (by simp))
theorem acQ {w3 w4:World} {b:Nat} {n:Nd} (hu:Up b (w3.alloc (aB n)) w4) (hb:b<w3.heap.size):Hid (ax w4 w3.heap.size n):=ax.up (hide (ax.new w3 n)) hu (by omega)
set_option maxRecDepth 100000 in
set_option maxHeartbeats 4000000 in
theorem q8 (w:World) (s:ByteArray) (hs:s.size<=60) (ht:Hid (Lib.Utf8Tabs 4 5 w)) :
  Calls Tryz.prog 99 #[.string s] w (aeX (bU s.size (bH s.size 8) (af s 0)) s.size w):=by
 have hlt:=lT (aa ht)
 have ht1:Lib.Utf8Tabs 4 5 (w.alloc (aB nd0)):=iM (aa ht) (Below.heap_alloc w _ 4 (by omega)) (Below.heap_alloc w _ 5 (by omega))
 have hsz1:(w.alloc (aB nd0)).heap.size=w.heap.size+1:=by simp
 have HP:=acP (w.alloc (aB nd0)) s hs ht1
 rw [hsz1] at HP
 have HC:=hide (Dj (abn (w.heap.size+1) s 8 (Nat.le_refl _)) _ _ (PL.base HP))
 have HAT:=hide (ax.new w nd0)
 have hsz2:((w.alloc (aB nd0)).alloc (aeY s)).heap.size=w.heap.size+2:=by simp
 clear ht ht1 hlt
 cases hR:bU s.size (bH s.size 8) (af s 0) with
 | error y=>
  have HR:=hide hR
  clear hR
  go_enter Tryz.func99,Tryz.ntmps99
  go_wp2_with (first
   | (go_at_call 147;refine (kS (aa HC) HR).mono ?_;rintro x w2 ⟨rfl,HU⟩;have HB:=hide (Oh ((PL.up HP).trans (aa HU)))))
  exact ⟨rfl,rfl,HB⟩
 | ok y=>
  obtain ⟨z,l1⟩:=y
  have HR:=hide hR
  clear hR
  have hge:=hd_ge' l1
  by_cases he:hd l1<0
  ·have HE:Hid (hd l1=-1):=by show _=_;omega
   go_enter Tryz.func99,Tryz.ntmps99
   go_wp2_with (first
    | (go_at_call 147;refine (kT (aa HC) HR).mono ?_;simp only [gJ];rintro x w3 ⟨n,rfl,HN,mR⟩;have HT3:=PL.join (PL.up HP) mR;have hb3:=PL.lt HT3;have hs3:=(PL.up mR).size;have zi:=PL.alloc HT3 (aB n))
    | (go_at_call 148;refine (dP (PL.base zi) (-1) HE).mono ?_;rintro x w5 ⟨rfl,CF⟩;have pE:=PL.join (PL.up zi) CF;have jI:=acQ (PL.up CF) hb3;have pq:=ax.up HAT (PL.up pE) (by omega);obtain ⟨g0,g1,g2,g3,g4,g5,g6⟩:=ax.cells (aa jI);obtain ⟨c0,c1,c2,c3,c4,c5,c6⟩:=ax.cells (aa pq);have cf:=ax.fz (aa pq)))
   change bodyPost _ _ _ _ _ (bO w5 w.heap.size n)
   refine jR (rb:=w.heap.size) (n:=n) 2 rfl rfl rfl (hide (ax.set (aa pq))) ?_
   have HN5:Hid (a_ (bO w5 w.heap.size n) (fun k=>w.heap.size<=k) n z):=a_.move HN fun j hj hl=>by
    have hj':w.heap.size+2<=j:=Nat.le_trans (Nat.le_of_eq hsz2.symm) hj
    refine ⟨?_,by omega⟩
    rw [dm (by omega),(PL.up CF).block j (by simp;omega) (by omega),Below.heap_alloc w3 _ j hl]
   exact ⟨fun _=>⟨n,rfl,HN5,zl (Oh (PL.up pE)) (Nat.le_refl _)⟩,fun hh=>absurd he hh⟩
  ·have HE:Hid (¬ hd l1=-1):=by show ¬ _=_;omega
   go_enter Tryz.func99,Tryz.ntmps99
   go_wp2_with (first
    | (go_at_call 147;refine (kT (aa HC) HR).mono ?_;simp only [gJ];rintro x w3 ⟨n,rfl,HN,mR⟩;have HT3:=PL.join (PL.up HP) mR;have hb3:=PL.lt HT3;have zi:=PL.alloc HT3 (aB n))
    | (go_at_call 148;refine (rX zi (-1) HE).mono ?_;rintro x w5 ⟨rfl,HU⟩))
   exact ⟨rfl,fun hh=>absurd hh (Int.not_lt.2 he),fun _=>⟨rfl,hide (Oh (aa HU))⟩⟩
end Go.Proofs.YtfolanohokflkaaGreatDoor
