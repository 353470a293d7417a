import Derived.Test.YtfolanohokflkaaGreatDoorNdU
import Derived.WalkKit
import Derived.WalkSpells
import Derived.WalkLawsBesides
import Derived.WalkMore
namespace Go.Proofs.YtfolanohokflkaaGreatDoor
open Go.RowKit
section
variable {w0 w:World} {b:Nat} {s:ByteArray} {d:Int} {l:List Sy}
set_option maxRecDepth 100000 in
set_option maxHeartbeats 8000000 in
theorem ach {sub:List Sy->bf Pn} (HA:Hid (oz 250 sub b s d)) (QY:Hid (U2 sub)):oz 218 (kM s.size sub 38 (gB true)) b s d:=by
 intro w l h
 rw [JM]
 have hbw:=PL.lt h
 have dO:=jH h (aD nd0)
 have zh:Hid (∀ w',Hid (Up b (w.alloc (aD nd0)) w')->Hid (Up b w w')):=fun w' hu=>jG h hu
 have Ay:Hid (∀ w' l' n,Hid (PL (w.alloc (aD nd0)) w' b s d l')->Hid (PL w (bJ w' w.heap.size n) b s d l')):=fun w' l' n h'=>nQ h h' n
 have HAT:=hide (ax.new w nd0)
 have hsz1:(w.alloc (aD nd0)).heap.size=w.heap.size+1:=by simp
 clear h
 cases hi:tH s.size sub 38 l with
 | error y=>
  have HI:=hide hi
  clear hi
  go_enter Tryz.func218,Tryz.ntmps218
  go_wp2_with (go_at_call 217;refine (JN (yB (by decide) HA QY dO) HI).mono ?_;rintro x w3 ⟨rfl,HU⟩)
  exact ⟨rfl,rfl,aa zh _ HU⟩
 | ok y=>
  obtain ⟨ps,l1⟩:=y
  have HI:=hide hi
  clear hi
  go_enter Tryz.func218,Tryz.ntmps218
  go_wp2_with (first
   | (go_at_call 217;refine (Oh (yB (by decide) HA QY dO) HI).mono ?_;clear dO;rintro x w2 ⟨ao,cap,aK,rfl,iZ,hn1,ab8,HT2⟩)
   | (go_at_call 216;refine (uL w2 2 ao cap aK ps hn1 (by omega) (aa iZ).1 (aa iZ).2.1.1 (fun i h h'=>((aa iZ).2.1.2 i h h').1) (aa iZ).2.2).mono ?_;simp only [gN];rintro x w3 ⟨rfl,HB3⟩;have HT3:=PL.below HT2 (aa HB3);have nO:=jo.below iZ (aa HB3);clear HT2 iZ HB3;have HR3:=ax.up HAT (PL.up HT3) (by omega);obtain ⟨c0,c1,c2,c3,c4,c5,c6⟩:=ax.cells (aa HR3);have cf:=ax.fz (aa HR3)))
  change bodyPost _ _ _ _ _ (bJ w3 w.heap.size ⟨2,ao,aK.length,cap,⟨#[]⟩,0,0,0,uO ps⟩)
  refine jI (rb:=w.heap.size) (n:=⟨2,ao,aK.length,cap,⟨#[]⟩,0,0,0,uO ps⟩) 2 rfl rfl rfl (hide (ax.set (aa HR3))) ?_
  exact ⟨_,rfl,aY.move (hide (Og true (aa nO))) fun j hj hl=>⟨dh (by omega),by omega⟩,aa Ay _ _ _ HT3⟩
set_option maxRecDepth 100000 in
set_option maxHeartbeats 8000000 in
theorem X6 {sub:List Sy->bf Pn} (HA:Hid (oz 218 sub b s d)) (QY:Hid (U2 sub)):oz 147 (kM s.size sub 124 (gB false)) b s d:=by
 intro w l h
 rw [JM]
 have hbw:=PL.lt h
 have dO:=jH h (aD nd0)
 have zh:Hid (∀ w',Hid (Up b (w.alloc (aD nd0)) w')->Hid (Up b w w')):=fun w' hu=>jG h hu
 have Ay:Hid (∀ w' l' n,Hid (PL (w.alloc (aD nd0)) w' b s d l')->Hid (PL w (bJ w' w.heap.size n) b s d l')):=fun w' l' n h'=>nQ h h' n
 have HAT:=hide (ax.new w nd0)
 have hsz1:(w.alloc (aD nd0)).heap.size=w.heap.size+1:=by simp
 clear h
 cases hi:tH s.size sub 124 l with
 | error y=>
  have HI:=hide hi
  clear hi
  go_enter Tryz.func147,Tryz.ntmps147
  go_wp2_with (go_at_call 217;refine (JN (wF (by decide) HA QY dO) HI).mono ?_;rintro x w3 ⟨rfl,HU⟩)
  exact ⟨rfl,rfl,aa zh _ HU⟩
 | ok y=>
  obtain ⟨ps,l1⟩:=y
  have HI:=hide hi
  clear hi
  go_enter Tryz.func147,Tryz.ntmps147
  go_wp2_with (first
   | (go_at_call 217;refine (Oh (wF (by decide) HA QY dO) HI).mono ?_;clear dO;rintro x w2 ⟨ao,cap,aK,rfl,iZ,hn1,ab8,HT2⟩)
   | (go_at_call 216;refine (uL w2 1 ao cap aK ps hn1 (by omega) (aa iZ).1 (aa iZ).2.1.1 (fun i h h'=>((aa iZ).2.1.2 i h h').1) (aa iZ).2.2).mono ?_;simp only [gN];rintro x w3 ⟨rfl,HB3⟩;have HT3:=PL.below HT2 (aa HB3);have nO:=jo.below iZ (aa HB3);clear HT2 iZ HB3;have HR3:=ax.up HAT (PL.up HT3) (by omega);obtain ⟨c0,c1,c2,c3,c4,c5,c6⟩:=ax.cells (aa HR3);have cf:=ax.fz (aa HR3)))
  change bodyPost _ _ _ _ _ (bJ w3 w.heap.size ⟨1,ao,aK.length,cap,⟨#[]⟩,0,0,0,uO ps⟩)
  refine jI (rb:=w.heap.size) (n:=⟨1,ao,aK.length,cap,⟨#[]⟩,0,0,0,uO ps⟩) 2 rfl rfl rfl (hide (ax.set (aa HR3))) ?_
  exact ⟨_,rfl,aY.move (hide (Og false (aa nO))) fun j hj hl=>⟨dh (by omega),by omega⟩,aa Ay _ _ _ HT3⟩
set_option maxRecDepth 100000 in
set_option maxHeartbeats 8000000 in
theorem Oj {R:bf Pn} (HG:Hid (∀ w1,Hid (PL w1 w1 b s d l)->Calls Tryz.prog 320 #[.pointer (some ⟨b,0,none⟩)] w1 (Fq R w1 b s d))) (h:Hid (PL w w b s d l)) (sW:Hid (hd l=40)) :
  Calls Tryz.prog 304 #[.pointer (some ⟨b,0,none⟩)] w (Fq R w b s d):=by
 have hbw:=PL.lt h
 have dO:=jH h (aD nd0)
 have zh:Hid (∀ w',Hid (Up b (w.alloc (aD nd0)) w')->Hid (Up b w w')):=fun w' hu=>jG h hu
 have Ay:Hid (∀ w' l' n,Hid (PL (w.alloc (aD nd0)) w' b s d l')->Hid (PL w (bJ w' w.heap.size n) b s d l')):=fun w' l' n h'=>nQ h h' n
 have HAT:=hide (ax.new w nd0)
 have hsz1:(w.alloc (aD nd0)).heap.size=w.heap.size+1:=by simp
 clear h
 cases R with
 | error y=>
  go_enter Tryz.func304,Tryz.ntmps304
  go_wp2_with (first
   | (go_at_call 251;refine (dZ dO sW).mono ?_;clear dO;rintro x w1 ⟨rfl,HS⟩)
   | (go_at_call 320;refine (kF (aa HG _ (PL.base HS)) (hide rfl)).mono ?_;rintro x w2 ⟨rfl,HU⟩;have kZ:=hide ((PL.up HS).trans (aa HU))))
  exact ⟨rfl,rfl,aa zh _ kZ⟩
 | ok y=>
  obtain ⟨z,l1⟩:=y
  go_enter Tryz.func304,Tryz.ntmps304
  go_wp2_with (first
   | (go_at_call 251;refine (dZ dO sW).mono ?_;clear dO;rintro x w1 ⟨rfl,HS⟩)
   | (go_at_call 320;refine (kH (aa HG _ (PL.base HS)) (hide rfl)).mono ?_;simp only [gN];rintro x w2 ⟨n,rfl,HN,HS2⟩;have HT2:=PL.join (PL.up HS) HS2;have hs1:=(PL.up HS).size;have HR2:=ax.up HAT (PL.up HT2) (by omega);obtain ⟨c0,c1,c2,c3,c4,c5,c6⟩:=ax.cells (aa HR2);have cf:=ax.fz (aa HR2)))
  change bodyPost _ _ _ _ _ (bJ w2 w.heap.size n)
  refine jI (rb:=w.heap.size) (n:=n) 2 rfl rfl rfl (hide (ax.set (aa HR2))) ?_
  exact ⟨n,rfl,aY.move HN fun j hj hl=>⟨dh (by omega),by omega⟩,aa Ay _ _ _ HT2⟩
end
end Go.Proofs.YtfolanohokflkaaGreatDoor
namespace Go.Proofs.YtfolanohokflkaaGreatDoor
open Go.RowKit
theorem Ol {a:List Sy->bf Int} {c:List Sy->bf Pn} (h:oo a c) {l l':List Sy} {v:Pn} (e:c l=.ok (v,l')):a l=.ok (v.2,l')/\0<=v.2/\v.2<=61:=by
 have h1:=(h l).1
 rw [e] at h1
 exact ⟨h1,(h l).2 _ _ e⟩
theorem Om {a:List Sy->bf Int} {c:List Sy->bf Pn} (h:oo a c) (hl:Lc a):U2 c:=fun l v l' e=>by
 obtain ⟨h1,h2,h3⟩:=Ol h e
 exact ⟨hl l _ h1,h2,h3⟩
theorem aaN {a:List Sy->bf Int} {c:List Sy->bf Pn} (h:oo a c):BdP c:=fun _ _ _ e=>(Ol h e).2
theorem X7 {n:Nat} {a:List Sy->bf Int} {c:List Sy->bf Pn} (h:oo a c) (hl:ZL a):acg n c:=fun l v l' e=>by
 have h1:=sw (n:=n) h (l.length+1) l
 have h2:=h1.1
 rw [e] at h2
 exact ⟨su (n:=n) hl (l.length+1) (y:=(v.2,l')) h2,h1.2 _ _ e⟩
theorem B_ {b:Nat} {s:ByteArray} {d:Int} {k:Nat} (h:oz 304 (bF s.size k) b s d):oz 147 (bM s.size (bF s.size k)) b s d:=by
 have hs:=xn (n:=s.size) k
 have hl:=DV s.size k
 have hi:oz 280 (fun l=>b_ s.size (bF s.size k) (l.length+1) l) b s d:=fun w l hp=>aca (hide h) (hide (aaN hs)) hp
 have hr:=acS (hide hi) (hide (X7 hs hl))
 have hb:=ach (hide hr) (hide (Om (AO hs) (Ib hl)))
 exact X6 (hide hb) (hide (Om (AP (AO hs) 38 true) (DU hl)))
theorem Zc (b:Nat) (s:ByteArray):∀ (k:Nat),k<=8->oz 304 (bF s.size k) b s (8 - (k:Int))
 | 0,_=>by
  intro w l h
  rw [bF]
  by_cases sW:hd l=40
  ·rw [if_pos sW]
   exact Oj (fun w1 h1=>JG h1) h sW
  ·rw [if_neg sW]
   exact Zb h sW
 | k+1,hk=>by
  intro w l h
  rw [bF]
  by_cases sW:hd l=40
  ·rw [if_pos sW]
   have hc:=B_ (Zc b s k (by omega))
   have e:(8 - ((k+1:Nat):Int))+1=8 - (k:Int):=by omega
   rw [<-e] at hc
   exact Oj (fun w1 h1=>aaL (hide hc) (by omega) (by omega) h1 sW) h sW
  ·rw [if_neg sW]
   exact Zb h sW
theorem JO {w w':World} (h:Hid (Up w.heap.size w w')):Hid (Below w.heap.size w w'):=
 ⟨(aa h).os,(aa h).tape,(aa h).output,(aa h).size,fun k hk=>(aa h).block k hk (Nat.ne_of_lt hk)⟩
theorem aaO (w:World) (s:ByteArray) (hs:s.size<=60) (ht:Lib.Utf8Tabs 4 5 w):Hid (PL w (w.alloc (.cells #[.string s,.int .i64 0,.int .i64 0] 221)) w.heap.size s 0 (af s 0)):=by
 have hlt:=lv ht
 refine ⟨0,⟨?_,?_,?_,?_,?_,by omega,?_,Nat.zero_le _,hs⟩,rfl⟩
 ·exact bR w [.string s,.int .i64 0,.int .i64 0] _ 0 _ rfl
 ·exact bR w [.string s,.int .i64 0,.int .i64 0] _ 1 _ rfl
 ·exact bR w [.string s,.int .i64 0,.int .i64 0] _ 2 _ rfl
 ·exact fun k=>World.frozen?_alloc_at _ _ _ _ rfl
 ·exact iG ht (Below.heap_alloc w _ 4 (by omega)) (Below.heap_alloc w _ 5 (by omega))
 ·exact Up.below ((Below.refl _ _).alloc (Nat.le_refl _) _)
def acV (R:bf Pn) (n:Nat) (w:World) (x:Ending) (w':World):Prop:=
 match R with
 | .error y=>x=Gi y.1 y.2/\Hid (Below w.heap.size w w')
 | .ok y=>(hd y.2<0->∃ m,x=.returned (gN m)/\Hid (aY w' (fun k=>w.heap.size<=k) m y.1)/\Hid (Below w.heap.size w w'))/\(¬ hd y.2<0->x=Gi 2 (zQ n y.2)/\Hid (Below w.heap.size w w'))
end Go.Proofs.YtfolanohokflkaaGreatDoor
namespace Go.Proofs.YtfolanohokflkaaGreatDoor
open Go.RowKit
abbrev acW (s:ByteArray):Obj:=.cells #[.string s,.int .i64 0,.int .i64 0] 221
theorem Mv {w w':World} {o:Obj} (h0:Up (w.heap.size+1) (w.alloc o) w'):Below w.heap.size w w':=by
 have e:(w.alloc o).heap.size=w.heap.size+1:=by simp
 have h:=h0
 rw [<-e] at h
 have h1:Below w.heap.size w (w.alloc o):=(Below.refl _ w).alloc (Nat.le_refl _) _
 exact h1.trans ((aa (JO (hide h))).mono (by simp))
theorem aaP {w3 w4:World} {b:Nat} {n:Nd} (hu:Up b (w3.alloc (aD n)) w4) (hb:b<w3.heap.size):Hid (ax w4 w3.heap.size n):=ax.up (hide (ax.new w3 n)) hu (by omega)
set_option maxRecDepth 100000 in
set_option maxHeartbeats 4000000 in
theorem qz (w:World) (s:ByteArray) (hs:s.size<=60) (ht:Hid (Lib.Utf8Tabs 4 5 w)) :
  Calls Tryz.prog 99 #[.string s] w (acV (bM s.size (bF s.size 8) (af s 0)) s.size w):=by
 have hlt:=lv (aa ht)
 have ht1:Lib.Utf8Tabs 4 5 (w.alloc (aD nd0)):=iG (aa ht) (Below.heap_alloc w _ 4 (by omega)) (Below.heap_alloc w _ 5 (by omega))
 have hsz1:(w.alloc (aD nd0)).heap.size=w.heap.size+1:=by simp
 have HP:=aaO (w.alloc (aD nd0)) s hs ht1
 rw [hsz1] at HP
 have HC:=hide (B_ (Zc (w.heap.size+1) s 8 (Nat.le_refl _)) _ _ (PL.base HP))
 have HAT:=hide (ax.new w nd0)
 have hsz2:((w.alloc (aD nd0)).alloc (acW s)).heap.size=w.heap.size+2:=by simp
 clear ht ht1 hlt
 cases hR:bM s.size (bF s.size 8) (af s 0) with
 | error y=>
  have HR:=hide hR
  clear hR
  go_enter Tryz.func99,Tryz.ntmps99
  go_wp2_with (first
   | (go_at_call 147;refine (kF (aa HC) HR).mono ?_;rintro x w2 ⟨rfl,HU⟩;have HB:=hide (Mv ((PL.up HP).trans (aa HU)))))
  exact ⟨rfl,rfl,HB⟩
 | ok y=>
  obtain ⟨z,l1⟩:=y
  have HR:=hide hR
  clear hR
  have hge:=hd_ge' l1
  by_cases he:hd l1<0
  ·have HE:Hid (hd l1=-1):=by show _=_;omega
   go_enter Tryz.func99,Tryz.ntmps99
   go_wp2_with (first
    | (go_at_call 147;refine (kH (aa HC) HR).mono ?_;simp only [gN];rintro x w3 ⟨n,rfl,HN,oD⟩;have HT3:=PL.join (PL.up HP) oD;have hb3:=PL.lt HT3;have hs3:=(PL.up oD).size;have yx:=PL.alloc HT3 (aD n))
    | (go_at_call 148;refine (dH (PL.base yx) (-1) HE).mono ?_;rintro x w5 ⟨rfl,AU⟩;have qD:=PL.join (PL.up yx) AU;have qx:=aaP (PL.up AU) hb3;have oK:=ax.up HAT (PL.up qD) (by omega);obtain ⟨g0,g1,g2,g3,g4,g5,g6⟩:=ax.cells (aa qx);obtain ⟨c0,c1,c2,c3,c4,c5,c6⟩:=ax.cells (aa oK);have cf:=ax.fz (aa oK)))
   change bodyPost _ _ _ _ _ (bJ w5 w.heap.size n)
   refine jI (rb:=w.heap.size) (n:=n) 2 rfl rfl rfl (hide (ax.set (aa oK))) ?_
   have HN5:Hid (aY (bJ w5 w.heap.size n) (fun k=>w.heap.size<=k) n z):=aY.move HN fun j hj hl=>by
    have hj':w.heap.size+2<=j:=Nat.le_trans (Nat.le_of_eq hsz2.symm) hj
    refine ⟨?_,by omega⟩
    rw [dh (by omega),(PL.up AU).block j (by simp;omega) (by omega),Below.heap_alloc w3 _ j hl]
   exact ⟨fun _=>⟨n,rfl,HN5,yA (Mv (PL.up qD)) (Nat.le_refl _)⟩,fun hh=>absurd he hh⟩
  ·have HE:Hid (¬ hd l1=-1):=by show ¬ _=_;omega
   go_enter Tryz.func99,Tryz.ntmps99
   go_wp2_with (first
    | (go_at_call 147;refine (kH (aa HC) HR).mono ?_;simp only [gN];rintro x w3 ⟨n,rfl,HN,oD⟩;have HT3:=PL.join (PL.up HP) oD;have hb3:=PL.lt HT3;have yx:=PL.alloc HT3 (aD n))
    | (go_at_call 148;refine (qW yx (-1) HE).mono ?_;rintro x w5 ⟨rfl,HU⟩))
   exact ⟨rfl,fun hh=>absurd hh (Int.not_lt.2 he),fun _=>⟨rfl,hide (Mv (aa HU))⟩⟩
end Go.Proofs.YtfolanohokflkaaGreatDoor
