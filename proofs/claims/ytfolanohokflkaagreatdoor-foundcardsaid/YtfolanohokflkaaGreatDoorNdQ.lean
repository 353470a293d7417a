import Derived.Test.YtfolanohokflkaaGreatDoorClsB
import Derived.WalkKit
import Derived.WalkSpells
import Derived.WalkLawsBesides
import Derived.WalkMore
import Derived.Test.YtfolanohokflkaaGreatDoorPSame
import Derived.BigRegion
import Derived.Deep.RegionWith
namespace Go.Proofs.YtfolanohokflkaaGreatDoor
open Go.RowKit
def bI (w:World) (rb:Nat) (n:Nd):World:=
 ((((((w.setCell ⟨rb,0,none⟩ (.int .i64 n.sh)).setCell ⟨rb,1,none⟩ (.slice n.pa n.pn n.pc)).setCell ⟨rb,2,none⟩ (.string n.ss)).setCell ⟨rb,3,none⟩ (.int .i64 n.le)).setCell ⟨rb,4,none⟩ (.int .i64 n.mo)).setCell ⟨rb,5,none⟩ (.int .i64 n.fa)).setCell ⟨rb,6,none⟩ (.int .i64 n.sz)
def aA (w:World) (rb:Nat) (n:Nd):Prop:=w.heap[rb]? = some (.cells (Lu n).toArray 65 (0,0))
def nd0:Nd:=⟨0,none,0,0,⟨#[]⟩,0,0,0,0⟩
abbrev aD (n:Nd):Obj:=.cells #[.int .i64 n.sh,.slice n.pa n.pn n.pc,.string n.ss,.int .i64 n.le,.int .i64 n.mo,.int .i64 n.fa,.int .i64 n.sz] 65
theorem aA.new (w:World) (n:Nd):aA (w.alloc (aD n)) w.heap.size n:=heap_alloc_new w _
section
variable {w:World} {rb:Nat} {n m:Nd}
theorem dh {k:Nat} (hk:k≠rb):(bI w rb n).heap[k]? = w.heap[k]? := by
 unfold bI
 iterate 7 rw [Below.heap_setCell _ _ _ k hk]
theorem nT:(bI w rb n).heap.size=w.heap.size:=by simp [bI,World.setCell]
theorem aA.lt (h:aA w rb n):rb<w.heap.size:=(Array.getElem?_eq_some_iff.1 h).1
theorem aA.set (h:aA w rb m):aA (bI w rb n) rb n:=by
 have h0:=heap_setCell_same w rb 0 _ _ (.int .i64 n.sh) h
 have h1:=heap_setCell_same _ rb 1 _ _ (.slice n.pa n.pn n.pc) h0
 have h2:=heap_setCell_same _ rb 2 _ _ (.string n.ss) h1
 have h3:=heap_setCell_same _ rb 3 _ _ (.int .i64 n.le) h2
 have h4:=heap_setCell_same _ rb 4 _ _ (.int .i64 n.mo) h3
 have h5:=heap_setCell_same _ rb 5 _ _ (.int .i64 n.fa) h4
 have h6:=heap_setCell_same _ rb 6 _ _ (.int .i64 n.sz) h5
 unfold aA bI
 rw [h6]
 simp [Lu]
theorem aA.cells (h:aA w rb n):w.cell? ⟨rb,0,none⟩=some (.int .i64 n.sh)/\w.cell? ⟨rb,1,none⟩=some (.slice n.pa n.pn n.pc)/\w.cell? ⟨rb,2,none⟩=some (.string n.ss)/\w.cell? ⟨rb,3,none⟩=some (.int .i64 n.le)/\w.cell? ⟨rb,4,none⟩=some (.int .i64 n.mo)/\w.cell? ⟨rb,5,none⟩=some (.int .i64 n.fa)/\w.cell? ⟨rb,6,none⟩=some (.int .i64 n.sz):=by
 have e:w.heap[rb]? = _:=h
 refine ⟨?_,?_,?_,?_,?_,?_,?_⟩<;>simp [World.cell?,e,Lu]
theorem aA.fz (h:aA w rb n) (j:Nat):w.frozen? ⟨rb,j,none⟩=false:=by
 have e:w.heap[rb]? = _:=h
 simp [World.frozen?,e]
theorem aA.move {w':World} (h:aA w rb n) (e:w'.heap[rb]? = w.heap[rb]?):aA w' rb n:=e.trans h
theorem aA.up {w':World} {b:Nat} (h:Hid (aA w rb n)) (hu:Up b w w') (hb:rb≠b):Hid (aA w' rb n):=(hu.block rb (aA.lt (aa h)) hb).trans (aa h)
theorem aA.alloc (h:Hid (aA w rb n)) (o:Obj):Hid (aA (w.alloc o) rb n):=aA.move (aa h) (Below.heap_alloc w o rb (aA.lt (aa h)))
end
section
variable {w0 w:World} {b:Nat} {s:ByteArray} {d:Int} {l:List Sy}
theorem PL.bI (h:Hid (PL w0 w b s d l)) {rb:Nat} (h0:w0.heap.size<=rb) (hb:b<rb) (n:Nd):Hid (PL w0 (bI w rb n) b s d l):=
 PL.set (PL.set (PL.set (PL.set (PL.set (PL.set (PL.set h h0 hb 0 _) h0 hb 1 _) h0 hb 2 _) h0 hb 3 _) h0 hb 4 _) h0 hb 5 _) h0 hb 6 _
theorem nU {w':World} {o:Obj} {l':List Sy} (h:Hid (PL w0 w b s d l)) (h':Hid (PL (w.alloc o) w' b s d l')) (n:Nd):Hid (PL w0 (Proofs.YtfolanohokflkaaGreatDoor.bI w' w.heap.size n) b s d l'):=
 PL.bI (PL.join ((PL.up h).trans (Bu w o)) h') (PL.up h).size (PL.lt h) n
def oC (f:Nat) (sub:List Sy->bu Pn) (b:Nat) (s:ByteArray) (d:Int):Prop:=
 ∀ w l,Hid (PL w w b s d l)->Calls Tryz.prog f #[.pointer (some ⟨b,0,none⟩)] w (Gm (sub l) w b s d)
theorem jF {fn:Func} {Q:Ending->World->Prop} {a:Act} {W:World} {rb:Nat} {n:Nd} (t:Nat) (hr:fn.results=#[.cell t 65]) (ht:a.tmps.getD t undef=.pointer (some ⟨rb,0,none⟩)) (hd:a.defers=[]) (hat:Hid (aA W rb n)) (hq:Q (.returned (gD n)) W):bodyPost Tryz.prog fn Q .ret a W:=by
 obtain ⟨k0,k1,k2,k3,k4,k5,k6⟩:=aA.cells (aa hat)
 refine bodyPost_ret (v:=gD n) ?_ hd hq
 have ht':a.tmps[t]?.getD undef=.pointer (some ⟨rb,0,none⟩):=by simpa using ht
 simp [results,hr,ht',go_sem,k0,k1,k2,k3,k4,k5,k6,gD]
end
end Go.Proofs.YtfolanohokflkaaGreatDoor
namespace Go.Proofs.YtfolanohokflkaaGreatDoor
open Go.RowKit
section
variable {w0 w:World} {b:Nat} {s:ByteArray} {d:Int} {l:List Sy}
set_option maxRecDepth 100000 in
set_option maxHeartbeats 8000000 in
theorem aai (h:Hid (PL w w b s d l)) (hn:¬ hd l=40) :
  Calls Tryz.prog 304 #[.pointer (some ⟨b,0,none⟩)] w (Gm (og (gp s.size l)) w b s d):=by
 obtain ⟨R,hR⟩:∃ R,gp s.size l=R:=⟨_,rfl⟩
 rw [hR]
 obtain ⟨c,hcc⟩:∃ c,hd l=c:=⟨_,rfl⟩
 have gP:=hide hcc
 have k1:(c==40)=false:=by rw [<-hcc];simpa using hn
 have dK:=jE h (aD nd0)
 have HAT:=hide (aA.new w nd0)
 have hne:w.heap.size≠b:=by have:=PL.lt h;omega
 have zM:Hid (∀ w',Hid (Up b (w.alloc (aD nd0)) w')->Hid (Up b w w')):=fun w' hu=>jD h hu
 have Bv:Hid (∀ w' l' n,Hid (PL (w.alloc (aD nd0)) w' b s d l')->Hid (PL w (bI w' w.heap.size n) b s d l')):=fun w' l' n h'=>nU h h' n
 have HR:=hide hR
 clear hR hcc hn h
 cases R with
 | error y=>
  go_enter Tryz.func304,Tryz.ntmps304
  go_wp2_with (first
   | (go_at_call 251;refine (d_ dK gP).mono ?_;clear dK;rintro x w1 ⟨rfl,HS⟩)
   | (go_at_call 321;refine (h_ (Ox HS) HR).mono ?_;rintro x w2 ⟨rfl,HU⟩))
  exact ⟨rfl,rfl,aa zM _ HU⟩
 | ok y=>
  obtain ⟨z,l1⟩:=y
  go_enter Tryz.func304,Tryz.ntmps304
  go_wp2_with (first
   | (go_at_call 251;refine (d_ dK gP).mono ?_;clear dK;rintro x w1 ⟨rfl,HS⟩)
   | (go_at_call 321;refine (dL (Ox HS) HR).mono ?_;clear HS;rintro x w2 ⟨rfl,HS⟩;have HA2:=aA.up HAT (PL.up HS) hne;obtain ⟨c0,c1,c2,c3,c4,c5,c6⟩:=aA.cells (aa HA2);have f0:=aA.fz (aa HA2)))
  change bodyPost _ _ _ _ _ (bI w2 w.heap.size ⟨0,none,0,0,encS z,0,0,0,1⟩)
  refine jF (rb:=w.heap.size) (n:=⟨0,none,0,0,encS z,0,0,0,1⟩) 2 rfl rfl rfl (hide (aA.set (aa HA2))) ?_
  exact ⟨_,rfl,⟨rfl,.set rfl rfl rfl⟩,aa Bv _ _ _ HS⟩
end
end Go.Proofs.YtfolanohokflkaaGreatDoor
namespace Go.Proofs.YtfolanohokflkaaGreatDoor
open Go.RowKit
section
variable {w0 w:World} {b:Nat} {s:ByteArray} {d:Int} {l:List Sy}
theorem PL.c2 (h:Hid (PL w0 w b s d l)):w.cell? ⟨b,2,none⟩=some (.int .i64 d):=by
 obtain ⟨p,h1,rfl⟩:=aa h
 exact h1.c2
theorem PL.f2 (h:Hid (PL w0 w b s d l)):w.frozen? ⟨b,2,none⟩=false:=by
 obtain ⟨p,h1,rfl⟩:=aa h
 exact h1.fz 2
theorem PL.jy (h:Hid (PL w0 w b s d l)) (d':Int):Hid (PL w0 (w.setCell ⟨b,2,none⟩ (.int .i64 d')) b s d' l):=by
 obtain ⟨p,h1,rfl⟩:=aa h
 exact PL.of (PS.jy h1 d')
set_option maxRecDepth 100000 in
set_option maxHeartbeats 4000000 in
theorem KJ (h:Hid (PL w w b s 8 l)) :
  Calls Tryz.prog 320 #[.pointer (some ⟨b,0,none⟩)] w (Gm (bad 4 s.size l) w b s d):=by
 have dK:=jE h (aD nd0)
 have q2:(w.alloc (.cells #[.int .i64 0,.slice none 0 0,.string ⟨#[]⟩,.int .i64 0,.int .i64 0,.int .i64 0,.int .i64 0] 65)).cell? ⟨b,2,none⟩=some (.int .i64 8):=PL.c2 dK
 have zM:Hid (∀ w',Hid (Up b (w.alloc (aD nd0)) w')->Hid (Up b w w')):=fun w' hu=>jD h hu
 clear h
 go_enter Tryz.func320,Tryz.ntmps320
 go_wp2_with (first
  | (go_at_call 220;refine (jI dK 4).mono ?_;rintro x w2 ⟨rfl,HU⟩))
 exact ⟨rfl,rfl,aa zM _ HU⟩
theorem VW {w2 w3 w5:World} {o:Obj} {n m:Nd} {z:Pn} {u u':Value} {wz:Nat}
  (HN:Hid (aY w3 (fun k=>(w2.setCell ⟨b,2,none⟩ u).heap.size<=k) n z)) (hz:wz<w2.heap.size) (hb:b<w2.heap.size)
  (hu:Up b ((w3.setCell ⟨b,2,none⟩ u').alloc o) w5):Hid (aY (bI w5 wz m) (fun k=>wz<=k) n z):=by
 have e2:(w2.setCell ⟨b,2,none⟩ u).heap.size=w2.heap.size:=by simp [World.setCell]
 refine aY.move HN fun k hk hl=>?_
 rw [e2] at hk
 refine ⟨?_,by omega⟩
 rw [dh (by omega),hu.block k (by simp [World.setCell];omega) (by omega),Below.heap_alloc _ o k (by simpa [World.setCell] using hl),Below.heap_setCell _ ⟨b,2,none⟩ _ k (by show k≠b;omega)]
theorem abC {w3 w5:World} {n:Nd} {u:Value} (hb:b<w3.heap.size) (hu:Up b ((w3.setCell ⟨b,2,none⟩ u).alloc (aD n)) w5):Hid (aA w5 w3.heap.size n):=by
 have e:(w3.setCell ⟨b,2,none⟩ u).heap.size=w3.heap.size:=by simp [World.setCell]
 have hn:=aA.new (w3.setCell ⟨b,2,none⟩ u) n
 rw [e] at hn
 exact aA.move hn (hu.block w3.heap.size (by simp [World.setCell]) (by omega))
set_option maxRecDepth 100000 in
set_option maxHeartbeats 8000000 in
theorem abD {sub:List Sy->bu Pn} (HA:Hid (oC 147 sub b s (d+1))) (hd0:0<=d) (hd8:d<8) (h:Hid (PL w w b s d l)) (KL:Hid (hd l=40)) :
  Calls Tryz.prog 320 #[.pointer (some ⟨b,0,none⟩)] w (Gm (I6 s.size (sub l.tail)) w b s d):=by
 have dK:=jE h (aD nd0)
 have hbw:=PL.lt h
 have q2:(w.alloc (.cells #[.int .i64 0,.slice none 0 0,.string ⟨#[]⟩,.int .i64 0,.int .i64 0,.int .i64 0,.int .i64 0] 65)).cell? ⟨b,2,none⟩=some (.int .i64 d):=PL.c2 dK
 have zM:Hid (∀ w',Hid (Up b (w.alloc (aD nd0)) w')->Hid (Up b w w')):=fun w' hu=>jD h hu
 have Bv:Hid (∀ w' l' n,Hid (PL (w.alloc (aD nd0)) w' b s d l')->Hid (PL w (bI w' w.heap.size n) b s d l')):=fun w' l' n h'=>nU h h' n
 have HAT:=hide (aA.new w nd0)
 have hsz1:(w.alloc (aD nd0)).heap.size=w.heap.size+1:=by simp
 have k8:(d==8)=false:=by simp;omega
 clear h
 cases hi:sub l.tail with
 | error y=>
  have HI:=hide hi
  clear hi
  go_enter Tryz.func320,Tryz.ntmps320
  go_wp2_with (first
   | (go_at_call 148;refine (dI dK 40 KL).mono ?_;clear dK q2;rintro x w2 ⟨rfl,HS⟩;have q2:=PL.c2 HS;have f2:=PL.f2 HS)
   | (go_at_call 147;refine (kL (aa HA _ _ (PL.base (PL.jy HS (d+1)))) HI).mono ?_;rintro x w3 ⟨rfl,HU⟩;have lv:=hide ((PL.up (PL.jy HS (d+1))).trans (aa HU))))
  exact ⟨rfl,rfl,aa zM _ lv⟩
 | ok y=>
  obtain ⟨z,l1⟩:=y
  have HI:=hide hi
  clear hi
  rw [I6]
  by_cases h41:hd l1=41
  ·rw [if_pos h41]
   have H41:=hide h41
   clear h41
   go_enter Tryz.func320,Tryz.ntmps320
   go_wp2_with (first
    | (go_at_call 148;refine (dI dK 40 KL).mono ?_;clear dK q2;rintro x w2 ⟨rfl,HS⟩;have q2:=PL.c2 HS;have f2:=PL.f2 HS;have hs2:=(PL.up HS).size)
    | (go_at_call 147;refine (kM (aa HA _ _ (PL.base (PL.jy HS (d+1)))) HI).mono ?_;simp only [gD];rintro x w3 ⟨n,rfl,HN,mG⟩;have HT3:=PL.join (PL.up (PL.jy HS (d+1))) mG;have hb3:=PL.lt HT3;have yU:=PL.alloc HT3 (aD n);clear q2 f2;have q2:=PL.c2 yU;have f2:=PL.f2 yU;have hb2:=PL.lt HS;have HT4':=PL.alloc (PL.jy HT3 d) (aD n);clear HS mG HT3 yU)
    | (go_at_call 148;refine (dI (PL.base HT4') 41 H41).mono ?_;rintro x w5 ⟨rfl,BI⟩;have qN:=PL.join (PL.up HT4') BI;have kV:=abC hb3 (PL.up BI);have oM:=aA.up HAT (PL.up qN) (by omega);obtain ⟨g0,g1,g2,g3,g4,g5,g6⟩:=aA.cells (aa kV);obtain ⟨c0,c1,c2,c3,c4,c5,c6⟩:=aA.cells (aa oM);have cf:=aA.fz (aa oM);clear q2 f2 HT4'))
   change bodyPost _ _ _ _ _ (bI w5 w.heap.size n)
   refine jF (rb:=w.heap.size) (n:=n) 2 rfl rfl rfl (hide (aA.set (aa oM))) ?_
   exact ⟨n,rfl,VW HN (by omega) hb2 (PL.up BI),aa Bv _ _ _ qN⟩
  ·rw [if_neg h41]
   have H41:=hide h41
   clear h41
   go_enter Tryz.func320,Tryz.ntmps320
   go_wp2_with (first
    | (go_at_call 148;refine (dI dK 40 KL).mono ?_;clear dK q2;rintro x w2 ⟨rfl,HS⟩;have q2:=PL.c2 HS;have f2:=PL.f2 HS;have hs2:=(PL.up HS).size)
    | (go_at_call 147;refine (kM (aa HA _ _ (PL.base (PL.jy HS (d+1)))) HI).mono ?_;simp only [gD];rintro x w3 ⟨n,rfl,HN,mG⟩;have HT3:=PL.join (PL.up (PL.jy HS (d+1))) mG;have hb3:=PL.lt HT3;have yU:=PL.alloc HT3 (aD n);clear q2 f2;have q2:=PL.c2 yU;have f2:=PL.f2 yU;have HT4':=PL.alloc (PL.jy HT3 d) (aD n);clear HS mG HT3 yU)
    | (go_at_call 148;refine (rz HT4' 41 H41).mono ?_;rintro x w5 ⟨rfl,HU⟩))
   exact ⟨rfl,rfl,aa zM _ HU⟩
end
end Go.Proofs.YtfolanohokflkaaGreatDoor
namespace Go.Proofs.YtfolanohokflkaaGreatDoor
open Go.RowKit
theorem yV:∀ (aN:List Nd) (k:Nat) (h:k<aN.length) (j:Nat),j<7->(dG aN)[k*7+j]? = (Lu aN[k])[j]?
 | [],_,h,_,_=>absurd h (by simp)
 | n::r,0,_,j,hj=>by
  rw [dG,List.getElem?_append_left (by simp [Lu];omega)]
  simp
 | n::r,k+1,h,j,hj=>by
  rw [dG,List.getElem?_append_right (by simp [Lu];omega)]
  have e:(k+1)*7+j - (Lu n).length=k*7+j:=by simp [Lu];omega
  rw [e,yV r k (by simpa using h) j hj]
  simp
def nV (w:World) (g off:Nat) (n:Nd):Prop:=w.cell? ⟨g,off,none⟩=some (.int .i64 n.sh)/\w.cell? ⟨g,off+1,none⟩=some (.slice n.pa n.pn n.pc)/\w.cell? ⟨g,off+2,none⟩=some (.string n.ss)/\w.cell? ⟨g,off+3,none⟩=some (.int .i64 n.le)/\w.cell? ⟨g,off+4,none⟩=some (.int .i64 n.mo)/\w.cell? ⟨g,off+5,none⟩=some (.int .i64 n.fa)/\w.cell? ⟨g,off+6,none⟩=some (.int .i64 n.sz)
theorem pM {w:World} {g:Nat} {aN:List Nd} (hc:∀ j,j<aN.length*7->w.cell? ⟨g,j,none⟩=(dG aN)[j]?) (k:Nat) (h:k<aN.length):nV w g (k*7) aN[k]:=by
 have hk:∀ j,j<7->w.cell? ⟨g,k*7+j,none⟩=(Lu aN[k])[j]? := fun j hj=>(hc (k*7+j) (by omega)).trans (yV aN k h j hj)
 exact ⟨hk 0 (by decide),hk 1 (by decide),hk 2 (by decide),hk 3 (by decide),hk 4 (by decide),hk 5 (by decide),hk 6 (by decide)⟩
theorem nV.below {w w':World} {g off B:Nat} {n:Nd} (h:nV w g off n) (hb:Below B w w') (hg:g<B):nV w' g off n:=by
 obtain ⟨h0,h1,h2,h3,h4,h5,h6⟩:=h
 have e:∀ j v,w.cell? ⟨g,j,none⟩=some v->w'.cell? ⟨g,j,none⟩=some v:=fun j v q=>by rw [hb.cell (p:=⟨g,j,none⟩) hg];exact q
 exact ⟨e _ _ h0,e _ _ h1,e _ _ h2,e _ _ h3,e _ _ h4,e _ _ h5,e _ _ h6⟩
theorem acU (w:World) (a:Addr) (v:Value):(w.setCell a v).os=w.os:=rfl
theorem KM (w:World) (rb:Nat) (n:Nd):(bI w rb n).os=w.os:=by
 unfold bI
 iterate 7 rw [acU]
theorem Y7 (w:World) (a:Addr) (v:Value):(w.setCell a v).tape=w.tape:=rfl
theorem CP (w:World) (rb:Nat) (n:Nd):(bI w rb n).tape=w.tape:=by
 unfold bI
 iterate 7 rw [Y7]
theorem R6 (w:World) (a:Addr) (v:Value):(w.setCell a v).output=w.output:=rfl
theorem wT (w:World) (rb:Nat) (n:Nd):(bI w rb n).output=w.output:=by
 unfold bI
 iterate 7 rw [R6]
theorem yX {B:Nat} {w w':World} (h:Below B w w') {rb:Nat} (hr:B<=rb) {n:Nd}:Hid (Below B w (bI w' rb n)):=
 ⟨(KM w' rb n).trans h.os,(CP w' rb n).trans h.tape,(wT w' rb n).trans h.output,by rw [nT];exact h.size,fun k hk=>(dh (by omega)).trans (h.block k hk)⟩
def yu (ps:List Pn) (k:Nat):Int:=min (((ps.length:Int) - 1)+dJ (ps.take k)) 61
theorem R7 {ps:List Pn} (h1:ps.length<=62):yu ps 0=(ps.length:Int) - 1:=by simp [yu,dJ];omega
theorem VX (ps:List Pn):yu ps ps.length=vo ps:=by rw [yu,List.take_length];rfl
theorem pz.take {ps:List Pn} (h:pz ps) (k:Nat):pz (ps.take k):=fun p hp=>h p (List.mem_of_mem_take hp)
theorem R8 {ps:List Pn} (hB:pz ps) (k:Nat) (hk:k<ps.length):yu ps (k+1)=dB (yu ps k+ps[k].2):=by
 have hs:=wu (hB.take k)
 have hp:=hB ps[k] (List.getElem_mem hk)
 rw [Ow,yu,yu,List.take_succ_eq_append_getElem hk,xP]
 omega
theorem abE {ps:List Pn} (hB:pz ps) (h0:0<ps.length) (k:Nat):0<=yu ps k/\yu ps k<=61:=by
 have hs:=wu (hB.take k)
 unfold yu;omega
set_option maxRecDepth 100000 in
set_option maxHeartbeats 8000000 in
theorem uZ (w:World) (sh:Int) (ao:Option Addr) (cap:Nat) (aN:List Nd) (ps:List Pn) {B:Nat} (h0:0<aN.length) (h62:aN.length<=62) (ho:w.ownsRow B 65 7 (.slice ao aN.length cap) aN.length (dG aN))
  (hl:aN.length=ps.length) (hz:∀ (i:Nat) (h:i<aN.length) (h':i<ps.length),aN[i].sz=ps[i].2) (hB:pz ps) :
  Calls Tryz.prog 216 #[.int .i64 sh,.slice ao aN.length cap] w fun x w'=>x=.returned (gD ⟨sh,ao,aN.length,cap,⟨#[]⟩,0,0,0,vo ps⟩)/\Hid (Below w.heap.size w w'):=by
 obtain ⟨ao',cap',e,hv⟩:=aQ ho
 obtain ⟨g,rfl,-,hg,hc,-⟩:=hv h0
 cases e
 have HC:=hide hc
 have HZ:=hide hz
 have HBB:=hide hB
 have hz0:=R7 (ps:=ps) (by omega)
 rw [<-hl] at hz0
 have hsz:(w.alloc (aD nd0)).heap.size=w.heap.size+1:=by simp
 have HAT:=hide (aA.new w nd0)
 have HG:Hid (∀ k,k<w.heap.size->(w.alloc (aD nd0)).heap[k]? = w.heap[k]?):=fun k hk=>Below.heap_alloc w _ k hk
 have HLL:=hide hl
 clear hc hv ho hz hB hl
 have hlI:((aN.length:Int))<=62:=by omega
 go_enter Tryz.func216,Tryz.ntmps216
 go_wp2_with fail
 go_loopw [5,13] (fun sz i wr=>∃ k:Nat,k<=aN.length/\i=.int .i64 k/\sz=.int .i64 (yu ps k)/\Hid (Below (w.heap.size+1) (w.alloc (aD nd0)) wr)) (fun _ i _=>aN.length - (intOf i).toNat)
 case atStart=>exact ⟨0,Nat.zero_le _,rfl,by rw [hz0],Below.refl _ _⟩
 case round=>
  obtain ⟨k,hk,rfl,rfl,QJ⟩:=hrel
  have hwr:=(aa QJ).size
  rw [hsz] at hwr
  have hl:=aa HLL
  obtain ⟨ha0,adI⟩:=abE (aa HBB) (by omega) k
  by_cases hlt:k<aN.length
  ·have hst:=R8 (aa HBB) k (by omega)
   have hpz:=aa HZ k hlt (by omega)
   have hpb:=aa HBB ps[k] (List.getElem_mem (by omega))
   rw [<-hpz] at hst hpb
   have hcw:nV w g (k*7) aN[k]:=pM (aa HC) k hlt
   have acV:nV (w.alloc (aD nd0)) g (k*7) aN[k]:=hcw.below ((Below.refl _ w).alloc (Nat.le_refl _) _) hg
   obtain ⟨c0,c1,c2,c3,c4,c5,c6⟩:=acV.below (aa QJ) (by omega)
   have acW:=hide ((aa QJ).alloc hwr (aD aN[k]))
   have HST:=hide hst
   clear hst hcw acV hpz hl
   generalize aN[k]=n at c0 c1 c2 c3 c4 c5 c6 HST hpb acW
   generalize yu ps k=z at *
   obtain ⟨hn0,acX⟩:=hpb
   go_wp2_with (go_at_call 249;refine (zF _ _).mono ?_;rintro x w6 ⟨rfl,rfl⟩)
   go_roundw
   case rel=>exact ⟨k+1,by omega,by go_num,by rw [aa HST],acW⟩
   case measure=>simp [intOf];omega
  ·have hkl:k=aN.length:=by omega
   subst hkl
   have hall:=VX ps
   rw [<-hl] at hall
   have HR:=hide (aA.move (aa HAT) ((aa QJ).block w.heap.size (by omega)))
   obtain ⟨c0,c1,c2,c3,c4,c5,c6⟩:=aA.cells (aa HR)
   have cf:=aA.fz (aa HR)
   rw [hall]
   clear hall ha0 adI hl
   go_wp2_with fail
   change bodyPost _ _ _ _ _ (bI wr w.heap.size ⟨sh,some ⟨g,0,none⟩,aN.length,cap,⟨#[]⟩,0,0,0,vo ps⟩)
   refine jF (rb:=w.heap.size) (n:=⟨sh,some ⟨g,0,none⟩,aN.length,cap,⟨#[]⟩,0,0,0,vo ps⟩) 4 rfl rfl rfl (hide (aA.set (aa HR))) ?_
   exact ⟨rfl,yX (((Below.refl _ w).alloc (Nat.le_refl _) (aD nd0)).trans ((aa QJ).mono (Nat.le_succ _))) (Nat.le_refl _)⟩
end Go.Proofs.YtfolanohokflkaaGreatDoor
namespace Go.Proofs.YtfolanohokflkaaGreatDoor
theorem VY (n:Int):dB n<=61:=by unfold dB;split<;>omega
theorem VZ {n:Int} (h:0<=n):0<=dB n:=by unfold dB;split<;>omega
theorem Ph {m:Int} (h0:0<=m) (h1:m<=12):0<=j_ m/\j_ m<=12:=by unfold j_;split<;>omega
theorem CQ {n:Nat} {least:Int} {l:List Sy} {y:Int×List Sy} (h:bU n least l=.ok y):0<=y.1/\y.1<=12:=by
 unfold bU at h
 split at h
 ·rename_i hdig
  have hdig':48<=hd l/\hd l<=57:=by simpa [iJ] using hdig
  split at h
  ·cases h
  ·rename_i h2
   injection h with h
   subst h
   refine ⟨?_,by omega⟩
   unfold kT
   split
   ·rename_i h3
    have h4:48<=hd l.tail/\hd l.tail<=57:=by simpa [iJ] using h3.2
    dsimp only;omega
   ·dsimp only;omega
 ·cases h
theorem Fs {n:Nat} {m:Int} {l:List Sy} {y:Int×List Sy} (h:qQ n m l=.ok y):y.1=m:=by
 unfold qQ at h
 split at h
 ·injection h with h;subst h;rfl
 ·cases h
theorem Nr {n:Nat} {l:List Sy} {y:Int×List Sy} (h:pY n l=.ok y):0<=y.1/\y.1<=13:=by
 unfold pY at h
 split at h
 ·unfold sI at h
  split at h
  ·cases h
  ·rename_i a l1 h1
   have g1:=CQ h1
   dsimp only at g1
   split at h
   ·split at h
    ·injection h with h;subst h;dsimp only;omega
    ·split at h
     ·cases h
     ·rename_i m l2 h2
      have g2:=CQ h2
      dsimp only at g2
      have g3:=Fs h
      have:=Ph g2.1 g2.2
      omega
   ·have g3:=Fs h
    have:=Ph g1.1 g1.2
    omega
 ·injection h with h;subst h;dsimp only;omega
end Go.Proofs.YtfolanohokflkaaGreatDoor
namespace Go.Proofs.YtfolanohokflkaaGreatDoor
open Go.RowKit
def wU:Nat->Pn->Pn
 | 0,p=>p
 | k+1,p=>wU k (I5 p)
theorem R9 (r:bu Pn):oI (wU 0) r=r:=by cases r<;>rfl
theorem R_ {n:Nat} {at_:List Sy->bu Pn} {k f:Nat} {l:List Sy} (h:hd l=126):oI (wU k) (dZ n at_ (f+1) l)=oI (wU (k+1)) (dZ n at_ f l.tail):=by
 rw [dZ,if_pos h]
 cases dZ n at_ f l.tail<;>rfl
section
variable {w0 w:World} {b:Nat} {s:ByteArray} {d:Int} {l:List Sy}
end
end Go.Proofs.YtfolanohokflkaaGreatDoor
