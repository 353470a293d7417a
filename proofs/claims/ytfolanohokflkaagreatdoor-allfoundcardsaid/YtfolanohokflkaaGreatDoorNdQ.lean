import Derived.Test.YtfolanohokflkaaGreatDoorBsA
import Derived.WalkKit
import Derived.WalkSpells
import Derived.WalkLawsBesides
import Derived.WalkMore
import Derived.Test.YtfolanohokflkaaGreatDoorPSame
import Derived.BigRegion
import Derived.Deep.RegionWith
namespace Go.Proofs.YtfolanohokflkaaGreatDoor
open Go.RowKit
def bH (w:World) (rb:Nat) (n:Nd):World:=
 ((((((w.setCell ⟨rb,0,none⟩ (.int .i64 n.sh)).setCell ⟨rb,1,none⟩ (.slice n.pa n.pn n.pc)).setCell ⟨rb,2,none⟩ (.string n.ss)).setCell ⟨rb,3,none⟩ (.int .i64 n.le)).setCell ⟨rb,4,none⟩ (.int .i64 n.mo)).setCell ⟨rb,5,none⟩ (.int .i64 n.fa)).setCell ⟨rb,6,none⟩ (.int .i64 n.sz)
def au (w:World) (rb:Nat) (n:Nd):Prop:=w.heap[rb]? = some (.cells (LX n).toArray 65 (0,0))
def nd0:Nd:=⟨0,none,0,0,⟨#[]⟩,0,0,0,0⟩
abbrev aB (n:Nd):Obj:=.cells #[.int .i64 n.sh,.slice n.pa n.pn n.pc,.string n.ss,.int .i64 n.le,.int .i64 n.mo,.int .i64 n.fa,.int .i64 n.sz] 65
theorem au.new (w:World) (n:Nd):au (w.alloc (aB n)) w.heap.size n:=heap_alloc_new w _
section
variable {w:World} {rb:Nat} {n m:Nd}
theorem cO {k:Nat} (hk:k≠rb):(bH w rb n).heap[k]? = w.heap[k]? := by
 unfold bH
 iterate 7 rw [Below.heap_setCell _ _ _ k hk]
theorem nT:(bH w rb n).heap.size=w.heap.size:=by simp [bH,World.setCell]
theorem au.lt (h:au w rb n):rb<w.heap.size:=(Array.getElem?_eq_some_iff.1 h).1
theorem au.set (h:au w rb m):au (bH w rb n) rb n:=by
 have h0:=heap_setCell_same w rb 0 _ _ (.int .i64 n.sh) h
 have h1:=heap_setCell_same _ rb 1 _ _ (.slice n.pa n.pn n.pc) h0
 have h2:=heap_setCell_same _ rb 2 _ _ (.string n.ss) h1
 have h3:=heap_setCell_same _ rb 3 _ _ (.int .i64 n.le) h2
 have h4:=heap_setCell_same _ rb 4 _ _ (.int .i64 n.mo) h3
 have h5:=heap_setCell_same _ rb 5 _ _ (.int .i64 n.fa) h4
 have h6:=heap_setCell_same _ rb 6 _ _ (.int .i64 n.sz) h5
 unfold au bH
 rw [h6]
 simp [LX]
theorem au.cells (h:au w rb n):w.cell? ⟨rb,0,none⟩=some (.int .i64 n.sh)/\w.cell? ⟨rb,1,none⟩=some (.slice n.pa n.pn n.pc)/\w.cell? ⟨rb,2,none⟩=some (.string n.ss)/\w.cell? ⟨rb,3,none⟩=some (.int .i64 n.le)/\w.cell? ⟨rb,4,none⟩=some (.int .i64 n.mo)/\w.cell? ⟨rb,5,none⟩=some (.int .i64 n.fa)/\w.cell? ⟨rb,6,none⟩=some (.int .i64 n.sz):=by
 have e:w.heap[rb]? = _:=h
 refine ⟨?_,?_,?_,?_,?_,?_,?_⟩<;>simp [World.cell?,e,LX]
theorem au.fz (h:au w rb n) (j:Nat):w.frozen? ⟨rb,j,none⟩=false:=by
 have e:w.heap[rb]? = _:=h
 simp [World.frozen?,e]
theorem au.move {w':World} (h:au w rb n) (e:w'.heap[rb]? = w.heap[rb]?):au w' rb n:=e.trans h
theorem au.up {w':World} {b:Nat} (h:Hid (au w rb n)) (hu:Up b w w') (hb:rb≠b):Hid (au w' rb n):=(hu.block rb (au.lt (aa h)) hb).trans (aa h)
theorem au.alloc (h:Hid (au w rb n)) (o:Obj):Hid (au (w.alloc o) rb n):=au.move (aa h) (Below.heap_alloc w o rb (au.lt (aa h)))
end
section
variable {w0 w:World} {b:Nat} {s:ByteArray} {d:Int} {l:List Sy}
theorem PL.bH (h:Hid (PL w0 w b s d l)) {rb:Nat} (h0:w0.heap.size<=rb) (hb:b<rb) (n:Nd):Hid (PL w0 (bH w rb n) b s d l):=
 PL.set (PL.set (PL.set (PL.set (PL.set (PL.set (PL.set h h0 hb 0 _) h0 hb 1 _) h0 hb 2 _) h0 hb 3 _) h0 hb 4 _) h0 hb 5 _) h0 hb 6 _
theorem nU {w':World} {o:Obj} {l':List Sy} (h:Hid (PL w0 w b s d l)) (h':Hid (PL (w.alloc o) w' b s d l')) (n:Nd):Hid (PL w0 (Proofs.YtfolanohokflkaaGreatDoor.bH w' w.heap.size n) b s d l'):=
 PL.bH (PL.join ((PL.up h).trans (BF w o)) h') (PL.up h).size (PL.lt h) n
def oF (f:Nat) (sub:List Sy->bn Pn) (b:Nat) (s:ByteArray) (d:Int):Prop:=
 ∀ w l,Hid (PL w w b s d l)->Calls Tryz.prog f #[.pointer (some ⟨b,0,none⟩)] w (Gj (sub l) w b s d)
theorem jC {fn:Func} {Q:Ending->World->Prop} {a:Act} {W:World} {rb:Nat} {n:Nd} (t:Nat) (hr:fn.results=#[.cell t 65]) (ht:a.tmps.getD t undef=.pointer (some ⟨rb,0,none⟩)) (hd:a.defers=[]) (hat:Hid (au W rb n)) (hq:Q (.returned (gm n)) W):bodyPost Tryz.prog fn Q .ret a W:=by
 obtain ⟨k0,k1,k2,k3,k4,k5,k6⟩:=au.cells (aa hat)
 refine bodyPost_ret (v:=gm n) ?_ hd hq
 have ht':a.tmps[t]?.getD undef=.pointer (some ⟨rb,0,none⟩):=by simpa using ht
 simp [results,hr,ht',go_sem,k0,k1,k2,k3,k4,k5,k6,gm]
end
section
variable {w0 w:World} {b:Nat} {s:ByteArray} {d:Int} {l:List Sy}
set_option maxRecDepth 100000 in
set_option maxHeartbeats 8000000 in
theorem aaR (h:Hid (PL w w b s d l)) (hn:¬ hd l=40) :
  Calls Tryz.prog 304 #[.pointer (some ⟨b,0,none⟩)] w (Gj (oo (fZ s.size l)) w b s d):=by
 obtain ⟨R,hR⟩:∃ R,fZ s.size l=R:=⟨_,rfl⟩
 rw [hR]
 obtain ⟨c,hcc⟩:∃ c,hd l=c:=⟨_,rfl⟩
 have gK:=hide hcc
 have k1:(c==40)=false:=by rw [<-hcc];simpa using hn
 have dI:=jB h (aB nd0)
 have HAT:=hide (au.new w nd0)
 have hne:w.heap.size≠b:=by have:=PL.lt h;omega
 have zW:Hid (∀ w',Hid (Up b (w.alloc (aB nd0)) w')->Hid (Up b w w')):=fun w' hu=>jA h hu
 have BG:Hid (∀ w' l' n,Hid (PL (w.alloc (aB nd0)) w' b s d l')->Hid (PL w (bH w' w.heap.size n) b s d l')):=fun w' l' n h'=>nU h h' n
 have HR:=hide hR
 clear hR hcc hn h
 cases R with
 | error y=>
  go_enter Tryz.func304,Tryz.ntmps304
  go_wp2_with (first
   | (go_at_call 251;refine (dX dI gK).mono ?_;clear dI;rintro x w1 ⟨rfl,HS⟩)
   | (go_at_call 321;refine (gY (OX HS) HR).mono ?_;rintro x w2 ⟨rfl,HU⟩))
  exact ⟨rfl,rfl,aa zW _ HU⟩
 | ok y=>
  obtain ⟨z,l1⟩:=y
  go_enter Tryz.func304,Tryz.ntmps304
  go_wp2_with (first
   | (go_at_call 251;refine (dX dI gK).mono ?_;clear dI;rintro x w1 ⟨rfl,HS⟩)
   | (go_at_call 321;refine (dJ (OX HS) HR).mono ?_;clear HS;rintro x w2 ⟨rfl,HS⟩;have HA2:=au.up HAT (PL.up HS) hne;obtain ⟨c0,c1,c2,c3,c4,c5,c6⟩:=au.cells (aa HA2);have f0:=au.fz (aa HA2)))
  change bodyPost _ _ _ _ _ (bH w2 w.heap.size ⟨0,none,0,0,encS z,0,0,0,1⟩)
  refine jC (rb:=w.heap.size) (n:=⟨0,none,0,0,encS z,0,0,0,1⟩) 2 rfl rfl rfl (hide (au.set (aa HA2))) ?_
  exact ⟨_,rfl,⟨rfl,.set rfl rfl rfl⟩,aa BG _ _ _ HS⟩
end
section
variable {w0 w:World} {b:Nat} {s:ByteArray} {d:Int} {l:List Sy}
theorem PL.c2 (h:Hid (PL w0 w b s d l)):w.cell? ⟨b,2,none⟩=some (.int .i64 d):=by
 obtain ⟨p,h1,rfl⟩:=aa h
 exact h1.c2
theorem PL.f2 (h:Hid (PL w0 w b s d l)):w.frozen? ⟨b,2,none⟩=false:=by
 obtain ⟨p,h1,rfl⟩:=aa h
 exact h1.fz 2
theorem PL.jr (h:Hid (PL w0 w b s d l)) (d':Int):Hid (PL w0 (w.setCell ⟨b,2,none⟩ (.int .i64 d')) b s d' l):=by
 obtain ⟨p,h1,rfl⟩:=aa h
 exact PL.of (PS.jr h1 d')
set_option maxRecDepth 100000 in
set_option maxHeartbeats 4000000 in
theorem KM (h:Hid (PL w w b s 8 l)) :
  Calls Tryz.prog 320 #[.pointer (some ⟨b,0,none⟩)] w (Gj (bad 4 s.size l) w b s d):=by
 have dI:=jB h (aB nd0)
 have q2:(w.alloc (.cells #[.int .i64 0,.slice none 0 0,.string ⟨#[]⟩,.int .i64 0,.int .i64 0,.int .i64 0,.int .i64 0] 65)).cell? ⟨b,2,none⟩=some (.int .i64 8):=PL.c2 dI
 have zW:Hid (∀ w',Hid (Up b (w.alloc (aB nd0)) w')->Hid (Up b w w')):=fun w' hu=>jA h hu
 clear h
 go_enter Tryz.func320,Tryz.ntmps320
 go_wp2_with (first
  | (go_at_call 220;refine (jI dI 4).mono ?_;rintro x w2 ⟨rfl,HU⟩))
 exact ⟨rfl,rfl,aa zW _ HU⟩
theorem Wu {w2 w3 w5:World} {o:Obj} {n m:Nd} {z:Pn} {u u':Value} {wz:Nat}
  (HN:Hid (aV w3 (fun k=>(w2.setCell ⟨b,2,none⟩ u).heap.size<=k) n z)) (hz:wz<w2.heap.size) (hb:b<w2.heap.size)
  (hu:Up b ((w3.setCell ⟨b,2,none⟩ u').alloc o) w5):Hid (aV (bH w5 wz m) (fun k=>wz<=k) n z):=by
 have e2:(w2.setCell ⟨b,2,none⟩ u).heap.size=w2.heap.size:=by simp [World.setCell]
 refine aV.move HN fun k hk hl=>?_
 rw [e2] at hk
 refine ⟨?_,by omega⟩
 rw [cO (by omega),hu.block k (by simp [World.setCell];omega) (by omega),Below.heap_alloc _ o k (by simpa [World.setCell] using hl),Below.heap_setCell _ ⟨b,2,none⟩ _ k (by show k≠b;omega)]
theorem aca {w3 w5:World} {n:Nd} {u:Value} (hb:b<w3.heap.size) (hu:Up b ((w3.setCell ⟨b,2,none⟩ u).alloc (aB n)) w5):Hid (au w5 w3.heap.size n):=by
 have e:(w3.setCell ⟨b,2,none⟩ u).heap.size=w3.heap.size:=by simp [World.setCell]
 have hn:=au.new (w3.setCell ⟨b,2,none⟩ u) n
 rw [e] at hn
 exact au.move hn (hu.block w3.heap.size (by simp [World.setCell]) (by omega))
set_option maxRecDepth 100000 in
set_option maxHeartbeats 8000000 in
theorem acb {sub:List Sy->bn Pn} (HA:Hid (oF 147 sub b s (d+1))) (hd0:0<=d) (hd8:d<8) (h:Hid (PL w w b s d l)) (KN:Hid (hd l=40)) :
  Calls Tryz.prog 320 #[.pointer (some ⟨b,0,none⟩)] w (Gj (I5 s.size (sub l.tail)) w b s d):=by
 have dI:=jB h (aB nd0)
 have hbw:=PL.lt h
 have q2:(w.alloc (.cells #[.int .i64 0,.slice none 0 0,.string ⟨#[]⟩,.int .i64 0,.int .i64 0,.int .i64 0,.int .i64 0] 65)).cell? ⟨b,2,none⟩=some (.int .i64 d):=PL.c2 dI
 have zW:Hid (∀ w',Hid (Up b (w.alloc (aB nd0)) w')->Hid (Up b w w')):=fun w' hu=>jA h hu
 have BG:Hid (∀ w' l' n,Hid (PL (w.alloc (aB nd0)) w' b s d l')->Hid (PL w (bH w' w.heap.size n) b s d l')):=fun w' l' n h'=>nU h h' n
 have HAT:=hide (au.new w nd0)
 have hsz1:(w.alloc (aB nd0)).heap.size=w.heap.size+1:=by simp
 have k8:(d==8)=false:=by simp;omega
 clear h
 cases hi:sub l.tail with
 | error y=>
  have HI:=hide hi
  clear hi
  go_enter Tryz.func320,Tryz.ntmps320
  go_wp2_with (first
   | (go_at_call 148;refine (dG dI 40 KN).mono ?_;clear dI q2;rintro x w2 ⟨rfl,HS⟩;have q2:=PL.c2 HS;have f2:=PL.f2 HS)
   | (go_at_call 147;refine (kN (aa HA _ _ (PL.base (PL.jr HS (d+1)))) HI).mono ?_;rintro x w3 ⟨rfl,HU⟩;have lv:=hide ((PL.up (PL.jr HS (d+1))).trans (aa HU))))
  exact ⟨rfl,rfl,aa zW _ lv⟩
 | ok y=>
  obtain ⟨z,l1⟩:=y
  have HI:=hide hi
  clear hi
  rw [I5]
  by_cases h41:hd l1=41
  ·rw [if_pos h41]
   have H41:=hide h41
   clear h41
   go_enter Tryz.func320,Tryz.ntmps320
   go_wp2_with (first
    | (go_at_call 148;refine (dG dI 40 KN).mono ?_;clear dI q2;rintro x w2 ⟨rfl,HS⟩;have q2:=PL.c2 HS;have f2:=PL.f2 HS;have hs2:=(PL.up HS).size)
    | (go_at_call 147;refine (kP (aa HA _ _ (PL.base (PL.jr HS (d+1)))) HI).mono ?_;simp only [gm];rintro x w3 ⟨n,rfl,HN,mg⟩;have HT3:=PL.join (PL.up (PL.jr HS (d+1))) mg;have hb3:=PL.lt HT3;have zh:=PL.alloc HT3 (aB n);clear q2 f2;have q2:=PL.c2 zh;have f2:=PL.f2 zh;have hb2:=PL.lt HS;have HT4':=PL.alloc (PL.jr HT3 d) (aB n);clear HS mg HT3 zh)
    | (go_at_call 148;refine (dG (PL.base HT4') 41 H41).mono ?_;rintro x w5 ⟨rfl,xE⟩;have qY:=PL.join (PL.up HT4') xE;have kz:=aca hb3 (PL.up xE);have oO:=au.up HAT (PL.up qY) (by omega);obtain ⟨g0,g1,g2,g3,g4,g5,g6⟩:=au.cells (aa kz);obtain ⟨c0,c1,c2,c3,c4,c5,c6⟩:=au.cells (aa oO);have cf:=au.fz (aa oO);clear q2 f2 HT4'))
   change bodyPost _ _ _ _ _ (bH w5 w.heap.size n)
   refine jC (rb:=w.heap.size) (n:=n) 2 rfl rfl rfl (hide (au.set (aa oO))) ?_
   exact ⟨n,rfl,Wu HN (by omega) hb2 (PL.up xE),aa BG _ _ _ qY⟩
  ·rw [if_neg h41]
   have H41:=hide h41
   clear h41
   go_enter Tryz.func320,Tryz.ntmps320
   go_wp2_with (first
    | (go_at_call 148;refine (dG dI 40 KN).mono ?_;clear dI q2;rintro x w2 ⟨rfl,HS⟩;have q2:=PL.c2 HS;have f2:=PL.f2 HS;have hs2:=(PL.up HS).size)
    | (go_at_call 147;refine (kP (aa HA _ _ (PL.base (PL.jr HS (d+1)))) HI).mono ?_;simp only [gm];rintro x w3 ⟨n,rfl,HN,mg⟩;have HT3:=PL.join (PL.up (PL.jr HS (d+1))) mg;have hb3:=PL.lt HT3;have zh:=PL.alloc HT3 (aB n);clear q2 f2;have q2:=PL.c2 zh;have f2:=PL.f2 zh;have HT4':=PL.alloc (PL.jr HT3 d) (aB n);clear HS mg HT3 zh)
    | (go_at_call 148;refine (rM HT4' 41 H41).mono ?_;rintro x w5 ⟨rfl,HU⟩))
   exact ⟨rfl,rfl,aa zW _ HU⟩
end
theorem zi:∀ (aM:List Nd) (k:Nat) (h:k<aM.length) (j:Nat),j<7->(dE aM)[k*7+j]? = (LX aM[k])[j]?
 | [],_,h,_,_=>absurd h (by simp)
 | n::r,0,_,j,hj=>by
  rw [dE,List.getElem?_append_left (by simp [LX];omega)]
  simp
 | n::r,k+1,h,j,hj=>by
  rw [dE,List.getElem?_append_right (by simp [LX];omega)]
  have e:(k+1)*7+j - (LX n).length=k*7+j:=by simp [LX];omega
  rw [e,zi r k (by simpa using h) j hj]
  simp
def nV (w:World) (g off:Nat) (n:Nd):Prop:=w.cell? ⟨g,off,none⟩=some (.int .i64 n.sh)/\w.cell? ⟨g,off+1,none⟩=some (.slice n.pa n.pn n.pc)/\w.cell? ⟨g,off+2,none⟩=some (.string n.ss)/\w.cell? ⟨g,off+3,none⟩=some (.int .i64 n.le)/\w.cell? ⟨g,off+4,none⟩=some (.int .i64 n.mo)/\w.cell? ⟨g,off+5,none⟩=some (.int .i64 n.fa)/\w.cell? ⟨g,off+6,none⟩=some (.int .i64 n.sz)
theorem pW {w:World} {g:Nat} {aM:List Nd} (hc:∀ j,j<aM.length*7->w.cell? ⟨g,j,none⟩=(dE aM)[j]?) (k:Nat) (h:k<aM.length):nV w g (k*7) aM[k]:=by
 have hk:∀ j,j<7->w.cell? ⟨g,k*7+j,none⟩=(LX aM[k])[j]? := fun j hj=>(hc (k*7+j) (by omega)).trans (zi aM k h j hj)
 exact ⟨hk 0 (by decide),hk 1 (by decide),hk 2 (by decide),hk 3 (by decide),hk 4 (by decide),hk 5 (by decide),hk 6 (by decide)⟩
theorem nV.below {w w':World} {g off B:Nat} {n:Nd} (h:nV w g off n) (hb:Below B w w') (hg:g<B):nV w' g off n:=by
 obtain ⟨h0,h1,h2,h3,h4,h5,h6⟩:=h
 have e:∀ j v,w.cell? ⟨g,j,none⟩=some v->w'.cell? ⟨g,j,none⟩=some v:=fun j v q=>by rw [hb.cell (p:=⟨g,j,none⟩) hg];exact q
 exact ⟨e _ _ h0,e _ _ h1,e _ _ h2,e _ _ h3,e _ _ h4,e _ _ h5,e _ _ h6⟩
theorem adI (w:World) (a:Addr) (v:Value):(w.setCell a v).os=w.os:=rfl
theorem KO (w:World) (rb:Nat) (n:Nd):(bH w rb n).os=w.os:=by
 unfold bH
 iterate 7 rw [adI]
theorem ZE (w:World) (a:Addr) (v:Value):(w.setCell a v).tape=w.tape:=rfl
theorem CY (w:World) (rb:Nat) (n:Nd):(bH w rb n).tape=w.tape:=by
 unfold bH
 iterate 7 rw [ZE]
theorem Sv (w:World) (a:Addr) (v:Value):(w.setCell a v).output=w.output:=rfl
theorem xq (w:World) (rb:Nat) (n:Nd):(bH w rb n).output=w.output:=by
 unfold bH
 iterate 7 rw [Sv]
theorem zk {B:Nat} {w w':World} (h:Below B w w') {rb:Nat} (hr:B<=rb) {n:Nd}:Hid (Below B w (bH w' rb n)):=
 ⟨(KO w' rb n).trans h.os,(CY w' rb n).trans h.tape,(xq w' rb n).trans h.output,by rw [nT];exact h.size,fun k hk=>(cO (by omega)).trans (h.block k hk)⟩
def yG (ps:List Pn) (k:Nat):Int:=min (((ps.length:Int) - 1)+dH (ps.take k)) 61
theorem SA {ps:List Pn} (h1:ps.length<=62):yG ps 0=(ps.length:Int) - 1:=by simp [yG,dH];omega
theorem Wv (ps:List Pn):yG ps ps.length=vG ps:=by rw [yG,List.take_length];rfl
theorem pI.take {ps:List Pn} (h:pI ps) (k:Nat):pI (ps.take k):=fun p hp=>h p (List.mem_of_mem_take hp)
theorem SB {ps:List Pn} (hB:pI ps) (k:Nat) (hk:k<ps.length):yG ps (k+1)=dA (yG ps k+ps[k].2):=by
 have hs:=wK (hB.take k)
 have hp:=hB ps[k] (List.getElem_mem hk)
 rw [OW,yG,yG,List.take_succ_eq_append_getElem hk,xZ]
 omega
theorem acd {ps:List Pn} (hB:pI ps) (h0:0<ps.length) (k:Nat):0<=yG ps k/\yG ps k<=61:=by
 have hs:=wK (hB.take k)
 unfold yG;omega
set_option maxRecDepth 100000 in
set_option maxHeartbeats 8000000 in
theorem vw (w:World) (sh:Int) (ao:Option Addr) (cap:Nat) (aM:List Nd) (ps:List Pn) {B:Nat} (h0:0<aM.length) (h62:aM.length<=62) (ho:w.ownsRow B 65 7 (.slice ao aM.length cap) aM.length (dE aM))
  (hl:aM.length=ps.length) (hz:∀ (i:Nat) (h:i<aM.length) (h':i<ps.length),aM[i].sz=ps[i].2) (hB:pI ps) :
  Calls Tryz.prog 216 #[.int .i64 sh,.slice ao aM.length cap] w fun x w'=>x=.returned (gm ⟨sh,ao,aM.length,cap,⟨#[]⟩,0,0,0,vG ps⟩)/\Hid (Below w.heap.size w w'):=by
 obtain ⟨ao',cap',e,hv⟩:=aN ho
 obtain ⟨g,rfl,-,hg,hc,-⟩:=hv h0
 cases e
 have HC:=hide hc
 have HZ:=hide hz
 have HBB:=hide hB
 have hz0:=SA (ps:=ps) (by omega)
 rw [<-hl] at hz0
 have hsz:(w.alloc (aB nd0)).heap.size=w.heap.size+1:=by simp
 have HAT:=hide (au.new w nd0)
 have HG:Hid (∀ k,k<w.heap.size->(w.alloc (aB nd0)).heap[k]? = w.heap[k]?):=fun k hk=>Below.heap_alloc w _ k hk
 have HLL:=hide hl
 clear hc hv ho hz hB hl
 have hlI:((aM.length:Int))<=62:=by omega
 go_enter Tryz.func216,Tryz.ntmps216
 go_wp2_with fail
 go_loopw [5,13] (fun sz i wr=>∃ k:Nat,k<=aM.length/\i=.int .i64 k/\sz=.int .i64 (yG ps k)/\Hid (Below (w.heap.size+1) (w.alloc (aB nd0)) wr)) (fun _ i _=>aM.length - (intOf i).toNat)
 case atStart=>exact ⟨0,Nat.zero_le _,rfl,by rw [hz0],Below.refl _ _⟩
 case round=>
  obtain ⟨k,hk,rfl,rfl,Mx⟩:=hrel
  have hwr:=(aa Mx).size
  rw [hsz] at hwr
  have hl:=aa HLL
  obtain ⟨ha0,aeC⟩:=acd (aa HBB) (by omega) k
  by_cases hlt:k<aM.length
  ·have hst:=SB (aa HBB) k (by omega)
   have hpz:=aa HZ k hlt (by omega)
   have hpb:=aa HBB ps[k] (List.getElem_mem (by omega))
   rw [<-hpz] at hst hpb
   have hcw:nV w g (k*7) aM[k]:=pW (aa HC) k hlt
   have adJ:nV (w.alloc (aB nd0)) g (k*7) aM[k]:=hcw.below ((Below.refl _ w).alloc (Nat.le_refl _) _) hg
   obtain ⟨c0,c1,c2,c3,c4,c5,c6⟩:=adJ.below (aa Mx) (by omega)
   have adK:=hide ((aa Mx).alloc hwr (aB aM[k]))
   have HST:=hide hst
   clear hst hcw adJ hpz hl
   generalize aM[k]=n at c0 c1 c2 c3 c4 c5 c6 HST hpb adK
   generalize yG ps k=z at *
   obtain ⟨hn0,adL⟩:=hpb
   go_wp2_with (go_at_call 249;refine (zP _ _).mono ?_;rintro x w6 ⟨rfl,rfl⟩)
   go_roundw
   case rel=>exact ⟨k+1,by omega,by go_num,by rw [aa HST],adK⟩
   case measure=>simp [intOf];omega
  ·have hkl:k=aM.length:=by omega
   subst hkl
   have hall:=Wv ps
   rw [<-hl] at hall
   have HR:=hide (au.move (aa HAT) ((aa Mx).block w.heap.size (by omega)))
   obtain ⟨c0,c1,c2,c3,c4,c5,c6⟩:=au.cells (aa HR)
   have cf:=au.fz (aa HR)
   rw [hall]
   clear hall ha0 aeC hl
   go_wp2_with fail
   change bodyPost _ _ _ _ _ (bH wr w.heap.size ⟨sh,some ⟨g,0,none⟩,aM.length,cap,⟨#[]⟩,0,0,0,vG ps⟩)
   refine jC (rb:=w.heap.size) (n:=⟨sh,some ⟨g,0,none⟩,aM.length,cap,⟨#[]⟩,0,0,0,vG ps⟩) 4 rfl rfl rfl (hide (au.set (aa HR))) ?_
   exact ⟨rfl,zk (((Below.refl _ w).alloc (Nat.le_refl _) (aB nd0)).trans ((aa Mx).mono (Nat.le_succ _))) (Nat.le_refl _)⟩
end Go.Proofs.YtfolanohokflkaaGreatDoor
namespace Go.Proofs.YtfolanohokflkaaGreatDoor
theorem Ww (n:Int):dA n<=61:=by unfold dA;split<;>omega
theorem Wx {n:Int} (h:0<=n):0<=dA n:=by unfold dA;split<;>omega
theorem PK {m:Int} (h0:0<=m) (h1:m<=12):0<=ko m/\ko m<=12:=by unfold ko;split<;>omega
theorem CZ {n:Nat} {least:Int} {l:List Sy} {y:Int×List Sy} (h:bQ n least l=.ok y):0<=y.1/\y.1<=12:=by
 unfold bQ at h
 split at h
 ·rename_i hdig
  have hdig':48<=hd l/\hd l<=57:=by simpa [iH] using hdig
  split at h
  ·cases h
  ·rename_i h2
   injection h with h
   subst h
   refine ⟨?_,by omega⟩
   unfold kT
   split
   ·rename_i h3
    have h4:48<=hd l.tail/\hd l.tail<=57:=by simpa [iH] using h3.2
    dsimp only;omega
   ·dsimp only;omega
 ·cases h
theorem Fj {n:Nat} {m:Int} {l:List Sy} {y:Int×List Sy} (h:q8 n m l=.ok y):y.1=m:=by
 unfold q8 at h
 split at h
 ·injection h with h;subst h;rfl
 ·cases h
theorem NK {n:Nat} {l:List Sy} {y:Int×List Sy} (h:qc n l=.ok y):0<=y.1/\y.1<=13:=by
 unfold qc at h
 split at h
 ·unfold sV at h
  split at h
  ·cases h
  ·rename_i a l1 h1
   have g1:=CZ h1
   dsimp only at g1
   split at h
   ·split at h
    ·injection h with h;subst h;dsimp only;omega
    ·split at h
     ·cases h
     ·rename_i m l2 h2
      have g2:=CZ h2
      dsimp only at g2
      have g3:=Fj h
      have:=PK g2.1 g2.2
      omega
   ·have g3:=Fj h
    have:=PK g1.1 g1.2
    omega
 ·injection h with h;subst h;dsimp only;omega
end Go.Proofs.YtfolanohokflkaaGreatDoor
namespace Go.Proofs.YtfolanohokflkaaGreatDoor
open Go.RowKit
def xu:Nat->Pn->Pn
 | 0,p=>p
 | k+1,p=>xu k (I4 p)
theorem SC (r:bn Pn):oK (xu 0) r=r:=by cases r<;>rfl
theorem SE {n:Nat} {at_:List Sy->bn Pn} {k f:Nat} {l:List Sy} (h:hd l=126):oK (xu k) (dW n at_ (f+1) l)=oK (xu (k+1)) (dW n at_ f l.tail):=by
 rw [dW,if_pos h]
 cases dW n at_ f l.tail<;>rfl
section
variable {w0 w:World} {b:Nat} {s:ByteArray} {d:Int} {l:List Sy}
end
end Go.Proofs.YtfolanohokflkaaGreatDoor
