import Derived.Test.YtfolanohokflkaaGreatDoorNdL
import Derived.WalkKit
import Derived.WalkSpells
import Derived.WalkLawsBesides
import Derived.WalkMore
import Derived.Test.YtfolanohokflkaaGreatDoorPSame
import Derived.BigRegion
import Derived.Deep.RegionWith
namespace Go.Proofs.YtfolanohokflkaaGreatDoor
open Go.RowKit
def bO (w:World) (rb:Nat) (n:Nd):World:=
 ((((((w.setCell ⟨rb,0,none⟩ (.int .i64 n.sh)).setCell ⟨rb,1,none⟩ (.slice n.pa n.pn n.pc)).setCell ⟨rb,2,none⟩ (.string n.ss)).setCell ⟨rb,3,none⟩ (.int .i64 n.le)).setCell ⟨rb,4,none⟩ (.int .i64 n.mo)).setCell ⟨rb,5,none⟩ (.int .i64 n.fa)).setCell ⟨rb,6,none⟩ (.int .i64 n.sz)
def ax (w:World) (rb:Nat) (n:Nd):Prop:=w.heap[rb]? = some (.cells (Md n).toArray 65 (0,0))
def nd0:Nd:=⟨0,none,0,0,⟨#[]⟩,0,0,0,0⟩
abbrev aB (n:Nd):Obj:=.cells #[.int .i64 n.sh,.slice n.pa n.pn n.pc,.string n.ss,.int .i64 n.le,.int .i64 n.mo,.int .i64 n.fa,.int .i64 n.sz] 65
theorem ax.new (w:World) (n:Nd):ax (w.alloc (aB n)) w.heap.size n:=heap_alloc_new w _
section
variable {w:World} {rb:Nat} {n m:Nd}
theorem dm {k:Nat} (hk:k≠rb):(bO w rb n).heap[k]? = w.heap[k]? := by
 unfold bO
 iterate 7 rw [Below.heap_setCell _ _ _ k hk]
theorem oo:(bO w rb n).heap.size=w.heap.size:=by simp [bO,World.setCell]
theorem ax.lt (h:ax w rb n):rb<w.heap.size:=(Array.getElem?_eq_some_iff.1 h).1
theorem ax.set (h:ax w rb m):ax (bO w rb n) rb n:=by
 have h0:=heap_setCell_same w rb 0 _ _ (.int .i64 n.sh) h
 have h1:=heap_setCell_same _ rb 1 _ _ (.slice n.pa n.pn n.pc) h0
 have h2:=heap_setCell_same _ rb 2 _ _ (.string n.ss) h1
 have h3:=heap_setCell_same _ rb 3 _ _ (.int .i64 n.le) h2
 have h4:=heap_setCell_same _ rb 4 _ _ (.int .i64 n.mo) h3
 have h5:=heap_setCell_same _ rb 5 _ _ (.int .i64 n.fa) h4
 have h6:=heap_setCell_same _ rb 6 _ _ (.int .i64 n.sz) h5
 unfold ax bO
 rw [h6]
 simp [Md]
theorem ax.cells (h:ax w rb n):w.cell? ⟨rb,0,none⟩=some (.int .i64 n.sh)/\w.cell? ⟨rb,1,none⟩=some (.slice n.pa n.pn n.pc)/\w.cell? ⟨rb,2,none⟩=some (.string n.ss)/\w.cell? ⟨rb,3,none⟩=some (.int .i64 n.le)/\w.cell? ⟨rb,4,none⟩=some (.int .i64 n.mo)/\w.cell? ⟨rb,5,none⟩=some (.int .i64 n.fa)/\w.cell? ⟨rb,6,none⟩=some (.int .i64 n.sz):=by
 have e:w.heap[rb]? = _:=h
 refine ⟨?_,?_,?_,?_,?_,?_,?_⟩<;>simp [World.cell?,e,Md]
theorem ax.fz (h:ax w rb n) (j:Nat):w.frozen? ⟨rb,j,none⟩=false:=by
 have e:w.heap[rb]? = _:=h
 simp [World.frozen?,e]
theorem ax.move {w':World} (h:ax w rb n) (e:w'.heap[rb]? = w.heap[rb]?):ax w' rb n:=e.trans h
theorem ax.up {w':World} {b:Nat} (h:Hid (ax w rb n)) (hu:Up b w w') (hb:rb≠b):Hid (ax w' rb n):=(hu.block rb (ax.lt (aa h)) hb).trans (aa h)
theorem ax.alloc (h:Hid (ax w rb n)) (o:Obj):Hid (ax (w.alloc o) rb n):=ax.move (aa h) (Below.heap_alloc w o rb (ax.lt (aa h)))
end
section
variable {w0 w:World} {b:Nat} {s:ByteArray} {d:Int} {l:List Sy}
theorem PL.bO (h:Hid (PL w0 w b s d l)) {rb:Nat} (h0:w0.heap.size<=rb) (hb:b<rb) (n:Nd):Hid (PL w0 (bO w rb n) b s d l):=
 PL.set (PL.set (PL.set (PL.set (PL.set (PL.set (PL.set h h0 hb 0 _) h0 hb 1 _) h0 hb 2 _) h0 hb 3 _) h0 hb 4 _) h0 hb 5 _) h0 hb 6 _
theorem oq {w':World} {o:Obj} {l':List Sy} (h:Hid (PL w0 w b s d l)) (h':Hid (PL (w.alloc o) w' b s d l')) (n:Nd):Hid (PL w0 (Proofs.YtfolanohokflkaaGreatDoor.bO w' w.heap.size n) b s d l'):=
 PL.bO (PL.join ((PL.up h).trans (BH w o)) h') (PL.up h).size (PL.lt h) n
def oN (f:Nat) (sub:List Sy->bn Pn) (b:Nat) (s:ByteArray) (d:Int):Prop:=
 ∀ w l,Hid (PL w w b s d l)->Calls Tryz.prog f #[.pointer (some ⟨b,0,none⟩)] w (Gt (sub l) w b s d)
theorem jR {fn:Func} {Q:Ending->World->Prop} {a:Act} {W:World} {rb:Nat} {n:Nd} (t:Nat) (hr:fn.results=#[.cell t 65]) (ht:a.tmps.getD t undef=.pointer (some ⟨rb,0,none⟩)) (hd:a.defers=[]) (hat:Hid (ax W rb n)) (hq:Q (.returned (gJ n)) W):bodyPost Tryz.prog fn Q .ret a W:=by
 obtain ⟨k0,k1,k2,k3,k4,k5,k6⟩:=ax.cells (aa hat)
 refine bodyPost_ret (v:=gJ n) ?_ hd hq
 have ht':a.tmps[t]?.getD undef=.pointer (some ⟨rb,0,none⟩):=by simpa using ht
 simp [results,hr,ht',go_sem,k0,k1,k2,k3,k4,k5,k6,gJ]
end
end Go.Proofs.YtfolanohokflkaaGreatDoor
namespace Go.Proofs.YtfolanohokflkaaGreatDoor
open Go.RowKit
section
variable {w0 w:World} {b:Nat} {s:ByteArray} {d:Int} {l:List Sy}
set_option maxRecDepth 100000 in
set_option maxHeartbeats 8000000 in
theorem abm (h:Hid (PL w w b s d l)) (hn:¬ hd l=40) :
  Calls Tryz.prog 304 #[.pointer (some ⟨b,0,none⟩)] w (Gt (kY (eB s.size l)) w b s d):=by
 obtain ⟨R,hR⟩:∃ R,eB s.size l=R:=⟨_,rfl⟩
 rw [hR]
 obtain ⟨c,hcc⟩:∃ c,hd l=c:=⟨_,rfl⟩
 have g_:=hide hcc
 have k1:(c==40)=false:=by rw [<-hcc];simpa using hn
 have dQ:=jQ h (aB nd0)
 have HAT:=hide (ax.new w nd0)
 have hne:w.heap.size≠b:=by have:=PL.lt h;omega
 have zY:Hid (∀ w',Hid (Up b (w.alloc (aB nd0)) w')->Hid (Up b w w')):=fun w' hu=>jP h hu
 have BI:Hid (∀ w' l' n,Hid (PL (w.alloc (aB nd0)) w' b s d l')->Hid (PL w (bO w' w.heap.size n) b s d l')):=fun w' l' n h'=>oq h h' n
 have HR:=hide hR
 clear hR hcc hn h
 cases R with
 | error y=>
  go_enter Tryz.func304,Tryz.ntmps304
  go_wp2_with (first
   | (go_at_call 251;refine (eH dQ g_).mono ?_;clear dQ;rintro x w1 ⟨rfl,HS⟩)
   | (go_at_call 321;refine (iw (PT HS) HR).mono ?_;rintro x w2 ⟨rfl,HU⟩))
  exact ⟨rfl,rfl,aa zY _ HU⟩
 | ok y=>
  obtain ⟨z,l1⟩:=y
  go_enter Tryz.func304,Tryz.ntmps304
  go_wp2_with (first
   | (go_at_call 251;refine (eH dQ g_).mono ?_;clear dQ;rintro x w1 ⟨rfl,HS⟩)
   | (go_at_call 321;refine (dS (PT HS) HR).mono ?_;clear HS;rintro x w2 ⟨rfl,HS⟩;have HA2:=ax.up HAT (PL.up HS) hne;obtain ⟨c0,c1,c2,c3,c4,c5,c6⟩:=ax.cells (aa HA2);have f0:=ax.fz (aa HA2)))
  change bodyPost _ _ _ _ _ (bO w2 w.heap.size ⟨0,none,0,0,encS z,0,0,0,1⟩)
  refine jR (rb:=w.heap.size) (n:=⟨0,none,0,0,encS z,0,0,0,1⟩) 2 rfl rfl rfl (hide (ax.set (aa HA2))) ?_
  exact ⟨_,rfl,⟨rfl,.set rfl rfl rfl⟩,aa BI _ _ _ HS⟩
end
end Go.Proofs.YtfolanohokflkaaGreatDoor
namespace Go.Proofs.YtfolanohokflkaaGreatDoor
open Go.RowKit
section
variable {w0 w:World} {b:Nat} {s:ByteArray} {d:Int} {l:List Sy}
theorem PL.c2 (h:Hid (PL w0 w b s d l)):w.cell? ⟨b,2,none⟩=some (.int .i64 d):=by
 obtain ⟨p,h1,rfl⟩:=aa h
 exact h1.c2
theorem PL.f2 (h:Hid (PL w0 w b s d l)):w.frozen? ⟨b,2,none⟩=false:=by
 obtain ⟨p,h1,rfl⟩:=aa h
 exact h1.fz 2
theorem PL.jL (h:Hid (PL w0 w b s d l)) (d':Int):Hid (PL w0 (w.setCell ⟨b,2,none⟩ (.int .i64 d')) b s d' l):=by
 obtain ⟨p,h1,rfl⟩:=aa h
 exact PL.of (PS.jL h1 d')
set_option maxRecDepth 100000 in
set_option maxHeartbeats 4000000 in
theorem Lf (h:Hid (PL w w b s 8 l)) :
  Calls Tryz.prog 320 #[.pointer (some ⟨b,0,none⟩)] w (Gt (bad 4 s.size l) w b s d):=by
 have dQ:=jQ h (aB nd0)
 have q2:(w.alloc (.cells #[.int .i64 0,.slice none 0 0,.string ⟨#[]⟩,.int .i64 0,.int .i64 0,.int .i64 0,.int .i64 0] 65)).cell? ⟨b,2,none⟩=some (.int .i64 8):=PL.c2 dQ
 have zY:Hid (∀ w',Hid (Up b (w.alloc (aB nd0)) w')->Hid (Up b w w')):=fun w' hu=>jP h hu
 clear h
 go_enter Tryz.func320,Tryz.ntmps320
 go_wp2_with (first
  | (go_at_call 220;refine (jU dQ 4).mono ?_;rintro x w2 ⟨rfl,HU⟩))
 exact ⟨rfl,rfl,aa zY _ HU⟩
theorem Xo {w2 w3 w5:World} {o:Obj} {n m:Nd} {z:Pn} {u u':Value} {wz:Nat}
  (HN:Hid (a_ w3 (fun k=>(w2.setCell ⟨b,2,none⟩ u).heap.size<=k) n z)) (hz:wz<w2.heap.size) (hb:b<w2.heap.size)
  (hu:Up b ((w3.setCell ⟨b,2,none⟩ u').alloc o) w5):Hid (a_ (bO w5 wz m) (fun k=>wz<=k) n z):=by
 have e2:(w2.setCell ⟨b,2,none⟩ u).heap.size=w2.heap.size:=by simp [World.setCell]
 refine a_.move HN fun k hk hl=>?_
 rw [e2] at hk
 refine ⟨?_,by omega⟩
 rw [dm (by omega),hu.block k (by simp [World.setCell];omega) (by omega),Below.heap_alloc _ o k (by simpa [World.setCell] using hl),Below.heap_setCell _ ⟨b,2,none⟩ _ k (by show k≠b;omega)]
theorem acL {w3 w5:World} {n:Nd} {u:Value} (hb:b<w3.heap.size) (hu:Up b ((w3.setCell ⟨b,2,none⟩ u).alloc (aB n)) w5):Hid (ax w5 w3.heap.size n):=by
 have e:(w3.setCell ⟨b,2,none⟩ u).heap.size=w3.heap.size:=by simp [World.setCell]
 have hn:=ax.new (w3.setCell ⟨b,2,none⟩ u) n
 rw [e] at hn
 exact ax.move hn (hu.block w3.heap.size (by simp [World.setCell]) (by omega))
set_option maxRecDepth 100000 in
set_option maxHeartbeats 8000000 in
theorem acM {sub:List Sy->bn Pn} (HA:Hid (oN 147 sub b s (d+1))) (hd0:0<=d) (hd8:d<8) (h:Hid (PL w w b s d l)) (vL:Hid (hd l=40)) :
  Calls Tryz.prog 320 #[.pointer (some ⟨b,0,none⟩)] w (Gt (DZ s.size (sub l.tail)) w b s d):=by
 have dQ:=jQ h (aB nd0)
 have hbw:=PL.lt h
 have q2:(w.alloc (.cells #[.int .i64 0,.slice none 0 0,.string ⟨#[]⟩,.int .i64 0,.int .i64 0,.int .i64 0,.int .i64 0] 65)).cell? ⟨b,2,none⟩=some (.int .i64 d):=PL.c2 dQ
 have zY:Hid (∀ w',Hid (Up b (w.alloc (aB nd0)) w')->Hid (Up b w w')):=fun w' hu=>jP h hu
 have BI:Hid (∀ w' l' n,Hid (PL (w.alloc (aB nd0)) w' b s d l')->Hid (PL w (bO w' w.heap.size n) b s d l')):=fun w' l' n h'=>oq h h' n
 have HAT:=hide (ax.new w nd0)
 have hsz1:(w.alloc (aB nd0)).heap.size=w.heap.size+1:=by simp
 have k8:(d==8)=false:=by simp;omega
 clear h
 cases hi:sub l.tail with
 | error y=>
  have HI:=hide hi
  clear hi
  go_enter Tryz.func320,Tryz.ntmps320
  go_wp2_with (first
   | (go_at_call 148;refine (dP dQ 40 vL).mono ?_;clear dQ q2;rintro x w2 ⟨rfl,HS⟩;have q2:=PL.c2 HS;have f2:=PL.f2 HS)
   | (go_at_call 147;refine (kS (aa HA _ _ (PL.base (PL.jL HS (d+1)))) HI).mono ?_;rintro x w3 ⟨rfl,HU⟩;have lN:=hide ((PL.up (PL.jL HS (d+1))).trans (aa HU))))
  exact ⟨rfl,rfl,aa zY _ lN⟩
 | ok y=>
  obtain ⟨z,l1⟩:=y
  have HI:=hide hi
  clear hi
  rw [DZ]
  by_cases h41:hd l1=41
  ·rw [if_pos h41]
   have H41:=hide h41
   clear h41
   go_enter Tryz.func320,Tryz.ntmps320
   go_wp2_with (first
    | (go_at_call 148;refine (dP dQ 40 vL).mono ?_;clear dQ q2;rintro x w2 ⟨rfl,HS⟩;have q2:=PL.c2 HS;have f2:=PL.f2 HS;have hs2:=(PL.up HS).size)
    | (go_at_call 147;refine (kT (aa HA _ _ (PL.base (PL.jL HS (d+1)))) HI).mono ?_;simp only [gJ];rintro x w3 ⟨n,rfl,HN,mR⟩;have HT3:=PL.join (PL.up (PL.jL HS (d+1))) mR;have hb3:=PL.lt HT3;have zi:=PL.alloc HT3 (aB n);clear q2 f2;have q2:=PL.c2 zi;have f2:=PL.f2 zi;have hb2:=PL.lt HS;have HT4':=PL.alloc (PL.jL HT3 d) (aB n);clear HS mR HT3 zi)
    | (go_at_call 148;refine (dP (PL.base HT4') 41 H41).mono ?_;rintro x w5 ⟨rfl,CF⟩;have pE:=PL.join (PL.up HT4') CF;have jI:=acL hb3 (PL.up CF);have pq:=ax.up HAT (PL.up pE) (by omega);obtain ⟨g0,g1,g2,g3,g4,g5,g6⟩:=ax.cells (aa jI);obtain ⟨c0,c1,c2,c3,c4,c5,c6⟩:=ax.cells (aa pq);have cf:=ax.fz (aa pq);clear q2 f2 HT4'))
   change bodyPost _ _ _ _ _ (bO w5 w.heap.size n)
   refine jR (rb:=w.heap.size) (n:=n) 2 rfl rfl rfl (hide (ax.set (aa pq))) ?_
   exact ⟨n,rfl,Xo HN (by omega) hb2 (PL.up CF),aa BI _ _ _ pE⟩
  ·rw [if_neg h41]
   have H41:=hide h41
   clear h41
   go_enter Tryz.func320,Tryz.ntmps320
   go_wp2_with (first
    | (go_at_call 148;refine (dP dQ 40 vL).mono ?_;clear dQ q2;rintro x w2 ⟨rfl,HS⟩;have q2:=PL.c2 HS;have f2:=PL.f2 HS;have hs2:=(PL.up HS).size)
    | (go_at_call 147;refine (kT (aa HA _ _ (PL.base (PL.jL HS (d+1)))) HI).mono ?_;simp only [gJ];rintro x w3 ⟨n,rfl,HN,mR⟩;have HT3:=PL.join (PL.up (PL.jL HS (d+1))) mR;have hb3:=PL.lt HT3;have zi:=PL.alloc HT3 (aB n);clear q2 f2;have q2:=PL.c2 zi;have f2:=PL.f2 zi;have HT4':=PL.alloc (PL.jL HT3 d) (aB n);clear HS mR HT3 zi)
    | (go_at_call 148;refine (rX HT4' 41 H41).mono ?_;rintro x w5 ⟨rfl,HU⟩))
   exact ⟨rfl,rfl,aa zY _ HU⟩
end
end Go.Proofs.YtfolanohokflkaaGreatDoor
namespace Go.Proofs.YtfolanohokflkaaGreatDoor
open Go.RowKit
theorem zk:∀ (aL:List Nd) (k:Nat) (h:k<aL.length) (j:Nat),j<7->(dN aL)[k*7+j]? = (Md aL[k])[j]?
 | [],_,h,_,_=>absurd h (by simp)
 | n::r,0,_,j,hj=>by
  rw [dN,List.getElem?_append_left (by simp [Md];omega)]
  simp
 | n::r,k+1,h,j,hj=>by
  rw [dN,List.getElem?_append_right (by simp [Md];omega)]
  have e:(k+1)*7+j - (Md n).length=k*7+j:=by simp [Md];omega
  rw [e,zk r k (by simpa using h) j hj]
  simp
def ou (w:World) (g off:Nat) (n:Nd):Prop:=w.cell? ⟨g,off,none⟩=some (.int .i64 n.sh)/\w.cell? ⟨g,off+1,none⟩=some (.slice n.pa n.pn n.pc)/\w.cell? ⟨g,off+2,none⟩=some (.string n.ss)/\w.cell? ⟨g,off+3,none⟩=some (.int .i64 n.le)/\w.cell? ⟨g,off+4,none⟩=some (.int .i64 n.mo)/\w.cell? ⟨g,off+5,none⟩=some (.int .i64 n.fa)/\w.cell? ⟨g,off+6,none⟩=some (.int .i64 n.sz)
theorem qi {w:World} {g:Nat} {aL:List Nd} (hc:∀ j,j<aL.length*7->w.cell? ⟨g,j,none⟩=(dN aL)[j]?) (k:Nat) (h:k<aL.length):ou w g (k*7) aL[k]:=by
 have hk:∀ j,j<7->w.cell? ⟨g,k*7+j,none⟩=(Md aL[k])[j]? := fun j hj=>(hc (k*7+j) (by omega)).trans (zk aL k h j hj)
 exact ⟨hk 0 (by decide),hk 1 (by decide),hk 2 (by decide),hk 3 (by decide),hk 4 (by decide),hk 5 (by decide),hk 6 (by decide)⟩
theorem ou.below {w w':World} {g off B:Nat} {n:Nd} (h:ou w g off n) (hb:Below B w w') (hg:g<B):ou w' g off n:=by
 obtain ⟨h0,h1,h2,h3,h4,h5,h6⟩:=h
 have e:∀ j v,w.cell? ⟨g,j,none⟩=some v->w'.cell? ⟨g,j,none⟩=some v:=fun j v q=>by rw [hb.cell (p:=⟨g,j,none⟩) hg];exact q
 exact ⟨e _ _ h0,e _ _ h1,e _ _ h2,e _ _ h3,e _ _ h4,e _ _ h5,e _ _ h6⟩
theorem ad5 (w:World) (a:Addr) (v:Value):(w.setCell a v).os=w.os:=rfl
theorem Lg (w:World) (rb:Nat) (n:Nd):(bO w rb n).os=w.os:=by
 unfold bO
 iterate 7 rw [ad5]
theorem aas (w:World) (a:Addr) (v:Value):(w.setCell a v).tape=w.tape:=rfl
theorem Dh (w:World) (rb:Nat) (n:Nd):(bO w rb n).tape=w.tape:=by
 unfold bO
 iterate 7 rw [aas]
theorem Tv (w:World) (a:Addr) (v:Value):(w.setCell a v).output=w.output:=rfl
theorem xC (w:World) (rb:Nat) (n:Nd):(bO w rb n).output=w.output:=by
 unfold bO
 iterate 7 rw [Tv]
theorem zl {B:Nat} {w w':World} (h:Below B w w') {rb:Nat} (hr:B<=rb) {n:Nd}:Hid (Below B w (bO w' rb n)):=
 ⟨(Lg w' rb n).trans h.os,(Dh w' rb n).trans h.tape,(xC w' rb n).trans h.output,by rw [oo];exact h.size,fun k hk=>(dm (by omega)).trans (h.block k hk)⟩
def yL (ps:List Pn) (k:Nat):Int:=min (((ps.length:Int) - 1)+dR (ps.take k)) 61
theorem Tw {ps:List Pn} (h1:ps.length<=62):yL ps 0=(ps.length:Int) - 1:=by simp [yL,dR];omega
theorem Xp (ps:List Pn):yL ps ps.length=vJ ps:=by rw [yL,List.take_length];rfl
theorem pX.take {ps:List Pn} (h:pX ps) (k:Nat):pX (ps.take k):=fun p hp=>h p (List.mem_of_mem_take hp)
theorem Tx {ps:List Pn} (hB:pX ps) (k:Nat) (hk:k<ps.length):yL ps (k+1)=dG (yL ps k+ps[k].2):=by
 have hs:=wN (hB.take k)
 have hp:=hB ps[k] (List.getElem_mem hk)
 rw [Pg,yL,yL,List.take_succ_eq_append_getElem hk,yf]
 omega
theorem acN {ps:List Pn} (hB:pX ps) (h0:0<ps.length) (k:Nat):0<=yL ps k/\yL ps k<=61:=by
 have hs:=wN (hB.take k)
 unfold yL;omega
set_option maxRecDepth 100000 in
set_option maxHeartbeats 8000000 in
theorem vF (w:World) (sh:Int) (ao:Option Addr) (cap:Nat) (aL:List Nd) (ps:List Pn) {B:Nat} (h0:0<aL.length) (h62:aL.length<=62) (ho:w.ownsRow B 65 7 (.slice ao aL.length cap) aL.length (dN aL))
  (hl:aL.length=ps.length) (hz:∀ (i:Nat) (h:i<aL.length) (h':i<ps.length),aL[i].sz=ps[i].2) (hB:pX ps) :
  Calls Tryz.prog 216 #[.int .i64 sh,.slice ao aL.length cap] w fun x w'=>x=.returned (gJ ⟨sh,ao,aL.length,cap,⟨#[]⟩,0,0,0,vJ ps⟩)/\Hid (Below w.heap.size w w'):=by
 obtain ⟨ao',cap',e,hv⟩:=aO ho
 obtain ⟨g,rfl,-,hg,hc,-⟩:=hv h0
 cases e
 have HC:=hide hc
 have HZ:=hide hz
 have HBB:=hide hB
 have hz0:=Tw (ps:=ps) (by omega)
 rw [<-hl] at hz0
 have hsz:(w.alloc (aB nd0)).heap.size=w.heap.size+1:=by simp
 have HAT:=hide (ax.new w nd0)
 have HG:Hid (∀ k,k<w.heap.size->(w.alloc (aB nd0)).heap[k]? = w.heap[k]?):=fun k hk=>Below.heap_alloc w _ k hk
 have HLL:=hide hl
 clear hc hv ho hz hB hl
 have hlI:((aL.length:Int))<=62:=by omega
 go_enter Tryz.func216,Tryz.ntmps216
 go_wp2_with fail
 go_loopw [5,13] (fun sz i wr=>∃ k:Nat,k<=aL.length/\i=.int .i64 k/\sz=.int .i64 (yL ps k)/\Hid (Below (w.heap.size+1) (w.alloc (aB nd0)) wr)) (fun _ i _=>aL.length - (intOf i).toNat)
 case atStart=>exact ⟨0,Nat.zero_le _,rfl,by rw [hz0],Below.refl _ _⟩
 case round=>
  obtain ⟨k,hk,rfl,rfl,IY⟩:=hrel
  have hwr:=(aa IY).size
  rw [hsz] at hwr
  have hl:=aa HLL
  obtain ⟨ha0,aeS⟩:=acN (aa HBB) (by omega) k
  by_cases hlt:k<aL.length
  ·have hst:=Tx (aa HBB) k (by omega)
   have hpz:=aa HZ k hlt (by omega)
   have hpb:=aa HBB ps[k] (List.getElem_mem (by omega))
   rw [<-hpz] at hst hpb
   have hcw:ou w g (k*7) aL[k]:=qi (aa HC) k hlt
   have ad6:ou (w.alloc (aB nd0)) g (k*7) aL[k]:=hcw.below ((Below.refl _ w).alloc (Nat.le_refl _) _) hg
   obtain ⟨c0,c1,c2,c3,c4,c5,c6⟩:=ad6.below (aa IY) (by omega)
   have ad7:=hide ((aa IY).alloc hwr (aB aL[k]))
   have HST:=hide hst
   clear hst hcw ad6 hpz hl
   generalize aL[k]=n at c0 c1 c2 c3 c4 c5 c6 HST hpb ad7
   generalize yL ps k=z at *
   obtain ⟨hn0,ad8⟩:=hpb
   go_wp2_with (go_at_call 249;refine (zR _ _).mono ?_;rintro x w6 ⟨rfl,rfl⟩)
   go_roundw
   case rel=>exact ⟨k+1,by omega,by go_num,by rw [aa HST],ad7⟩
   case measure=>simp [intOf];omega
  ·have hkl:k=aL.length:=by omega
   subst hkl
   have hall:=Xp ps
   rw [<-hl] at hall
   have HR:=hide (ax.move (aa HAT) ((aa IY).block w.heap.size (by omega)))
   obtain ⟨c0,c1,c2,c3,c4,c5,c6⟩:=ax.cells (aa HR)
   have cf:=ax.fz (aa HR)
   rw [hall]
   clear hall ha0 aeS hl
   go_wp2_with fail
   change bodyPost _ _ _ _ _ (bO wr w.heap.size ⟨sh,some ⟨g,0,none⟩,aL.length,cap,⟨#[]⟩,0,0,0,vJ ps⟩)
   refine jR (rb:=w.heap.size) (n:=⟨sh,some ⟨g,0,none⟩,aL.length,cap,⟨#[]⟩,0,0,0,vJ ps⟩) 4 rfl rfl rfl (hide (ax.set (aa HR))) ?_
   exact ⟨rfl,zl (((Below.refl _ w).alloc (Nat.le_refl _) (aB nd0)).trans ((aa IY).mono (Nat.le_succ _))) (Nat.le_refl _)⟩
end Go.Proofs.YtfolanohokflkaaGreatDoor
namespace Go.Proofs.YtfolanohokflkaaGreatDoor
theorem Xq (n:Int):dG n<=61:=by unfold dG;split<;>omega
theorem Xr {n:Int} (h:0<=n):0<=dG n:=by unfold dG;split<;>omega
theorem Qh {m:Int} (h0:0<=m) (h1:m<=12):0<=kE m/\kE m<=12:=by unfold kE;split<;>omega
theorem Di {n:Nat} {least:Int} {l:List Sy} {y:Int×List Sy} (h:bP n least l=.ok y):0<=y.1/\y.1<=12:=by
 unfold bP at h
 split at h
 ·rename_i hdig
  have hdig':48<=hd l/\hd l<=57:=by simpa [fP] using hdig
  split at h
  ·cases h
  ·rename_i h2
   injection h with h
   subst h
   refine ⟨?_,by omega⟩
   unfold iR
   split
   ·rename_i h3
    have h4:48<=hd l.tail/\hd l.tail<=57:=by simpa [fP] using h3.2
    dsimp only;omega
   ·dsimp only;omega
 ·cases h
theorem FJ {n:Nat} {m:Int} {l:List Sy} {y:Int×List Sy} (h:rE n m l=.ok y):y.1=m:=by
 unfold rE at h
 split at h
 ·injection h with h;subst h;rfl
 ·cases h
theorem Od {n:Nat} {l:List Sy} {y:Int×List Sy} (h:qp n l=.ok y):0<=y.1/\y.1<=13:=by
 unfold qp at h
 split at h
 ·unfold tK at h
  split at h
  ·cases h
  ·rename_i a l1 h1
   have g1:=Di h1
   dsimp only at g1
   split at h
   ·split at h
    ·injection h with h;subst h;dsimp only;omega
    ·split at h
     ·cases h
     ·rename_i m l2 h2
      have g2:=Di h2
      dsimp only at g2
      have g3:=FJ h
      have:=Qh g2.1 g2.2
      omega
   ·have g3:=FJ h
    have:=Qh g1.1 g1.2
    omega
 ·injection h with h;subst h;dsimp only;omega
end Go.Proofs.YtfolanohokflkaaGreatDoor
namespace Go.Proofs.YtfolanohokflkaaGreatDoor
open Go.RowKit
def xD:Nat->Pn->Pn
 | 0,p=>p
 | k+1,p=>xD k (Jh p)
theorem Ty (r:bn Pn):o5 (xD 0) r=r:=by cases r<;>rfl
theorem Tz {n:Nat} {at_:List Sy->bn Pn} {k f:Nat} {l:List Sy} (h:hd l=126):o5 (xD k) (cO n at_ (f+1) l)=o5 (xD (k+1)) (cO n at_ f l.tail):=by
 rw [cO,if_pos h]
 cases cO n at_ f l.tail<;>rfl
section
variable {w0 w:World} {b:Nat} {s:ByteArray} {d:Int} {l:List Sy}
end
end Go.Proofs.YtfolanohokflkaaGreatDoor
