import Derived.Test.YtfolanohokflkaaGreatDoorProC
import Derived.Test.YtfolanohokflkaaGreatDoorSvF
import Derived.Test.YtfolanohokflkaaGreatDoorPSpec
import Derived.WalkKit
import Derived.WalkSpells
import Derived.WalkLawsBesides
import Derived.WalkMore
import Derived.Laws.OwnMore
import Derived.Deep.Onto
namespace Go.Proofs.YtfolanohokflkaaGreatDoor
open Go.RowKit
def PL (w0 w:World) (b:Nat) (s:ByteArray) (d:Int) (l:List Sy):Prop:=∃ p,PS w0 w b s p d/\ai s p=l
section
variable {w0 w:World} {b:Nat} {s:ByteArray} {p:Nat} {d:Int} {l:List Sy}
theorem PL.of (h:Hid (PS w0 w b s p d)):Hid (PL w0 w b s d (ai s p)):=⟨p,h,rfl⟩
theorem PL.base (h:Hid (PL w0 w b s d l)):Hid (PL w w b s d l):=by
 obtain ⟨p,h1,e⟩:=aa h
 exact ⟨p,⟨h1.c0,h1.c1,h1.c2,h1.fz,h1.tabs,h1.b2,Up.refl _ _,h1.le,h1.small⟩,e⟩
theorem PL.up (h:Hid (PL w0 w b s d l)):Up b w0 w:=by
 obtain ⟨p,h1,e⟩:=aa h
 exact h1.up
theorem PL.join {w':World} (h:Up b w0 w) (k:Hid (PL w w' b s d l)):Hid (PL w0 w' b s d l):=by
 obtain ⟨p,h1,e⟩:=aa k
 exact ⟨p,⟨h1.c0,h1.c1,h1.c2,h1.fz,h1.tabs,h1.b2,h.trans h1.up,h1.le,h1.small⟩,e⟩
theorem PL.below {w':World} (h:Hid (PL w0 w b s d l)) (hb:Below w.heap.size w w'):Hid (PL w0 w' b s d l):=by
 obtain ⟨p,h1,e⟩:=aa h
 exact ⟨p,aa (PS.below (hide h1) hb),e⟩
theorem PL.lt (h:Hid (PL w0 w b s d l)):b<w.heap.size:=by
 obtain ⟨p,h1,e⟩:=aa h
 exact h1.lt
theorem PL.len (h:Hid (PL w0 w b s d l)):l.length<=60:=by
 obtain ⟨p,h1,rfl⟩:=aa h
 have:=qb s p
 have:=h1.small
 omega
theorem PL.UB (h:Hid (PL w0 w b s d l)):Ox (hd l):=by
 obtain ⟨p,h1,rfl⟩:=aa h
 exact Iq s p h1.le
theorem PL.UC (h:Hid (PL w0 w b s d l)):bg l:=by
 obtain ⟨p,h1,rfl⟩:=aa h
 exact kL s p
theorem PL.set (h:Hid (PL w0 w b s d l)) {rb:Nat} (h0:w0.heap.size<=rb) (hb:b<rb) (j:Nat) (u:Value):Hid (PL w0 (w.setCell ⟨rb,j,none⟩ u) b s d l):=by
 obtain ⟨p,g,e⟩:=aa h
 have hbl:∀ k,k≠rb->(w.setCell ⟨rb,j,none⟩ u).heap[k]? = w.heap[k]? := fun k hk=>Below.heap_setCell w ⟨rb,j,none⟩ u k hk
 have hc:∀ i v,w.cell? ⟨b,i,none⟩=some v->(w.setCell ⟨rb,j,none⟩ u).cell? ⟨b,i,none⟩=some v:=fun i v q=>by
  rw [World.cell?_of_block (hbl b (by omega))];exact q
 have hb2:=g.b2
 refine ⟨p,⟨hc _ _ g.c0,hc _ _ g.c1,hc _ _ g.c2,fun k=>by rw [World.frozen?_setCell];exact g.fz k,iE g.tabs (hbl _ (by omega)) (hbl _ (by omega)),g.b2,?_,g.le,g.small⟩,e⟩
 exact ⟨g.up.os,g.up.tape,g.up.output,by have:=g.up.size;simp [World.setCell];exact this,fun k hk hkb=>(hbl k (by omega)).trans (g.up.block k hk hkb)⟩
end
theorem YF {w w':World} {b k j:Nat} {v:Value} (h:Up b w w') (hk:k≠b) (hc:w.cell? ⟨k,j,none⟩=some v):w'.cell? ⟨k,j,none⟩=some v:=by
 rw [World.cell?_of_block (h.block k (World.block_lt_of_cell? w _ hc) hk)];exact hc
theorem Rf {w w':World} {b k j:Nat} (h:Up b w w') (hk:k≠b) (hlt:k<w.heap.size) (hc:w.frozen? ⟨k,j,none⟩=false):w'.frozen? ⟨k,j,none⟩=false:=by
 rw [World.frozen?_of_block (h.block k hlt hk)];exact hc
theorem UD {w w':World} {b base e size n:Nat} {v:Value} {xs:List Value} (h:w.ownsRow base e size v n xs) (hu:Up b w w') (hb:v.ownBlock≠some b):w'.ownsRow base e size v n xs:=by
 obtain ⟨hl,hx | ⟨g,cap,cur,hv,hb',hg,rest⟩⟩:=h
 ·exact ⟨hl,.inl hx⟩
 ·have hlt:g<w.heap.size:=(Array.getElem?_eq_some_iff.1 hg).1
  exact ⟨hl,.inr ⟨g,cap,cur,hv,hb',by rw [hu.block g hlt (fun e=>hb (by rw [hv,e];rfl))];exact hg,rest⟩⟩
structure Nd where
 sh:Int
 pa:Option Addr
 pn:Nat
 pc:Nat
 ss:ByteArray
 le:Int
 mo:Int
 fa:Int
 sz:Int
@[reducible] def Nd.pv (n:Nd):Value:=.slice n.pa n.pn n.pc
def gm (n:Nd):Value:=.agg #[.int .i64 n.sh,.slice n.pa n.pn n.pc,.string n.ss,.int .i64 n.le,.int .i64 n.mo,.int .i64 n.fa,.int .i64 n.sz]
def LX (n:Nd):List Value:=[.int .i64 n.sh,.slice n.pa n.pn n.pc,.string n.ss,.int .i64 n.le,.int .i64 n.mo,.int .i64 n.fa,.int .i64 n.sz]
theorem abg:(Tryz.prog.info? 65).map (fun i=>(i.zero,i.size,i.bytes))=some (some (gm ⟨0,none,0,0,⟨#[]⟩,0,0,0,0⟩),7,80):=by kernel_rfl
def dE:List Nd->List Value
 | []=>[]
 | n::r=>LX n++dE r
theorem BB (a c:List Nd):dE (a++c)=dE a++dE c:=by
 induction a with
 | nil=>rfl
 | cons x a ih=>simp [dE,ih]
def jo (w:World) (F:Nat->Prop) (pv:Value) (aM:List Nd):Prop:=w.ownsRow 0 65 7 pv aM.length (dE aM)/\∀ k,pv.ownBlock=some k->F k
theorem BC {w w':World} {base e size n:Nat} {v:Value} {xs:List Value} (h:w.ownsRow base e size v n xs) (hk:∀ k,v.ownBlock=some k->k<w.heap.size->w'.heap[k]? = w.heap[k]?):w'.ownsRow base e size v n xs:=by
 obtain ⟨hl,hx | ⟨g,cap,cur,hv,hb',hg,rest⟩⟩:=h
 ·exact ⟨hl,.inl hx⟩
 ·have hlt:g<w.heap.size:=(Array.getElem?_eq_some_iff.1 hg).1
  exact ⟨hl,.inr ⟨g,cap,cur,hv,hb',by rw [hk g (by rw [hv];rfl) hlt];exact hg,rest⟩⟩
theorem jo.move {w w':World} {F G:Nat->Prop} {pv:Value} {aM:List Nd} (h:jo w F pv aM) (hm:∀ k,F k->k<w.heap.size->w'.heap[k]? = w.heap[k]? /\ G k):jo w' G pv aM:=
 ⟨BC h.1 fun k hk hl=>(hm k (h.2 k hk) hl).1,fun k hk=>(hm k (h.2 k hk) (h.1.lt k hk).2).2⟩
def gB:Option Nat->Int
 | none=>-1
 | some m=>m
inductive gJ (w:World) (F:Nat->Prop):Nd->Pt->Prop where
 | set {n:Nd} {l:af}:n.sh=0->n.ss=encS l->n.pn=0->gJ w F n (.set l)
 | aZ {n:Nd} {k:Bool} {aM:List Nd} {ts:List Pt}:n.sh=(if k=true then 2 else 1)->jo w F n.pv aM->aM.length=ts.length->(∀ (i:Nat) (h:i<aM.length) (h':i<ts.length),gJ w F aM[i] ts[i])->gJ w F n (.aZ k ts)
 | row {n:Nd} {aM:List Nd} {ts:List Pt}:n.sh=3->jo w F n.pv aM->aM.length=ts.length->(∀ (i:Nat) (h:i<aM.length) (h':i<ts.length),gJ w F aM[i] ts[i])->gJ w F n (.row ts)
 | not {n m:Nd} {t:Pt}:n.sh=4->jo w F n.pv [m]->gJ w F m t->gJ w F n (.not t)
 | rep {n m:Nd} {t:Pt} {least:Nat} {most:Option Nat}:n.sh=5->jo w F n.pv [m]->gJ w F m t->n.le=least->n.mo=gB most->gJ w F n (.rep t least most)
 | one {n m:Nd} {t:Pt}:(n.sh=1\/n.sh=2\/n.sh=3)->jo w F n.pv [m]->gJ w F m t->gJ w F n t
theorem gJ.move {w w':World} {F G:Nat->Prop} (hm:∀ k,F k->k<w.heap.size->w'.heap[k]? = w.heap[k]? /\ G k) {n:Nd} {t:Pt} (h:gJ w F n t):gJ w' G n t:=by
 induction h with
 | set h1 h2 h3=>exact .set h1 h2 h3
 | aZ h1 h2 h3 _ ih=>exact .aZ h1 (h2.move hm) h3 ih
 | row h1 h2 h3 _ ih=>exact .row h1 (h2.move hm) h3 ih
 | not h1 h2 _ ih=>exact .not h1 (h2.move hm) ih
 | rep h1 h2 _ h3 h4 ih=>exact .rep h1 (h2.move hm) ih h3 h4
 | one h1 h2 _ ih=>exact .one h1 (h2.move hm) ih
def aV (w:World) (F:Nat->Prop) (n:Nd) (p:Pn):Prop:=n.sz=p.2/\gJ w F n p.1
theorem aV.move {w w':World} {F G:Nat->Prop} {n:Nd} {p:Pn} (h:Hid (aV w F n p)) (hm:∀ k,F k->k<w.heap.size->w'.heap[k]? = w.heap[k]? /\ G k):Hid (aV w' G n p):=⟨(aa h).1,(aa h).2.move hm⟩
def wD (w:World) (F:Nat->Prop) (aM:List Nd) (ps:List Pn):Prop:=aM.length=ps.length/\∀ (i:Nat) (h:i<aM.length) (h':i<ps.length),aV w F aM[i] ps[i]
theorem wD.move {w w':World} {F G:Nat->Prop} {aM:List Nd} {ps:List Pn} (h:wD w F aM ps) (hm:∀ k,F k->k<w.heap.size->w'.heap[k]? = w.heap[k]? /\ G k):wD w' G aM ps:=⟨h.1,fun i a c=>aV.move (h.2 i a c) hm⟩
theorem wD.snoc {w:World} {F:Nat->Prop} {aM:List Nd} {ps:List Pn} {n:Nd} {p:Pn} (h:wD w F aM ps) (hn:aV w F n p):wD w F (aM++[n]) (ps++[p]):=by
 refine ⟨by simp [h.1],fun i a c=>?_⟩
 simp only [List.length_append,List.length_cons,List.length_nil] at a c
 by_cases hi:i<aM.length
 ·rw [List.getElem_append_left hi,List.getElem_append_left (by have:=h.1;omega)]
  exact h.2 i hi (by have:=h.1;omega)
 ·have e:i=aM.length:=by omega
  subst e
  simp [h.1]
  exact hn
def iw (o:jX):Value:=.agg #[.int .i64 o.1,.int .i64 (gB o.2.1),.int .i64 o.2.2]
def BD {a:Type} (R:bn a) (val:a->Value) (w0:World) (b:Nat) (s:ByteArray) (d:Int) (x:Ending) (w':World):Prop:=
 match R with
 | .ok y=>x=.returned (val y.1)/\Hid (PL w0 w' b s d y.2)
 | .error y=>x=vF y.1 y.2/\Hid (Up b w0 w')
def Gj (R:bn Pn) (w0:World) (b:Nat) (s:ByteArray) (d:Int) (x:Ending) (w':World):Prop:=
 match R with
 | .ok y=>∃ n,x=.returned (gm n)/\Hid (aV w' (fun k=>w0.heap.size<=k) n y.1)/\Hid (PL w0 w' b s d y.2)
 | .error y=>x=vF y.1 y.2/\Hid (Up b w0 w')
section
variable {w0 w:World} {b:Nat} {s:ByteArray} {p:Nat} {d:Int} {l:List Sy}
theorem PL.of' (h:Hid (PS w0 w b s p d)) (e:Hid (ai s p=l)):Hid (PL w0 w b s d l):=⟨p,h,e⟩
theorem dX (h:Hid (PL w0 w b s d l)) {c:Int} (hc:Hid (hd l=c)) :
  Calls Tryz.prog 251 #[.pointer (some ⟨b,0,none⟩)] w fun x w'=>x=.returned (.int .i32 c)/\Hid (PL w0 w' b s d l):=by
 obtain ⟨p,h1,rfl⟩:=aa h
 replace h:=hide h1
 refine (Ov h).mono ?_
 rintro x w' ⟨rfl,h'⟩
 exact ⟨by rw [aa hc],PL.of h'⟩
theorem Ex (h:Hid (PL w0 w b s d l)) :
  Calls Tryz.prog 252 #[.pointer (some ⟨b,0,none⟩)] w fun x w'=>x=.returned (.tuple #[])/\Hid (PL w0 w' b s d l.tail):=by
 obtain ⟨p,h1,rfl⟩:=aa h
 replace h:=hide h1
 refine (TZ h).mono ?_
 rintro x w' ⟨rfl,p',h',e⟩
 exact ⟨rfl,PL.of' h' e⟩
theorem dz (h:Hid (PL w0 w b s d l)) (c:Int) (hc:Hid (hd l=c)) :
  Calls Tryz.prog 219 #[.pointer (some ⟨b,0,none⟩),.int .i32 c] w fun x w'=>x=.returned (.bool true)/\Hid (PL w0 w' b s d l.tail):=by
 obtain ⟨p,h1,rfl⟩:=aa h
 replace h:=hide h1
 refine (Io h c hc).mono ?_
 rintro x w' ⟨rfl,p',h',e⟩
 exact ⟨rfl,PL.of' h' e⟩
theorem bZ (h:Hid (PL w0 w b s d l)) (c:Int) (hc:Hid (¬ hd l=c)) :
  Calls Tryz.prog 219 #[.pointer (some ⟨b,0,none⟩),.int .i32 c] w fun x w'=>x=.returned (.bool false)/\Hid (PL w0 w' b s d l):=by
 obtain ⟨p,h1,rfl⟩:=aa h
 replace h:=hide h1
 refine (Ow h c hc).mono ?_
 rintro x w' ⟨rfl,h'⟩
 exact ⟨rfl,PL.of h'⟩
theorem jI (h:Hid (PL w0 w b s d l)) (e:Int) :
  Calls Tryz.prog 220 #[.pointer (some ⟨b,0,none⟩),.int .i64 e] w fun x w'=>x=vF e (AL s.size l)/\Hid (Up b w0 w'):=by
 obtain ⟨p,h1,rfl⟩:=aa h
 replace h:=hide h1
 rw [oW (aa h).le]
 exact sW h e
theorem dG (h:Hid (PL w0 w b s d l)) (c:Int) (hc:Hid (hd l=c)) :
  Calls Tryz.prog 148 #[.pointer (some ⟨b,0,none⟩),.int .i32 c] w fun x w'=>x=.returned (.tuple #[])/\Hid (PL w0 w' b s d l.tail):=by
 obtain ⟨p,h1,rfl⟩:=aa h
 replace h:=hide h1
 refine (QV h c hc).mono ?_
 rintro x w' ⟨rfl,p',h',e⟩
 exact ⟨rfl,PL.of' h' e⟩
theorem rM (h:Hid (PL w0 w b s d l)) (c:Int) (hc:Hid (¬ hd l=c)) :
  Calls Tryz.prog 148 #[.pointer (some ⟨b,0,none⟩),.int .i32 c] w fun x w'=>x=vF 2 (AL s.size l)/\Hid (Up b w0 w'):=by
 obtain ⟨p,h1,rfl⟩:=aa h
 replace h:=hide h1
 rw [oW (aa h).le]
 exact T9 h c hc
theorem hd_ge' (l:List Sy):-1<=hd l:=by cases l<;>simp [hd]<;>omega
theorem gY {a:Type} {R:bn a} {val:a->Value} {f:Nat} {args:Array Value} (H:Calls Tryz.prog f args w (BD R val w0 b s d)) {y:Int×Int} (hR:Hid (R=.error y)) :
  Calls Tryz.prog f args w fun x w'=>x=vF y.1 y.2/\Hid (Up b w0 w'):=by
 rw [aa hR] at H;exact H
theorem dJ {a:Type} {R:bn a} {val:a->Value} {f:Nat} {args:Array Value} (H:Calls Tryz.prog f args w (BD R val w0 b s d)) {z:a} {l1:List Sy} (hR:Hid (R=.ok (z,l1))) :
  Calls Tryz.prog f args w fun x w'=>x=.returned (val z)/\Hid (PL w0 w' b s d l1):=by
 rw [aa hR] at H;exact H
theorem kN {R:bn Pn} {f:Nat} {args:Array Value} (H:Calls Tryz.prog f args w (Gj R w0 b s d)) {y:Int×Int} (hR:Hid (R=.error y)) :
  Calls Tryz.prog f args w fun x w'=>x=vF y.1 y.2/\Hid (Up b w0 w'):=by
 rw [aa hR] at H;exact H
theorem kP {R:bn Pn} {f:Nat} {args:Array Value} (H:Calls Tryz.prog f args w (Gj R w0 b s d)) {z:Pn} {l1:List Sy} (hR:Hid (R=.ok (z,l1))) :
  Calls Tryz.prog f args w fun x w'=>∃ n,x=.returned (gm n)/\Hid (aV w' (fun k=>w0.heap.size<=k) n z)/\Hid (PL w0 w' b s d l1):=by
 rw [aa hR] at H;exact H
theorem lN (h:Hid (PL w0 w b s d l)) (a:Int):Calls Tryz.prog 335 #[.pointer (some ⟨b,0,none⟩),.int .i64 a] w (BD (bQ s.size a l) acQ w0 b s d):=by
 obtain ⟨p,h1,rfl⟩:=aa h
 refine (Yr (hide h1) a).mono fun x w' h=>?_
 cases hR:bQ s.size a (ai s p) with
 | error y=>rw [hR] at h;exact h
 | ok y=>rw [hR] at h;obtain ⟨h1,p',h2,h3⟩:=h;exact ⟨h1,p',h2,h3⟩
end
theorem Ja {m:Int} (h:0<=m):ko m=max m 1:=by unfold ko;split<;>omega
theorem numV_ge' (l:List Sy) (h:iH (hd l)=true):0<=(kT l).1:=by
 simp only [iH,decide_eq_true_eq] at h
 unfold kT
 split
 ·rename_i h2
  simp only [iH,decide_eq_true_eq] at h2
  dsimp only;omega
 ·dsimp only;omega
theorem Ey {n:Nat} {least a:Int} {l l1:List Sy} (h:bQ n least l=.ok (a,l1)):0<=a/\a<=12:=by
 unfold bQ at h
 split at h
 ·rename_i hd
  split at h
  ·cases h
  ·rename_i h2
   have e:kT l=(a,l1):=by injection h
   have:=numV_ge' l hd
   rw [e] at h2 this
   dsimp only at h2 this
   omega
 ·cases h
def rO (w:World) (rb:Nat):Prop:=∀ j,j<3->(∃ u:Int,w.cell? ⟨rb,j,none⟩=some (.int .i64 u))/\w.frozen? ⟨rb,j,none⟩=false
theorem rO.of {W:World} {rb:Nat} {t:TypeId} (h:W.heap[rb]? = some (.cells #[.int .i64 0,.int .i64 0,.int .i64 0] t (0,0))):rO W rb:=by
 intro j hj
 refine ⟨⟨0,?_⟩,by simp [World.frozen?,h]⟩
 have:j=0\/j=1\/j=2:=by omega
 rcases this with rfl | rfl | rfl<;>simp [World.cell?,h]
theorem rO.new (w:World) (t:TypeId):rO (w.alloc (.cells #[.int .i64 0,.int .i64 0,.int .i64 0] t)) w.heap.size:=rO.of (heap_alloc_new w _)
theorem rO.up {w w':World} {rb b:Nat} (h:Hid (rO w rb)) (hu:Up b w w') (hb:rb≠b):rO w' rb:=by
 intro j hj
 obtain ⟨⟨u,hc⟩,hf⟩:=aa h j hj
 exact ⟨⟨u,YF hu hb hc⟩,Rf hu hb (World.block_lt_of_cell? w _ hc) hf⟩
theorem jP {W:World} {rb:Nat} {v0 v1 v2:Value} (u0 u1 u2:Value) (c0:W.cell? ⟨rb,0,none⟩=some v0) (c1:W.cell? ⟨rb,1,none⟩=some v1) (c2:W.cell? ⟨rb,2,none⟩=some v2) :
  (((W.setCell ⟨rb,0,none⟩ u0).setCell ⟨rb,1,none⟩ u1).setCell ⟨rb,2,none⟩ u2).cell? ⟨rb,0,none⟩=some u0/\(((W.setCell ⟨rb,0,none⟩ u0).setCell ⟨rb,1,none⟩ u1).setCell ⟨rb,2,none⟩ u2).cell? ⟨rb,1,none⟩=some u1/\(((W.setCell ⟨rb,0,none⟩ u0).setCell ⟨rb,1,none⟩ u1).setCell ⟨rb,2,none⟩ u2).cell? ⟨rb,2,none⟩=some u2:=by
 have d0:(W.setCell ⟨rb,0,none⟩ u0).cell? ⟨rb,0,none⟩=some u0:=World.cell?_setCell_same _ _ _ c0
 have d1:(W.setCell ⟨rb,0,none⟩ u0).cell? ⟨rb,1,none⟩=some v1:=ig c1 (by decide)
 have d2:(W.setCell ⟨rb,0,none⟩ u0).cell? ⟨rb,2,none⟩=some v2:=ig c2 (by decide)
 have e0:=ig (k:=1) (u:=u1) d0 (by decide)
 have e1:((W.setCell ⟨rb,0,none⟩ u0).setCell ⟨rb,1,none⟩ u1).cell? ⟨rb,1,none⟩=some u1:=World.cell?_setCell_same _ _ _ d1
 have e2:=ig (k:=1) (u:=u1) d2 (by decide)
 exact ⟨ig e0 (by decide),ig e1 (by decide),World.cell?_setCell_same _ _ _ e2⟩
section
variable {w0 w:World} {b:Nat} {s:ByteArray} {d:Int} {l:List Sy}
theorem BF (w:World) (o:Obj):Up b w (w.alloc o):=Up.below ((Below.refl _ w).alloc (Nat.le_refl _) o)
theorem jA {w':World} {o:Obj} (h:Hid (PL w0 w b s d l)) (hu:Hid (Up b (w.alloc o) w')):Hid (Up b w0 w'):=(PL.up h).trans ((BF w o).trans (aa hu))
theorem jB (h:Hid (PL w0 w b s d l)) (o:Obj):Hid (PL (w.alloc o) (w.alloc o) b s d l):=PL.base (PL.below h ((Below.refl _ w).alloc (Nat.le_refl _) o))
theorem Jb {w':World} {o:Obj} {l':List Sy} (h:Hid (PL w0 w b s d l)) (h':Hid (PL (w.alloc o) w' b s d l')) (u0 u1 u2:Value) :
  Hid (PL w0 (((w'.setCell ⟨w.heap.size,0,none⟩ u0).setCell ⟨w.heap.size,1,none⟩ u1).setCell ⟨w.heap.size,2,none⟩ u2) b s d l'):=by
 have hlt:=PL.lt h
 have hsz:=(PL.up h).size
 have h1:=PL.join ((PL.up h).trans (BF w o)) h'
 exact PL.set (PL.set (PL.set h1 hsz hlt 0 u0) hsz hlt 1 u1) hsz hlt 2 u2
set_option maxRecDepth 100000 in
set_option maxHeartbeats 8000000 in
theorem OP (h:Hid (PL w0 w b s d l)) :
  Calls Tryz.prog 323 #[.pointer (some ⟨b,0,none⟩)] w (BD (ja s.size l) iw w0 b s d):=by
 have HR3:=hide (rO.new w 63)
 have dI:=jB h (.cells #[.int .i64 0,.int .i64 0,.int .i64 0] 63)
 have hne:w.heap.size≠b:=by have:=PL.lt h;omega
 have zW:Hid (∀ w',Hid (Up b (w.alloc (.cells #[.int .i64 0,.int .i64 0,.int .i64 0] 63)) w')->Hid (Up b w0 w')):=fun w' hu=>jA h hu
 have BG:Hid (∀ w' l' u0 u1 u2,Hid (PL (w.alloc (.cells #[.int .i64 0,.int .i64 0,.int .i64 0] 63)) w' b s d l')->Hid (PL w0 (((w'.setCell ⟨w.heap.size,0,none⟩ u0).setCell ⟨w.heap.size,1,none⟩ u1).setCell ⟨w.heap.size,2,none⟩ u2) b s d l')):=fun w' l' u0 u1 u2 h'=>Jb h h' u0 u1 u2
 obtain ⟨R,hR⟩:∃ R,ja s.size l=R:=⟨_,rfl⟩
 rw [hR]
 cases hn:bQ s.size 0 l with
 | error y=>
  have HX:Hid (R=.error y):=by show _=_;rw [<-hR,ja,hn]
  have nY:=hide hn
  clear hn hR h
  go_enter Tryz.func323,Tryz.ntmps323
  go_wp2_with (go_at_call 335;refine (gY (lN dI 0) nY).mono ?_;rintro x w1 ⟨rfl,HU⟩)
  rw [aa HX]
  exact ⟨rfl,rfl,aa zW _ HU⟩
 | ok y=>
  obtain ⟨a,l1⟩:=y
  obtain ⟨ha0,aeX⟩:=Ey hn
  have hea:((a.toNat:Nat):Int)=a:=by omega
  have nY:=hide hn
  have hR2:R=if hd l1=44 then (if hd l1.tail=125 then .ok ((a.toNat,none,a+1),l1.tail.tail) else match bQ s.size a l1.tail with | .error x=>.error x | .ok (m,l2)=>gN s.size (a.toNat,some m.toNat,ko m) l2) else gN s.size (a.toNat,some a.toNat,ko a) l1:=by
   rw [<-hR,ja,hn];rfl
  clear hn hR h
  by_cases hcm:hd l1=44
  ·have HCM:=hide hcm
   rw [if_pos hcm] at hR2
   by_cases hcl:hd l1.tail=125
   ·have HX:=hide (hR2.trans (if_pos hcl))
    have zF:=hide hcl
    clear hcl hcm hR2
    go_enter Tryz.func323,Tryz.ntmps323
    go_wp2_with (first
     | (go_at_call 335;refine (dJ (lN dI 0) nY).mono ?_;clear dI nY;rintro x w1 ⟨rfl,HS⟩)
     | (go_at_call 219;have MI:=HCM;clear HCM;refine (dz HS 44 MI).mono ?_;clear HS;rintro x w2 ⟨rfl,HS⟩)
     | (go_at_call 219;refine (dz HS 125 zF).mono ?_;clear HS;rintro x w3 ⟨rfl,HS⟩;have H3:=rO.up HR3 (PL.up HS) hne;obtain ⟨⟨z0,c0⟩,f0⟩:=H3 0 (by omega);obtain ⟨⟨z1,c1⟩,f1⟩:=H3 1 (by omega);obtain ⟨⟨z2,c2⟩,f2⟩:=H3 2 (by omega);clear H3))
    obtain ⟨k0,k1,k2⟩:=jP (.int .i64 a) (.int .i64 (-1)) (.int .i64 (a+1)) c0 c1 c2
    refine bodyPost_ret (v:=iw (a.toNat,none,a+1)) (by simp [results,Tryz.results323,go_sem,k0,k1,k2,iw,gB,hea]) rfl ?_
    rw [aa HX]
    exact ⟨rfl,aa BG _ _ _ _ _ HS⟩
   ·rw [if_neg hcl] at hR2
    have zF:=hide hcl
    clear hcl hcm
    cases hn2:bQ s.size a l1.tail with
    | error y=>
     rw [hn2] at hR2
     have HX:Hid (R=.error y):=hR2
     have iy:=hide hn2
     clear hn2 hR2
     go_enter Tryz.func323,Tryz.ntmps323
     go_wp2_with (first
      | (go_at_call 335;refine (dJ (lN dI 0) nY).mono ?_;clear dI nY;rintro x w1 ⟨rfl,HS⟩)
      | (go_at_call 219;have MI:=HCM;clear HCM;refine (dz HS 44 MI).mono ?_;clear HS;rintro x w2 ⟨rfl,HS⟩)
      | (go_at_call 219;refine (bZ HS 125 zF).mono ?_;clear HS;rintro x w3 ⟨rfl,HS⟩)
      | (go_at_call 335;refine (gY (lN HS a) iy).mono ?_;rintro x w4 ⟨rfl,HU⟩))
     rw [aa HX]
     exact ⟨rfl,rfl,aa zW _ HU⟩
    | ok y=>
     obtain ⟨m,l2⟩:=y
     obtain ⟨hm0,aeY⟩:=Ey hn2
     have hem:((m.toNat:Nat):Int)=m:=by omega
     rw [hn2] at hR2
     have hR3:R=gN s.size (a.toNat,some m.toNat,ko m) l2:=hR2
     have iy:=hide hn2
     clear hn2 hR2
     by_cases qV:hd l2=125
     ·have HX:Hid (R=.ok ((a.toNat,some m.toNat,max m 1),l2.tail)):=by show _=_;rw [hR3,gN,if_pos qV,Ja hm0]
      have MJ:=hide qV
      clear qV hR3
      go_enter Tryz.func323,Tryz.ntmps323
      go_wp2_with (first
       | (go_at_call 335;refine (dJ (lN dI 0) nY).mono ?_;clear dI nY;rintro x w1 ⟨rfl,HS⟩)
       | (go_at_call 219;have MI:=HCM;clear HCM;refine (dz HS 44 MI).mono ?_;clear HS;rintro x w2 ⟨rfl,HS⟩)
       | (go_at_call 219;refine (bZ HS 125 zF).mono ?_;clear HS;rintro x w3 ⟨rfl,HS⟩)
       | (go_at_call 335;refine (dJ (lN HS a) iy).mono ?_;clear HS;rintro x w4 ⟨rfl,HS⟩)
       | (go_at_call 148;refine (dG HS 125 MJ).mono ?_;clear HS;rintro x w5 ⟨rfl,HS⟩;have H3:=rO.up HR3 (PL.up HS) hne;obtain ⟨⟨z0,c0⟩,f0⟩:=H3 0 (by omega);obtain ⟨⟨z1,c1⟩,f1⟩:=H3 1 (by omega);obtain ⟨⟨z2,c2⟩,f2⟩:=H3 2 (by omega);clear H3))
      obtain ⟨k0,k1,k2⟩:=jP (.int .i64 a) (.int .i64 m) (.int .i64 (max m 1)) c0 c1 c2
      refine bodyPost_ret (v:=iw (a.toNat,some m.toNat,max m 1)) (by simp [results,Tryz.results323,go_sem,k0,k1,k2,iw,gB,hea,hem]) rfl ?_
      rw [aa HX]
      exact ⟨rfl,aa BG _ _ _ _ _ HS⟩
     ·have HX:Hid (R=.error (2,AL s.size l2)):=by show _=_;rw [hR3,gN,if_neg qV];rfl
      have MJ:=hide qV
      clear qV hR3
      go_enter Tryz.func323,Tryz.ntmps323
      go_wp2_with (first
       | (go_at_call 335;refine (dJ (lN dI 0) nY).mono ?_;clear dI nY;rintro x w1 ⟨rfl,HS⟩)
       | (go_at_call 219;have MI:=HCM;clear HCM;refine (dz HS 44 MI).mono ?_;clear HS;rintro x w2 ⟨rfl,HS⟩)
       | (go_at_call 219;refine (bZ HS 125 zF).mono ?_;clear HS;rintro x w3 ⟨rfl,HS⟩)
       | (go_at_call 335;refine (dJ (lN HS a) iy).mono ?_;clear HS;rintro x w4 ⟨rfl,HS⟩)
       | (go_at_call 148;refine (rM HS 125 MJ).mono ?_;rintro x w5 ⟨rfl,HU⟩))
      rw [aa HX]
      exact ⟨rfl,rfl,aa zW _ HU⟩
  ·rw [if_neg hcm] at hR2
   have HCM:=hide hcm
   clear hcm
   by_cases qV:hd l1=125
   ·have HX:Hid (R=.ok ((a.toNat,some a.toNat,max a 1),l1.tail)):=by show _=_;rw [hR2,gN,if_pos qV,Ja ha0]
    have MJ:=hide qV
    clear qV hR2
    go_enter Tryz.func323,Tryz.ntmps323
    go_wp2_with (first
     | (go_at_call 335;refine (dJ (lN dI 0) nY).mono ?_;clear dI nY;rintro x w1 ⟨rfl,HS⟩)
     | (go_at_call 219;refine (bZ HS 44 HCM).mono ?_;clear HS;rintro x w2 ⟨rfl,HS⟩)
     | (go_at_call 148;refine (dG HS 125 MJ).mono ?_;clear HS;rintro x w5 ⟨rfl,HS⟩;have H3:=rO.up HR3 (PL.up HS) hne;obtain ⟨⟨z0,c0⟩,f0⟩:=H3 0 (by omega);obtain ⟨⟨z1,c1⟩,f1⟩:=H3 1 (by omega);obtain ⟨⟨z2,c2⟩,f2⟩:=H3 2 (by omega);clear H3))
    obtain ⟨k0,k1,k2⟩:=jP (.int .i64 a) (.int .i64 a) (.int .i64 (max a 1)) c0 c1 c2
    refine bodyPost_ret (v:=iw (a.toNat,some a.toNat,max a 1)) (by simp [results,Tryz.results323,go_sem,k0,k1,k2,iw,gB,hea]) rfl ?_
    rw [aa HX]
    exact ⟨rfl,aa BG _ _ _ _ _ HS⟩
   ·have HX:Hid (R=.error (2,AL s.size l1)):=by show _=_;rw [hR2,gN,if_neg qV];rfl
    have MJ:=hide qV
    clear qV hR2
    go_enter Tryz.func323,Tryz.ntmps323
    go_wp2_with (first
     | (go_at_call 335;refine (dJ (lN dI 0) nY).mono ?_;clear dI nY;rintro x w1 ⟨rfl,HS⟩)
     | (go_at_call 219;refine (bZ HS 44 HCM).mono ?_;clear HS;rintro x w2 ⟨rfl,HS⟩)
     | (go_at_call 148;refine (rM HS 125 MJ).mono ?_;rintro x w5 ⟨rfl,HU⟩))
    rw [aa HX]
    exact ⟨rfl,rfl,aa zW _ HU⟩
end
section
variable {w0 w:World} {b:Nat} {s:ByteArray} {d:Int} {l:List Sy}
set_option maxRecDepth 100000 in
set_option maxHeartbeats 8000000 in
theorem OQ (h:Hid (PL w0 w b s d l)) (qN:mE (hd l)=true) :
  Calls Tryz.prog 306 #[.pointer (some ⟨b,0,none⟩)] w (BD (eQ s.size l) iw w0 b s d):=by
 have HR3:=hide (rO.new w 63)
 have dI:=jB h (.cells #[.int .i64 0,.int .i64 0,.int .i64 0] 63)
 have hne:w.heap.size≠b:=by have:=PL.lt h;omega
 have zW:Hid (∀ w',Hid (Up b (w.alloc (.cells #[.int .i64 0,.int .i64 0,.int .i64 0] 63)) w')->Hid (Up b w0 w')):=fun w' hu=>jA h hu
 have BG:Hid (∀ w' l' u0 u1 u2,Hid (PL (w.alloc (.cells #[.int .i64 0,.int .i64 0,.int .i64 0] 63)) w' b s d l')->Hid (PL w0 (((w'.setCell ⟨w.heap.size,0,none⟩ u0).setCell ⟨w.heap.size,1,none⟩ u1).setCell ⟨w.heap.size,2,none⟩ u2) b s d l')):=fun w' l' u0 u1 u2 h'=>Jb h h' u0 u1 u2
 obtain ⟨R,hR⟩:∃ R,eQ s.size l=R:=⟨_,rfl⟩
 rw [hR]
 unfold eQ at hR
 simp only [mE,decide_eq_true_eq] at qN
 clear h
 by_cases UE:hd l=42
 ·rw [if_neg (by omega),if_pos UE] at hR
  have HX:=hide hR.symm
  have xY:=hide UE
  clear UE hR qN
  go_enter Tryz.func306,Tryz.ntmps306
  go_wp2_with (first
   | (go_at_call 219;have HQ:=xY;clear xY;refine (dz dI 42 HQ).mono ?_;clear dI;rintro x w42 ⟨rfl,HS⟩;have H3:=rO.up HR3 (PL.up HS) hne;obtain ⟨⟨z0,c0⟩,f0⟩:=H3 0 (by omega);obtain ⟨⟨z1,c1⟩,f1⟩:=H3 1 (by omega);obtain ⟨⟨z2,c2⟩,f2⟩:=H3 2 (by omega);clear H3))
  obtain ⟨k0,k1,k2⟩:=jP (.int .i64 0) (.int .i64 (-1)) (.int .i64 2) c0 c1 c2
  refine bodyPost_ret (v:=iw (0,none,2)) (by simp [results,Tryz.results306,go_sem,k0,k1,k2,iw,gB]) rfl ?_
  rw [aa HX]
  exact ⟨rfl,aa BG _ _ _ _ _ HS⟩
 by_cases h43:hd l=43
 ·rw [if_neg (by omega),if_neg UE,if_pos h43] at hR
  have HX:=hide hR.symm
  have xY:=hide UE
  have DV:=hide h43
  clear UE h43 hR qN
  go_enter Tryz.func306,Tryz.ntmps306
  go_wp2_with (first
   | (go_at_call 219;have HQ:=xY;clear xY;refine (bZ dI 42 HQ).mono ?_;clear dI;rintro x w42 ⟨rfl,HS⟩)
   | (go_at_call 219;have HQ:=DV;clear DV;refine (dz HS 43 HQ).mono ?_;clear HS;rintro x w43 ⟨rfl,HS⟩;have H3:=rO.up HR3 (PL.up HS) hne;obtain ⟨⟨z0,c0⟩,f0⟩:=H3 0 (by omega);obtain ⟨⟨z1,c1⟩,f1⟩:=H3 1 (by omega);obtain ⟨⟨z2,c2⟩,f2⟩:=H3 2 (by omega);clear H3))
  obtain ⟨k0,k1,k2⟩:=jP (.int .i64 1) (.int .i64 (-1)) (.int .i64 2) c0 c1 c2
  refine bodyPost_ret (v:=iw (1,none,2)) (by simp [results,Tryz.results306,go_sem,k0,k1,k2,iw,gB]) rfl ?_
  rw [aa HX]
  exact ⟨rfl,aa BG _ _ _ _ _ HS⟩
 by_cases h63:hd l=63
 ·rw [if_neg (by omega),if_neg UE,if_neg h43] at hR
  have HX:=hide hR.symm
  have xY:=hide UE
  have DV:=hide h43
  have MK:=hide h63
  clear UE h43 h63 hR qN
  go_enter Tryz.func306,Tryz.ntmps306
  go_wp2_with (first
   | (go_at_call 219;have HQ:=xY;clear xY;refine (bZ dI 42 HQ).mono ?_;clear dI;rintro x w42 ⟨rfl,HS⟩)
   | (go_at_call 219;have HQ:=DV;clear DV;refine (bZ HS 43 HQ).mono ?_;clear HS;rintro x w43 ⟨rfl,HS⟩)
   | (go_at_call 219;have HQ:=MK;clear MK;refine (dz HS 63 HQ).mono ?_;clear HS;rintro x w63 ⟨rfl,HS⟩;have H3:=rO.up HR3 (PL.up HS) hne;obtain ⟨⟨z0,c0⟩,f0⟩:=H3 0 (by omega);obtain ⟨⟨z1,c1⟩,f1⟩:=H3 1 (by omega);obtain ⟨⟨z2,c2⟩,f2⟩:=H3 2 (by omega);clear H3))
  obtain ⟨k0,k1,k2⟩:=jP (.int .i64 0) (.int .i64 1) (.int .i64 2) c0 c1 c2
  refine bodyPost_ret (v:=iw (0,some 1,2)) (by simp [results,Tryz.results306,go_sem,k0,k1,k2,iw,gB]) rfl ?_
  rw [aa HX]
  exact ⟨rfl,aa BG _ _ _ _ _ HS⟩
 have abh:hd l=123:=by omega
 rw [if_pos abh] at hR
 have xY:=hide UE
 have DV:=hide h43
 have MK:=hide h63
 have aaB:=hide abh
 clear UE h43 h63 abh qN
 cases R with
 | error y=>
  have HR:=hide hR
  clear hR
  go_enter Tryz.func306,Tryz.ntmps306
  go_wp2_with (first
   | (go_at_call 219;have HQ:=xY;clear xY;refine (bZ dI 42 HQ).mono ?_;clear dI;rintro x w42 ⟨rfl,HS⟩)
   | (go_at_call 219;have HQ:=DV;clear DV;refine (bZ HS 43 HQ).mono ?_;clear HS;rintro x w43 ⟨rfl,HS⟩)
   | (go_at_call 219;have HQ:=MK;clear MK;refine (bZ HS 63 HQ).mono ?_;clear HS;rintro x w63 ⟨rfl,HS⟩)
   | (go_at_call 148;refine (dG HS 123 aaB).mono ?_;clear HS;rintro x w5 ⟨rfl,HS⟩)
   | (go_at_call 323;refine (gY (OP HS) HR).mono ?_;rintro x w6 ⟨rfl,HU⟩))
  exact ⟨rfl,rfl,aa zW _ HU⟩
 | ok y=>
  obtain ⟨o,l1⟩:=y
  have HR:=hide hR
  clear hR
  go_enter Tryz.func306,Tryz.ntmps306
  go_wp2_with (first
   | (go_at_call 219;have HQ:=xY;clear xY;refine (bZ dI 42 HQ).mono ?_;clear dI;rintro x w42 ⟨rfl,HS⟩)
   | (go_at_call 219;have HQ:=DV;clear DV;refine (bZ HS 43 HQ).mono ?_;clear HS;rintro x w43 ⟨rfl,HS⟩)
   | (go_at_call 219;have HQ:=MK;clear MK;refine (bZ HS 63 HQ).mono ?_;clear HS;rintro x w63 ⟨rfl,HS⟩)
   | (go_at_call 148;refine (dG HS 123 aaB).mono ?_;clear HS;rintro x w5 ⟨rfl,HS⟩)
   | (go_at_call 323;refine (dJ (OP HS) HR).mono ?_;clear HS;simp only [iw];rintro x w6 ⟨rfl,HS⟩;have H3:=rO.up HR3 (PL.up HS) hne;obtain ⟨⟨z0,c0⟩,f0⟩:=H3 0 (by omega);obtain ⟨⟨z1,c1⟩,f1⟩:=H3 1 (by omega);obtain ⟨⟨z2,c2⟩,f2⟩:=H3 2 (by omega);clear H3))
  obtain ⟨k0,k1,k2⟩:=jP (.int .i64 o.1) (.int .i64 (gB o.2.1)) (.int .i64 o.2.2) c0 c1 c2
  refine bodyPost_ret (v:=iw o) (by simp [results,Tryz.results306,go_sem,k0,k1,k2,iw]) rfl ?_
  exact ⟨rfl,aa BG _ _ _ _ _ HS⟩
end
theorem pow16':∀ m:Nat,m<=6->(16:Int) ^ m<=16777216/\0<(16:Int) ^ m:=by decide
theorem UF (v:Int) (w:World):Calls Tryz.prog 332 #[.int .i32 v] w fun e w'=>e=.returned (.bool (aF v))/\w=w':=by
 refine (Tryz.utf8_ValidRune v w).mono ?_
 rintro e w' ⟨rfl,rfl⟩
 refine ⟨?_,rfl⟩
 have:Lib.validRune v=aF v:=by
  unfold Lib.validRune aF
  apply decide_eq_decide.2
  omega
 rw [this]
section
variable {w0 w:World} {b:Nat} {s:ByteArray} {d:Int} {l:List Sy}
theorem zX (h:Hid (PL w0 w b s d l)) (hc:Hid (uF (hd l)<0)) :
  Calls Tryz.prog 341 #[.pointer (some ⟨b,0,none⟩),.string ⟨#[48,49,50,51,52,53,54,55,56,57,97,98,99,100,101,102]⟩] w fun x w'=>x=.returned (.tuple #[.int .i64 0,.bool false])/\Hid (PL w0 w' b s d l):=by
 obtain ⟨p,h1,rfl⟩:=aa h
 refine (FX h1 FV (uK _ (by decide)) (by decide) (by decide) (uF (hd (ai s p))) (by show _=_;rw [OA])).mono ?_
 intro x w' hh
 obtain ⟨e,h2⟩:=hh.1 hc
 exact ⟨e,PL.of h2⟩
theorem UG (h:Hid (PL w0 w b s d l)) {v:Int} (hv:Hid (uF (hd l)=v)) (h0:0<=v) :
  Calls Tryz.prog 341 #[.pointer (some ⟨b,0,none⟩),.string ⟨#[48,49,50,51,52,53,54,55,56,57,97,98,99,100,101,102]⟩] w fun x w'=>x=.returned (.tuple #[.int .i64 v,.bool true])/\Hid (PL w0 w' b s d l.tail):=by
 obtain ⟨p,h1,rfl⟩:=aa h
 refine (FX h1 FV (uK _ (by decide)) (by decide) (by decide) v (by show _=_;rw [OA];exact aa hv)).mono ?_
 intro x w' hh
 obtain ⟨e,p',h2,h3⟩:=hh.2 h0
 exact ⟨e,PL.of' h2 h3⟩
theorem YG (c:Int):uF c<=15:=by
 unfold uF
 split
 ·omega
 ·split<;>omega
theorem Rh {v:Int} {k:Nat} (hk:k<6) (h:0<=uF (hd l)):uG (6 - k) v k l=uG (6 - (k+1)) (16*v+uF (hd l)) (k+1) l.tail:=by
 rw [show 6 - k=(6 - (k+1))+1 from by omega,uG,if_pos h]
theorem Ez {v:Int} {k:Nat} (hk:k=6\/uF (hd l)<0) (hk6:k<=6):uG (6 - k) v k l=(v,k,l):=by
 by_cases h6:k=6
 ·subst h6;rfl
 ·rw [show 6 - k=(6 - (k+1))+1 from by omega,uG,if_neg (by omega)]
def abj (R:bn Int) (w0 wr:World) (b:Nat) (s:ByteArray) (d:Int) (v:Int) (m:Nat) (l:List Sy):Prop:=
 lL s.size (uG (6 - m) v m l)=R/\Hid (PL w0 wr b s d l)/\0<=v/\v<(16:Int) ^ m
set_option maxRecDepth 100000 in
set_option maxHeartbeats 8000000 in
theorem EA (h:Hid (PL w0 w b s d l)) :
  Calls Tryz.prog 344 #[.pointer (some ⟨b,0,none⟩)] w (BD (oV s.size l) Oy w0 b s d):=by
 obtain ⟨R,hR⟩:∃ R,oV s.size l=R:=⟨_,rfl⟩
 rw [hR]
 by_cases hc:hd l=123
 ·rw [oV,if_pos hc] at hR
  have HC:=hide hc
  have HR:=hide hR
  clear hR hc
  go_enter Tryz.func344,Tryz.ntmps344
  go_wp2_with (go_at_call 148;refine (dG h 123 HC).mono ?_;clear h;rintro x w1 ⟨rfl,HS⟩)
  have HP:Hid (abj R w0 w1 b s d 0 0 l.tail):=⟨aa HR,HS,by decide,by decide⟩
  clear HS HR HC
  go_loopw [3,4] (fun n k wr=>∃ (v:Int) (m:Nat) (l':List Sy),m<=6/\n=.int .i32 v/\k=.int .i64 m/\Hid (abj R w0 wr b s d v m l')) (fun _ k _=>6 - (intOf k).toNat)
  case atStart=>exact ⟨0,0,_,by omega,rfl,rfl,HP⟩
  case round=>
   clear HP
   obtain ⟨v,m,l',hm,rfl,rfl,HP⟩:=hrel
   obtain ⟨hr,HS,hv0,hv1⟩:=aa HP
   obtain ⟨hp1,hp2⟩:=pow16' m hm
   have hvb:v<16777216:=by omega
   by_cases hm6:m<6
   ·by_cases hn:uF (hd l')<0
    ·have hend:lL s.size (v,m,l')=R:=by rw [<-hr,Ez (.inr hn) hm]
     have HN:=hide hn
     clear hr HP hv1 hp1 hp2 hn
     obtain ⟨c,hcc⟩:∃ c,hd l'=c:=⟨_,rfl⟩
     have gK:=hide hcc
     rw [lL] at hend
     dsimp only at hend
     rw [hcc] at hend
     have rP:=hide hend
     clear hcc hend
     by_cases hz:m=0
     ·have hz':((m:Int)==0)=true:=by simp [hz]
      have HX:Hid (R=.error (2,AL s.size l')):=by show _=_;rw [<-aa rP,if_pos (.inl hz)];rfl
      clear hz rP
      go_wp2_with (first
       | (go_at_call 341;refine (zX HS HN).mono ?_;clear HS HN;rintro x w3 ⟨rfl,HS⟩)
       | (go_at_call 251;refine (dX HS gK).mono ?_;clear HS;rintro x w2 ⟨rfl,HS⟩)
       | (go_at_call 220;refine (jI HS 2).mono ?_;rintro x w4 ⟨rfl,HU⟩))
      rw [aa HX]
      exact ⟨rfl,rfl,HU⟩
     ·have hz':((m:Int)==0)=false:=by simp;omega
      by_cases hc:c=125
      ·subst hc
       have HY:=hide (fun w1=>UF v w1)
       cases hsy:aF v
       ·have HX:Hid (R=.error (3,AL s.size l')):=by show _=_;rw [<-aa rP,if_neg (by omega),if_neg (by rw [hsy];decide)];rfl
        rw [hsy] at HY
        clear hz rP hsy
        go_wp2_with (first
         | (go_at_call 341;refine (zX HS HN).mono ?_;clear HS HN;rintro x w3 ⟨rfl,HS⟩)
         | (go_at_call 251;refine (dX HS gK).mono ?_;clear HS;rintro x w2 ⟨rfl,HS⟩)
         | (go_at_call 332;refine (aa HY _).mono ?_;rintro x w5 ⟨rfl,rfl⟩)
         | (go_at_call 220;refine (jI HS 3).mono ?_;rintro x w4 ⟨rfl,HU⟩))
        rw [aa HX]
        exact ⟨rfl,rfl,HU⟩
       ·have HX:Hid (R=.ok (v,l'.tail)):=by show _=_;rw [<-aa rP,if_neg (by omega),if_pos hsy]
        rw [hsy] at HY
        clear hz rP hsy
        go_wp2_with (first
         | (go_at_call 341;refine (zX HS HN).mono ?_;clear HS HN;rintro x w3 ⟨rfl,HS⟩)
         | (go_at_call 251;refine (dX HS gK).mono ?_;clear HS;rintro x w2 ⟨rfl,HS⟩)
         | (go_at_call 332;refine (aa HY _).mono ?_;rintro x w5 ⟨rfl,rfl⟩)
         | (go_at_call 252;refine (Ex HS).mono ?_;clear HS;rintro x w6 ⟨rfl,HS⟩))
        go_ret
        rw [aa HX]
        exact ⟨rfl,HS⟩
      ·have hb':(c != 125)=true:=by simpa using hc
       have HX:Hid (R=.error (2,AL s.size l')):=by show _=_;rw [<-aa rP,if_pos (.inr hc)];rfl
       clear hz rP hc
       go_wp2_with (first
        | (go_at_call 341;refine (zX HS HN).mono ?_;clear HS HN;rintro x w3 ⟨rfl,HS⟩)
        | (go_at_call 251;refine (dX HS gK).mono ?_;clear HS;rintro x w2 ⟨rfl,HS⟩)
        | (go_at_call 220;refine (jI HS 2).mono ?_;rintro x w4 ⟨rfl,HU⟩))
       rw [aa HX]
       exact ⟨rfl,rfl,HU⟩
    ·obtain ⟨z,hz⟩:∃ z,uF (hd l')=z:=⟨_,rfl⟩
     have aek:=YG (hd l')
     rw [hz] at aek
     have hz0:0<=z:=by omega
     have OT:Hid (∀ w',Hid (PL w0 w' b s d l'.tail)->abj R w0 w' b s d (16*v+z) (m+1) l'.tail):=by
      intro w' hs
      refine ⟨?_,hs,by omega,?_⟩
      ·rw [<-hr,Rh hm6 (by omega),hz]
      ·rw [Int.pow_succ];omega
     have HV:=hide hz
     clear hr HP hv1 hp1 hp2 hn hz
     go_wp2_with (first
      | (go_at_call 341;refine (UG HS HV hz0).mono ?_;clear HS;rintro x w3 ⟨rfl,HS⟩))
     go_roundw
     case rel=>exact ⟨_,m+1,_,by omega,rfl,by go_num,aa OT _ HS⟩
     case measure=>simp [intOf];omega
   ·have hm':decide ((m:Int)<6)=false:=by simp;omega
    have hend:lL s.size (v,m,l')=R:=by rw [<-hr,Ez (.inl (by omega)) hm]
    clear hr HP hv1 hp1 hp2 hm6
    obtain ⟨c,hcc⟩:∃ c,hd l'=c:=⟨_,rfl⟩
    have gK:=hide hcc
    rw [lL] at hend
    dsimp only at hend
    rw [hcc] at hend
    have rP:=hide hend
    clear hcc hend
    by_cases hz:m=0
    ·have hz':((m:Int)==0)=true:=by simp [hz]
     have HX:Hid (R=.error (2,AL s.size l')):=by show _=_;rw [<-aa rP,if_pos (.inl hz)];rfl
     clear hz rP
     go_wp2_with (first
      | (go_at_call 251;refine (dX HS gK).mono ?_;clear HS;rintro x w2 ⟨rfl,HS⟩)
      | (go_at_call 220;refine (jI HS 2).mono ?_;rintro x w4 ⟨rfl,HU⟩))
     rw [aa HX]
     exact ⟨rfl,rfl,HU⟩
    ·have hz':((m:Int)==0)=false:=by simp;omega
     by_cases hc:c=125
     ·subst hc
      have HY:=hide (fun w1=>UF v w1)
      cases hsy:aF v
      ·have HX:Hid (R=.error (3,AL s.size l')):=by show _=_;rw [<-aa rP,if_neg (by omega),if_neg (by rw [hsy];decide)];rfl
       rw [hsy] at HY
       clear hz rP hsy
       go_wp2_with (first
        | (go_at_call 251;refine (dX HS gK).mono ?_;clear HS;rintro x w2 ⟨rfl,HS⟩)
        | (go_at_call 332;refine (aa HY _).mono ?_;rintro x w5 ⟨rfl,rfl⟩)
        | (go_at_call 220;refine (jI HS 3).mono ?_;rintro x w4 ⟨rfl,HU⟩))
       rw [aa HX]
       exact ⟨rfl,rfl,HU⟩
      ·have HX:Hid (R=.ok (v,l'.tail)):=by show _=_;rw [<-aa rP,if_neg (by omega),if_pos hsy]
       rw [hsy] at HY
       clear hz rP hsy
       go_wp2_with (first
        | (go_at_call 251;refine (dX HS gK).mono ?_;clear HS;rintro x w2 ⟨rfl,HS⟩)
        | (go_at_call 332;refine (aa HY _).mono ?_;rintro x w5 ⟨rfl,rfl⟩)
        | (go_at_call 252;refine (Ex HS).mono ?_;clear HS;rintro x w6 ⟨rfl,HS⟩))
       go_ret
       rw [aa HX]
       exact ⟨rfl,HS⟩
     ·have hb':(c != 125)=true:=by simpa using hc
      have HX:Hid (R=.error (2,AL s.size l')):=by show _=_;rw [<-aa rP,if_pos (.inr hc)];rfl
      clear hz rP hc
      go_wp2_with (first
       | (go_at_call 251;refine (dX HS gK).mono ?_;clear HS;rintro x w2 ⟨rfl,HS⟩)
       | (go_at_call 220;refine (jI HS 2).mono ?_;rintro x w4 ⟨rfl,HU⟩))
      rw [aa HX]
      exact ⟨rfl,rfl,HU⟩
 ·have HC:=hide hc
  rw [oV,if_neg hc] at hR
  have HX:Hid (R=.error (2,AL s.size l)):=hR.symm
  clear hR hc
  go_enter Tryz.func344,Tryz.ntmps344
  go_wp2_with (go_at_call 148;refine (rM h 123 HC).mono ?_;clear h;rintro x w1 ⟨rfl,HU⟩)
  rw [aa HX]
  exact ⟨rfl,rfl,HU⟩
end
theorem EB (s:ByteArray) (p:Nat) (h:(s.get! p).toNat<128):Utf8.decode s p=((s.get! p).toNat,1):=by
 unfold Utf8.decode
 simp only []
 rw [if_pos (by simpa using h)]
 rfl
theorem Ri (s:ByteArray) (p:Nat) (h:¬ (s.get! p).toNat<128):128<=(Utf8.decode s p).1:=by
 have g0:=(s.get! p).toNat_lt
 have g1:=(s.get! (p+1)).toNat_lt
 unfold Utf8.decode
 simp only [Utf8.valid,Utf8.runeError,Nat.add_zero,Bool.and_eq_true,Bool.or_eq_true,beq_iff_eq,decide_eq_true_eq,ge_iff_le]
 repeat' split
 all_goals simp only []
 all_goals omega
theorem wE (s:ByteArray) (p:Nat) (h:p<s.size) (x:Nat) (hx:x<128):hd (ai s p)=(x:Int)↔(s.get! p).toNat=x:=by
 rw [FR h]
 by_cases hb:(s.get! p).toNat<128
 ·rw [EB s p hb];simp only [];omega
 ·have:=Ri s p hb
  constructor<;>intro _<;>omega
theorem Gl (s:ByteArray) (p:Nat) (h:p<s.size) (hx:(s.get! p).toNat<128):(ai s p).tail=ai s (p+1):=by
 rw [Ou h,EB s p hx]
theorem wF (s:ByteArray):s.data.toList.length=s.size:=by rw [Array.length_toList];rfl
theorem Gm (s:ByteArray) (p:Nat):(s.extract p s.size).data.toList=s.data.toList.drop p:=by
 rw [ByteArray.data_extract,Array.toList_extract]
 rw [List.extract,List.take_of_length_le (by rw [List.length_drop,wF];exact Nat.le_refl _)]
theorem drop_at (s:ByteArray) (p:Nat) (h:p<s.size):s.data.toList.drop p=s.get! p::s.data.toList.drop (p+1):=by
 have h':p<s.data.toList.length:=by rw [wF];exact h
 rw [List.drop_eq_getElem_cons h',Au s p h];rfl
theorem nG (s:ByteArray) (p:Nat) (hle:p<=s.size) (x:UInt8) (hx:x.toNat<128) :
  Lib.hasPrefix (s.extract p s.size).data.toList [92,x]=decide (hd (ai s p)=92/\hd (ai s p).tail=(x.toNat:Int)):=by
 rw [Gm]
 unfold Lib.hasPrefix
 by_cases hp:p<s.size
 ·rw [drop_at s p hp]
  by_cases zG:hd (ai s p)=92
  ·have e:=(wE s p hp 92 (by decide)).1 zG
   have e1:s.get! p=92:=UInt8.toNat_inj.1 e
   rw [Gl s p hp (by omega),e1]
   by_cases hp1:p+1<s.size
   ·rw [drop_at s (p+1) hp1]
    have e2:=wE s (p+1) hp1 x.toNat hx
    simp only [List.isPrefixOf,zG,true_and,Bool.and_true,e2,beq_self_eq_true,Bool.true_and]
    rw [Bool.eq_iff_iff]
    simp only [beq_iff_eq,decide_eq_true_eq]
    rw [<-UInt8.toNat_inj]
    exact eq_comm
   ·obtain e3:p+1=s.size:=by omega
    rw [e3,xH,List.drop_eq_nil_of_le (by rw [wF];exact Nat.le_refl _)]
    simp [List.isPrefixOf]
  ·have e1:¬ s.get! p=92:=fun e=>zG ((wE s p hp 92 (by decide)).2 (by rw [e];rfl))
   have e2:(92==s.get! p)=false:=by simpa using fun e=>e1 e.symm
   simp [List.isPrefixOf,zG,e2]
 ·obtain rfl:p=s.size:=by omega
  rw [xH,List.drop_eq_nil_of_le (by rw [wF];exact Nat.le_refl _)]
  simp [List.isPrefixOf]
section
variable {w0 w:World} {b:Nat} {s:ByteArray} {d:Int} {l:List Sy}
theorem wG (t u:ByteArray) (w:World) {v:Bool} (hv:Hid (Lib.hasPrefix t.data.toList u.data.toList=v)):Calls Tryz.prog 338 #[.string t,.string u] w fun e w'=>e=.returned (.bool v)/\w=w':=by
 refine (Tryz.strings_HasPrefix t u w).mono ?_
 rintro e w' ⟨rfl,rfl⟩
 exact ⟨by rw [aa hv],rfl⟩
set_option maxRecDepth 100000 in
set_option maxHeartbeats 4000000 in
theorem iR (h:Hid (PL w0 w b s d l)) (hc:Hid (isSet l=false)) :
  Calls Tryz.prog 329 #[.pointer (some ⟨b,0,none⟩)] w fun x w'=>x=.returned (.tuple #[.string ⟨#[]⟩,.bool false])/\Hid (PL w0 w' b s d l):=by
 obtain ⟨p,h1,rfl⟩:=aa h
 have q0:=h1.c0
 have q1:=h1.c1
 have hsm:=h1.small
 have hle:=h1.le
 have hpI:(p:Int)<=(s.size:Int):=by omega
 have hcc:¬ (hd (ai s p)=92/\(hd (ai s p).tail=100\/hd (ai s p).tail=119)):=by have:=aa hc;simpa [isSet] using this
 have A1:=hide (fun w1=>wG (v:=false) (s.extract p s.size) ⟨#[92,100]⟩ w1 (by show Lib.hasPrefix _ [92,100]=_;rw [nG s p hle 100 (by decide)];simp;intro e1 e2;exact hcc ⟨e1,.inl e2⟩))
 have A2:=hide (fun w1=>wG (v:=false) (s.extract p s.size) ⟨#[92,119]⟩ w1 (by show Lib.hasPrefix _ [92,119]=_;rw [nG s p hle 119 (by decide)];simp;intro e1 e2;exact hcc ⟨e1,.inr e2⟩))
 clear hcc hc h1
 go_enter Tryz.func329,Tryz.ntmps329
 go_wp2_with fail
 go_quiet (fail)
 go_wp2_with (first
  | (go_at_call 338;refine (aa A1 _).mono ?_;clear A1;rintro e w1 ⟨rfl,rfl⟩)
  | (go_at_call 338;have A3:=A2;clear A2;refine (aa A3 _).mono ?_;rintro e w1 ⟨rfl,rfl⟩))
 go_ret2
 exact ⟨rfl,PL.below h ⟨rfl,rfl,rfl,Nat.le_refl _,fun _ _=>rfl⟩⟩
end
theorem ML:encS zV=⟨#[48,57]⟩:=by decide +kernel
theorem Jc:encS wy=⟨#[48,57,65,90,95,95,97,122]⟩:=by decide +kernel
theorem two_bytes (s:ByteArray) (p:Nat) (hle:p<=s.size) (x:Nat) (hx:x<128) (h1:hd (ai s p)=92) (h2:hd (ai s p).tail=(x:Int)):p+2<=s.size/\ai s (p+2)=(ai s p).tail.tail:=by
 have hp:p<s.size:=by
  by_cases hp:p<s.size
  ·exact hp
  ·obtain rfl:p=s.size:=by omega
   rw [xH] at h1;omega
 have e:=(wE s p hp 92 (by decide)).1 h1
 rw [Gl s p hp (by omega)] at h2 ⊢
 have hp1:p+1<s.size:=by
  by_cases hp1:p+1<s.size
  ·exact hp1
  ·have e3:p+1=s.size:=by omega
   rw [e3,xH] at h2;omega
 have e2:=(wE s (p+1) hp1 x hx).1 h2
 rw [Gl s (p+1) hp1 (by omega)]
 exact ⟨by omega,rfl⟩
section
variable {w0 w:World} {b:Nat} {s:ByteArray} {d:Int} {l:List Sy}
set_option maxRecDepth 100000 in
set_option maxHeartbeats 4000000 in
theorem wH (h:Hid (PL w0 w b s d l)) (hc:Hid (isSet l=true)) :
  Calls Tryz.prog 329 #[.pointer (some ⟨b,0,none⟩)] w fun x w'=>x=.returned (.tuple #[.string (encS (jN l)),.bool true])/\Hid (PL w0 w' b s d l.tail.tail):=by
 obtain ⟨p,h1,rfl⟩:=aa h
 have q0:=h1.c0
 have q1:=h1.c1
 have f1:=h1.fz 1
 have hsm:=h1.small
 have hle:=h1.le
 have hpI:(p:Int)<=(s.size:Int):=by omega
 have hcc:hd (ai s p)=92/\(hd (ai s p).tail=100\/hd (ai s p).tail=119):=by have:=aa hc;simpa [isSet] using this
 have HH:=hide h1
 obtain ⟨hc1,hc2⟩:=hcc
 have hp2:p+2<=s.size/\ai s (p+2)=(ai s p).tail.tail:=by
  rcases hc2 with hc2 | hc2
  ·exact two_bytes s p hle 100 (by decide) hc1 hc2
  ·exact two_bytes s p hle 119 (by decide) hc1 hc2
 obtain ⟨hp2,he2⟩:=hp2
 have HE:=hide he2
 rcases hc2 with hc2 | hc2
 ·have hse:encS (jN (ai s p))=⟨#[48,57]⟩:=by rw [jN,if_pos hc2];exact ML
  rw [hse]
  have A1:=hide (fun w1=>wG (v:=true) (s.extract p s.size) ⟨#[92,100]⟩ w1 (by show Lib.hasPrefix _ [92,100]=_;rw [nG s p hle 100 (by decide)];simp;exact ⟨hc1,hc2⟩))
  clear hc2 hc1 hc h1 h he2 hse
  go_enter Tryz.func329,Tryz.ntmps329
  go_wp2_with fail
  go_quiet (fail)
  go_wp2_with (first
   | (go_at_call 338;refine (aa A1 _).mono ?_;clear A1;rintro e w1 ⟨rfl,rfl⟩))
  go_ret2
  exact ⟨rfl,PL.of' (PS.AR (PS.below (w':=w.drewN nq) HH ⟨rfl,rfl,rfl,Nat.le_refl _,fun _ _=>rfl⟩) (p+2) _ (by omega) hp2) HE⟩
 ·have hse:encS (jN (ai s p))=⟨#[48,57,65,90,95,95,97,122]⟩:=by rw [jN,if_neg (by omega)];exact Jc
  rw [hse]
  have A1:=hide (fun w1=>wG (v:=false) (s.extract p s.size) ⟨#[92,100]⟩ w1 (by show Lib.hasPrefix _ [92,100]=_;rw [nG s p hle 100 (by decide)];simp [hc1,hc2]))
  have A2:=hide (fun w1=>wG (v:=true) (s.extract p s.size) ⟨#[92,119]⟩ w1 (by show Lib.hasPrefix _ [92,119]=_;rw [nG s p hle 119 (by decide)];simp;exact ⟨hc1,hc2⟩))
  clear hc2 hc1 hc h1 h he2 hse
  go_enter Tryz.func329,Tryz.ntmps329
  go_wp2_with fail
  go_quiet (fail)
  go_wp2_with (first
   | (go_at_call 338;refine (aa A1 _).mono ?_;clear A1;rintro e w1 ⟨rfl,rfl⟩)
   | (go_at_call 338;have A3:=A2;clear A2;refine (aa A3 _).mono ?_;rintro e w1 ⟨rfl,rfl⟩))
  go_ret2
  exact ⟨rfl,PL.of' (PS.AR (PS.below (w':=w.drewN nq) HH ⟨rfl,rfl,rfl,Nat.le_refl _,fun _ _=>rfl⟩) (p+2) _ (by omega) hp2) HE⟩
theorem BH (h:Hid (PL w0 w b s d l)) {c:Int} (hc:Hid (hd l=c)) {v:Bool} (hv:Hid ((q9 c||decide (c=110))=v)) :
  Calls Tryz.prog 305 #[.string ⟨#[124,38,126,42,43,63,123,125,91,93,40,41,46,92,94,45,110]⟩,.int .i32 c] w fun x w'=>x=.returned (.bool v)/\Hid (PL w0 w' b s d l):=by
 have hs:=PL.UB h
 rw [aa hc] at hs
 have:=kY Mj c w (uK _ (by decide)) (by decide) (by decide) hs
 rw [Yq,aa hv] at this
 refine Calls.mono this ?_
 rintro x w' ⟨rfl,hb⟩
 exact ⟨rfl,PL.below h hb⟩
theorem EC (h:Hid (PL w0 w b s d l)) {c:Int} (hc:Hid (hd l=c)) {v:Bool} (hv:Hid (mZ c=v)) :
  Calls Tryz.prog 305 #[.string ⟨#[124,38,126,42,43,63,123,125,91,93,40,41,46,92]⟩,.int .i32 c] w fun x w'=>x=.returned (.bool v)/\Hid (PL w0 w' b s d l):=by
 have hs:=PL.UB h
 rw [aa hc] at hs
 have:=kY FW c w (uK _ (by decide)) (by decide) (by decide) hs
 rw [Ua,aa hv] at this
 refine Calls.mono this ?_
 rintro x w' ⟨rfl,hb⟩
 exact ⟨rfl,PL.below h hb⟩
theorem BI (h:Hid (PL w0 w b s d l)) {c:Int} (hc:Hid (hd l=c)) {v:Bool} (hv:Hid (mE c=v)) :
  Calls Tryz.prog 305 #[.string ⟨#[42,43,63,123]⟩,.int .i32 c] w fun x w'=>x=.returned (.bool v)/\Hid (PL w0 w' b s d l):=by
 have hs:=PL.UB h
 rw [aa hc] at hs
 have:=kY Mi c w (uK _ (by decide)) (by decide) (by decide) hs
 rw [Yp,aa hv] at this
 refine Calls.mono this ?_
 rintro x w' ⟨rfl,hb⟩
 exact ⟨rfl,PL.below h hb⟩
set_option maxRecDepth 100000 in
set_option maxHeartbeats 4000000 in
theorem zY (h:Hid (PL w0 w b s d l)) (hc:Hid (hd l=92)) :
  Calls Tryz.prog 339 #[.pointer (some ⟨b,0,none⟩)] w (BD (fC s.size l.tail) Oy w0 b s d):=by
 obtain ⟨R,hR⟩:∃ R,fC s.size l.tail=R:=⟨_,rfl⟩
 rw [hR]
 by_cases hu:hd l.tail=117
 ·rw [fC,if_pos hu] at hR
  have HU1:=hide hu
  have HR:=hide hR
  clear hu hR
  cases R with
  | error y=>
   go_enter Tryz.func339,Tryz.ntmps339
   go_wp2_with (first
    | (go_at_call 148;refine (dG h 92 hc).mono ?_;clear h;rintro x w1 ⟨rfl,HS⟩)
    | (go_at_call 219;refine (dz HS 117 HU1).mono ?_;clear HS;rintro x w2 ⟨rfl,HS⟩)
    | (go_at_call 344;refine (gY (EA HS) HR).mono ?_;rintro x w3 ⟨rfl,HU⟩))
   exact ⟨rfl,rfl,HU⟩
  | ok y=>
   obtain ⟨z,l1⟩:=y
   go_enter Tryz.func339,Tryz.ntmps339
   go_wp2_with (first
    | (go_at_call 148;refine (dG h 92 hc).mono ?_;clear h;rintro x w1 ⟨rfl,HS⟩)
    | (go_at_call 219;refine (dz HS 117 HU1).mono ?_;clear HS;rintro x w2 ⟨rfl,HS⟩)
    | (go_at_call 344;refine (dJ (EA HS) HR).mono ?_;clear HS;rintro x w3 ⟨rfl,HS⟩))
   go_ret
   exact ⟨rfl,HS⟩
 ·have HU1:=hide hu
  rw [fC,if_neg hu] at hR
  obtain ⟨c,hcc⟩:∃ c,hd l.tail=c:=⟨_,rfl⟩
  have gK:=hide hcc
  rw [hcc] at hR
  clear hu hcc
  by_cases hn:c=110
  ·rw [if_pos hn] at hR
   have HX:=hide hR.symm
   have HV:Hid ((q9 c||decide (c=110))=true):=by show _=_;simp [hn]
   subst hn
   clear hR
   go_enter Tryz.func339,Tryz.ntmps339
   go_wp2_with (first
    | (go_at_call 148;refine (dG h 92 hc).mono ?_;clear h;rintro x w1 ⟨rfl,HS⟩)
    | (go_at_call 219;refine (bZ HS 117 HU1).mono ?_;clear HS;rintro x w2 ⟨rfl,HS⟩)
    | (go_at_call 251;refine (dX HS gK).mono ?_;clear HS;rintro x w3 ⟨rfl,HS⟩)
    | (go_at_call 305;refine (BH HS gK HV).mono ?_;clear HS;rintro x w4 ⟨rfl,HS⟩)
    | (go_at_call 252;refine (Ex HS).mono ?_;clear HS;rintro x w5 ⟨rfl,HS⟩))
   go_ret
   rw [aa HX]
   exact ⟨rfl,HS⟩
  ·rw [if_neg hn] at hR
   have hn1:(c==110)=false:=by simpa using hn
   cases he:q9 c
   ·rw [if_neg (by rw [he];decide)] at hR
    have HX:Hid (R=.error (2,AL s.size l.tail)):=hR.symm
    have HV:Hid ((q9 c||decide (c=110))=false):=by show _=_;simp [hn,he]
    clear hR hn he hn1
    go_enter Tryz.func339,Tryz.ntmps339
    go_wp2_with (first
     | (go_at_call 148;refine (dG h 92 hc).mono ?_;clear h;rintro x w1 ⟨rfl,HS⟩)
     | (go_at_call 219;refine (bZ HS 117 HU1).mono ?_;clear HS;rintro x w2 ⟨rfl,HS⟩)
     | (go_at_call 251;refine (dX HS gK).mono ?_;clear HS;rintro x w3 ⟨rfl,HS⟩)
     | (go_at_call 305;refine (BH HS gK HV).mono ?_;clear HS;rintro x w4 ⟨rfl,HS⟩)
     | (go_at_call 220;refine (jI HS 2).mono ?_;rintro x w5 ⟨rfl,HU⟩))
    rw [aa HX]
    exact ⟨rfl,rfl,HU⟩
   ·rw [if_pos he] at hR
    have HX:=hide hR.symm
    have HV:Hid ((q9 c||decide (c=110))=true):=by show _=_;simp [he]
    clear hR hn he
    go_enter Tryz.func339,Tryz.ntmps339
    go_wp2_with (first
     | (go_at_call 148;refine (dG h 92 hc).mono ?_;clear h;rintro x w1 ⟨rfl,HS⟩)
     | (go_at_call 219;refine (bZ HS 117 HU1).mono ?_;clear HS;rintro x w2 ⟨rfl,HS⟩)
     | (go_at_call 251;refine (dX HS gK).mono ?_;clear HS;rintro x w3 ⟨rfl,HS⟩)
     | (go_at_call 305;refine (BH HS gK HV).mono ?_;clear HS;rintro x w4 ⟨rfl,HS⟩)
     | (go_at_call 252;refine (Ex HS).mono ?_;clear HS;rintro x w5 ⟨rfl,HS⟩))
    go_ret
    rw [aa HX]
    exact ⟨rfl,HS⟩
def mM (n:Nat) (l:List Sy):bn Int:=if hd l=92 then fC n l.tail else if hd l<0\/mZ (hd l)=true then bad 2 n l else .ok (hd l,l.tail)
set_option maxRecDepth 100000 in
set_option maxHeartbeats 4000000 in
theorem OU (h:Hid (PL w0 w b s d l)) :
  Calls Tryz.prog 330 #[.pointer (some ⟨b,0,none⟩)] w (BD (mM s.size l) Oy w0 b s d):=by
 obtain ⟨R,hR⟩:∃ R,mM s.size l=R:=⟨_,rfl⟩
 rw [hR]
 have hge:=hd_ge' l
 by_cases zG:hd l=92
 ·rw [mM,if_pos zG] at hR
  have gK:=hide zG
  have HR:=hide hR
  clear hR zG hge
  cases R with
  | error y=>
   go_enter Tryz.func330,Tryz.ntmps330
   go_wp2_with (first
    | (go_at_call 251;refine (dX h gK).mono ?_;clear h;rintro x w1 ⟨rfl,HS⟩)
    | (go_at_call 339;refine (gY (zY HS gK) HR).mono ?_;rintro x w2 ⟨rfl,HU⟩))
   exact ⟨rfl,rfl,HU⟩
  | ok y=>
   obtain ⟨z,l1⟩:=y
   go_enter Tryz.func330,Tryz.ntmps330
   go_wp2_with (first
    | (go_at_call 251;refine (dX h gK).mono ?_;clear h;rintro x w1 ⟨rfl,HS⟩)
    | (go_at_call 339;refine (dJ (zY HS gK) HR).mono ?_;clear HS;rintro x w2 ⟨rfl,HS⟩))
   go_ret
   exact ⟨rfl,HS⟩
 ·rw [mM,if_neg zG] at hR
  obtain ⟨c,hcc⟩:∃ c,hd l=c:=⟨_,rfl⟩
  have gK:=hide hcc
  rw [hcc] at hR zG hge
  have k1:(c==92)=false:=by simpa using zG
  clear hcc zG
  by_cases hn:c<0
  ·obtain rfl:c=-1:=by omega
   rw [if_pos (.inl (by omega))] at hR
   subst hR
   clear hn hge k1
   go_enter Tryz.func330,Tryz.ntmps330
   go_wp2_with (first
    | (go_at_call 251;refine (dX h gK).mono ?_;clear h;rintro x w3 ⟨rfl,HS⟩)
    | (go_at_call 220;refine (jI HS 2).mono ?_;rintro x w5 ⟨rfl,HU⟩))
   exact ⟨rfl,rfl,HU⟩
  ·have hn1:(c==-1)=false:=by simp;omega
   cases hm:mZ c
   ·rw [if_neg (by simp [hm];omega)] at hR
    have HX:=hide hR.symm
    have HV:=hide hm
    clear hm hn hge hR
    go_enter Tryz.func330,Tryz.ntmps330
    go_wp2_with (first
     | (go_at_call 251;refine (dX h gK).mono ?_;clear h;rintro x w3 ⟨rfl,HS⟩)
     | (go_at_call 305;refine (EC HS gK HV).mono ?_;clear HS;rintro x w4 ⟨rfl,HS⟩)
     | (go_at_call 252;refine (Ex HS).mono ?_;clear HS;rintro x w5 ⟨rfl,HS⟩))
    go_ret
    rw [aa HX]
    exact ⟨rfl,HS⟩
   ·rw [if_pos (.inr hm)] at hR
    have HX:Hid (R=.error (2,AL s.size l)):=hR.symm
    have HV:=hide hm
    clear hm hn hge hR
    go_enter Tryz.func330,Tryz.ntmps330
    go_wp2_with (first
     | (go_at_call 251;refine (dX h gK).mono ?_;clear h;rintro x w3 ⟨rfl,HS⟩)
     | (go_at_call 305;refine (EC HS gK HV).mono ?_;clear HS;rintro x w4 ⟨rfl,HS⟩)
     | (go_at_call 220;refine (jI HS 2).mono ?_;rintro x w5 ⟨rfl,HU⟩))
    rw [aa HX]
    exact ⟨rfl,rfl,HU⟩
set_option maxRecDepth 100000 in
set_option maxHeartbeats 4000000 in
theorem rQ (h:Hid (PL w0 w b s d l)) :
  Calls Tryz.prog 342 #[.pointer (some ⟨b,0,none⟩)] w (BD (eZ s.size l) Oy w0 b s d):=by
 obtain ⟨R,hR⟩:∃ R,eZ s.size l=R:=⟨_,rfl⟩
 rw [hR]
 have hge:=hd_ge' l
 by_cases zG:hd l=92
 ·rw [eZ,if_pos zG] at hR
  have gK:=hide zG
  have HR:=hide hR
  clear hR zG hge
  cases R with
  | error y=>
   go_enter Tryz.func342,Tryz.ntmps342
   go_wp2_with (first
    | (go_at_call 251;refine (dX h gK).mono ?_;clear h;rintro x w1 ⟨rfl,HS⟩)
    | (go_at_call 339;refine (gY (zY HS gK) HR).mono ?_;rintro x w2 ⟨rfl,HU⟩))
   exact ⟨rfl,rfl,HU⟩
  | ok y=>
   obtain ⟨z,l1⟩:=y
   go_enter Tryz.func342,Tryz.ntmps342
   go_wp2_with (first
    | (go_at_call 251;refine (dX h gK).mono ?_;clear h;rintro x w1 ⟨rfl,HS⟩)
    | (go_at_call 339;refine (dJ (zY HS gK) HR).mono ?_;clear HS;rintro x w2 ⟨rfl,HS⟩))
   go_ret
   exact ⟨rfl,HS⟩
 ·rw [eZ,if_neg zG] at hR
  by_cases hb:hd l<0\/hd l=93\/hd l=45
  ·rw [if_pos hb] at hR
   subst hR
   have hb2:hd l=-1\/hd l=93\/hd l=45:=by omega
   clear hb zG hge
   rcases hb2 with hb | hb | hb
   all_goals
    have gK:=hide hb
    clear hb
    go_enter Tryz.func342,Tryz.ntmps342
    go_wp2_with (first
     | (go_at_call 251;refine (dX h gK).mono ?_;clear h;rintro x w1 ⟨rfl,HS⟩)
     | (go_at_call 220;refine (jI HS 2).mono ?_;rintro x w2 ⟨rfl,HU⟩))
    exact ⟨rfl,rfl,HU⟩
  ·rw [if_neg hb] at hR
   obtain ⟨c,hcc⟩:∃ c,hd l=c:=⟨_,rfl⟩
   have gK:=hide hcc
   rw [hcc] at hR zG hb
   have k1:(c==92)=false:=by simpa using zG
   have k2:(c==93)=false:=by simp;omega
   have k3:(c==45)=false:=by simp;omega
   have k4:(c==-1)=false:=by simp;omega
   subst hR
   clear hcc zG hb hge
   go_enter Tryz.func342,Tryz.ntmps342
   go_wp2_with (first
    | (go_at_call 251;refine (dX h gK).mono ?_;clear h;rintro x w1 ⟨rfl,HS⟩)
    | (go_at_call 252;refine (Ex HS).mono ?_;clear HS;rintro x w2 ⟨rfl,HS⟩))
   go_ret
   exact ⟨rfl,HS⟩
end
section
variable {w0 w:World} {b:Nat} {s:ByteArray} {d:Int} {l:List Sy}
def abk (R:bn af) (w0:World) (b:Nat) (s:ByteArray) (d:Int) (x:Ending) (w':World):Prop:=
 match R with
 | .ok y=>∃ v,x=.returned v/\Hid (w'.ownsRow (b+1) 248 2 v y.1.length (aJ y.1))/\Hid (PL w0 w' b s d y.2)
 | .error y=>x=vF y.1 y.2/\Hid (Up b w0 w')
theorem UH {R:bn af} {f:Nat} {args:Array Value} (H:Calls Tryz.prog f args w (abk R w0 b s d)) {y:Int×Int} (hR:Hid (R=.error y)) :
  Calls Tryz.prog f args w fun x w'=>x=vF y.1 y.2/\Hid (Up b w0 w'):=by
 rw [aa hR] at H;exact H
theorem YH {R:bn af} {f:Nat} {args:Array Value} (H:Calls Tryz.prog f args w (abk R w0 b s d)) {z:af} {l1:List Sy} (hR:Hid (R=.ok (z,l1))) :
  Calls Tryz.prog f args w fun x w'=>∃ v,x=.returned v/\Hid (w'.ownsRow (b+1) 248 2 v z.length (aJ z))/\Hid (PL w0 w' b s d l1):=by
 rw [aa hR] at H;exact H
theorem row_one {w':World} {b:Nat} (h:b<w'.heap.size) (lo hi:Int):Hid ((w'.alloc (.cells #[.int .i32 lo,.int .i32 hi] 248)).ownsRow (b+1) 248 2 (.slice (some ⟨w'.heap.size,0,none⟩) 1 1) 1 (aJ [(lo,hi)])):=
 World.ownsRow_lit w' #[.int .i32 lo,.int .i32 hi] 1 h (by decide) rfl
theorem PL.alloc (h:Hid (PL w0 w b s d l)) (o:Obj):Hid (PL w0 (w.alloc o) b s d l):=PL.below h ((Below.refl _ w).alloc (Nat.le_refl _) o)
set_option maxRecDepth 100000 in
set_option maxHeartbeats 4000000 in
theorem aaC (h:Hid (PL w0 w b s d l)) :
  Calls Tryz.prog 337 #[.pointer (some ⟨b,0,none⟩)] w (abk (kJ s.size l) w0 b s d):=by
 obtain ⟨R,hR⟩:∃ R,kJ s.size l=R:=⟨_,rfl⟩
 rw [hR]
 rw [kJ] at hR
 cases hs:isSet l
 ·rw [if_neg (by rw [hs];decide)] at hR
  have HN:=hide hs
  clear hs
  cases h1:eZ s.size l with
  | error y=>
   rw [h1] at hR
   have HX:Hid (R=.error y):=hR.symm
   have H1:=hide h1
   clear h1 hR
   go_enter Tryz.func337,Tryz.ntmps337
   go_wp2_with (first
    | (go_at_call 329;refine (iR h HN).mono ?_;clear h;rintro x w1 ⟨rfl,HS⟩)
    | (go_at_call 342;refine (gY (rQ HS) H1).mono ?_;rintro x w2 ⟨rfl,HU⟩))
   rw [aa HX]
   exact ⟨rfl,rfl,HU⟩
  | ok y=>
   obtain ⟨a,l1⟩:=y
   rw [h1] at hR
   dsimp only at hR
   have H1:=hide h1
   clear h1
   by_cases ED:hd l1=45
   ·rw [if_pos ED] at hR
    have HD:=hide ED
    clear ED
    cases h2:eZ s.size l1.tail with
    | error y=>
     rw [h2] at hR
     have HX:Hid (R=.error y):=hR.symm
     have H2:=hide h2
     clear h2 hR
     go_enter Tryz.func337,Tryz.ntmps337
     go_wp2_with (first
      | (go_at_call 329;refine (iR h HN).mono ?_;clear h;rintro x w1 ⟨rfl,HS⟩)
      | (go_at_call 342;have H3:=H1;clear H1;refine (dJ (rQ HS) H3).mono ?_;clear HS;rintro x w2 ⟨rfl,HS⟩)
      | (go_at_call 219;refine (dz HS 45 HD).mono ?_;clear HS;rintro x w2 ⟨rfl,HS⟩)
      | (go_at_call 342;refine (gY (rQ HS) H2).mono ?_;rintro x w2 ⟨rfl,HU⟩))
     rw [aa HX]
     exact ⟨rfl,rfl,HU⟩
    | ok y=>
     obtain ⟨z,l2⟩:=y
     rw [h2] at hR
     dsimp only at hR
     have H2:=hide h2
     clear h2
     by_cases hza:z<a
     ·rw [if_pos hza] at hR
      have HX:Hid (R=.error (3,AL s.size l2)):=hR.symm
      clear hR
      go_enter Tryz.func337,Tryz.ntmps337
      go_wp2_with (first
       | (go_at_call 329;refine (iR h HN).mono ?_;clear h;rintro x w1 ⟨rfl,HS⟩)
       | (go_at_call 342;have H3:=H1;clear H1;refine (dJ (rQ HS) H3).mono ?_;clear HS;rintro x w2 ⟨rfl,HS⟩)
       | (go_at_call 219;refine (dz HS 45 HD).mono ?_;clear HS;rintro x w2 ⟨rfl,HS⟩)
       | (go_at_call 342;refine (dJ (rQ HS) H2).mono ?_;clear HS;rintro x w2 ⟨rfl,HS⟩)
       | (go_at_call 220;refine (jI HS 3).mono ?_;rintro x w2 ⟨rfl,HU⟩))
      rw [aa HX]
      exact ⟨rfl,rfl,HU⟩
     ·rw [if_neg hza] at hR
      have HX:=hide hR.symm
      clear hR
      go_enter Tryz.func337,Tryz.ntmps337
      go_wp2_with (first
       | (go_at_call 329;refine (iR h HN).mono ?_;clear h;rintro x w1 ⟨rfl,HS⟩)
       | (go_at_call 342;have H3:=H1;clear H1;refine (dJ (rQ HS) H3).mono ?_;clear HS;rintro x w2 ⟨rfl,HS⟩)
       | (go_at_call 219;refine (dz HS 45 HD).mono ?_;clear HS;rintro x w2 ⟨rfl,HS⟩)
       | (go_at_call 342;refine (dJ (rQ HS) H2).mono ?_;clear HS;rintro x w2 ⟨rfl,HS⟩))
      go_ret
      rw [aa HX]
      exact ⟨_,rfl,row_one (PL.lt HS) _ _,PL.alloc HS _⟩
   ·rw [if_neg ED] at hR
    have HX:=hide hR.symm
    have HD:=hide ED
    clear ED hR
    go_enter Tryz.func337,Tryz.ntmps337
    go_wp2_with (first
     | (go_at_call 329;refine (iR h HN).mono ?_;clear h;rintro x w1 ⟨rfl,HS⟩)
     | (go_at_call 342;have H3:=H1;clear H1;refine (dJ (rQ HS) H3).mono ?_;clear HS;rintro x w2 ⟨rfl,HS⟩)
     | (go_at_call 219;refine (bZ HS 45 HD).mono ?_;clear HS;rintro x w2 ⟨rfl,HS⟩))
    go_ret
    rw [aa HX]
    exact ⟨_,rfl,row_one (PL.lt HS) _ _,PL.alloc HS _⟩
 ·rw [if_pos hs] at hR
  have HX:=hide hR.symm
  have HN:=hide hs
  clear hs hR
  have HPA:=hide (fun w1=>jM w1 (jN l) (by unfold jN;split<;>decide) (bA (wB l)))
  go_enter Tryz.func337,Tryz.ntmps337
  go_wp2_with (first
   | (go_at_call 329;refine (wH h HN).mono ?_;clear h;rintro x w1 ⟨rfl,HS⟩)
   | (go_at_call 161;refine (aa HPA _).mono ?_;clear HPA;rintro x w2 ⟨v,rfl,hrow,hbw⟩;have hlt:=PL.lt HS;have HRW:=hide (hrow.mono hlt);have HS2:=PL.below HS hbw;clear hrow hbw HS))
  go_ret
  rw [aa HX]
  exact ⟨_,rfl,HRW,HS2⟩
end
end Go.Proofs.YtfolanohokflkaaGreatDoor
