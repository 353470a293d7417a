import Derived.Test.YtfolanohokflkaaGreatDoorProC
import Derived.Test.YtfolanohokflkaaGreatDoorSvF
import Derived.Test.YtfolanohokflkaaGreatDoorPSpec
import Derived.WalkKit
import Derived.WalkSpells
import Derived.WalkLawsBesides
import Derived.WalkMore
import Derived.Laws.OwnMore
import Derived.Deep.Onto
namespace Go.Proofs.YtfolanohokflkaaGreatDoor
open Go.RowKit
def PL (w0 w:World) (b:Nat) (s:ByteArray) (d:Int) (l:List Sy):Prop:=∃ p,PS w0 w b s p d/\ah s p=l
section
variable {w0 w:World} {b:Nat} {s:ByteArray} {p:Nat} {d:Int} {l:List Sy}
theorem PL.of (h:Hid (PS w0 w b s p d)):Hid (PL w0 w b s d (ah s p)):=⟨p,h,rfl⟩
theorem PL.base (h:Hid (PL w0 w b s d l)):Hid (PL w w b s d l):=by
 obtain ⟨p,h1,e⟩:=aa h
 exact ⟨p,⟨h1.c0,h1.c1,h1.c2,h1.fz,h1.tabs,h1.b2,Up.refl _ _,h1.le,h1.small⟩,e⟩
theorem PL.up (h:Hid (PL w0 w b s d l)):Up b w0 w:=by
 obtain ⟨p,h1,e⟩:=aa h
 exact h1.up
theorem PL.join {w':World} (h:Up b w0 w) (k:Hid (PL w w' b s d l)):Hid (PL w0 w' b s d l):=by
 obtain ⟨p,h1,e⟩:=aa k
 exact ⟨p,⟨h1.c0,h1.c1,h1.c2,h1.fz,h1.tabs,h1.b2,h.trans h1.up,h1.le,h1.small⟩,e⟩
theorem PL.below {w':World} (h:Hid (PL w0 w b s d l)) (hb:Below w.heap.size w w'):Hid (PL w0 w' b s d l):=by
 obtain ⟨p,h1,e⟩:=aa h
 exact ⟨p,aa (PS.below (hide h1) hb),e⟩
theorem PL.lt (h:Hid (PL w0 w b s d l)):b<w.heap.size:=by
 obtain ⟨p,h1,e⟩:=aa h
 exact h1.lt
theorem PL.len (h:Hid (PL w0 w b s d l)):l.length<=60:=by
 obtain ⟨p,h1,rfl⟩:=aa h
 have:=pX s p
 have:=h1.small
 omega
theorem PL.Uc (h:Hid (PL w0 w b s d l)):N7 (hd l):=by
 obtain ⟨p,h1,rfl⟩:=aa h
 exact Ir s p h1.le
theorem PL.Ud (h:Hid (PL w0 w b s d l)):bq l:=by
 obtain ⟨p,h1,rfl⟩:=aa h
 exact kJ s p
theorem PL.set (h:Hid (PL w0 w b s d l)) {rb:Nat} (h0:w0.heap.size<=rb) (hb:b<rb) (j:Nat) (u:Value):Hid (PL w0 (w.setCell ⟨rb,j,none⟩ u) b s d l):=by
 obtain ⟨p,g,e⟩:=aa h
 have hbl:∀ k,k≠rb->(w.setCell ⟨rb,j,none⟩ u).heap[k]? = w.heap[k]? := fun k hk=>Below.heap_setCell w ⟨rb,j,none⟩ u k hk
 have hc:∀ i v,w.cell? ⟨b,i,none⟩=some v->(w.setCell ⟨rb,j,none⟩ u).cell? ⟨b,i,none⟩=some v:=fun i v q=>by
  rw [World.cell?_of_block (hbl b (by omega))];exact q
 have hb2:=g.b2
 refine ⟨p,⟨hc _ _ g.c0,hc _ _ g.c1,hc _ _ g.c2,fun k=>by rw [World.frozen?_setCell];exact g.fz k,iE g.tabs (hbl _ (by omega)) (hbl _ (by omega)),g.b2,?_,g.le,g.small⟩,e⟩
 exact ⟨g.up.os,g.up.tape,g.up.output,by have:=g.up.size;simp [World.setCell];exact this,fun k hk hkb=>(hbl k (by omega)).trans (g.up.block k hk hkb)⟩
end
theorem X9 {w w':World} {b k j:Nat} {v:Value} (h:Up b w w') (hk:k≠b) (hc:w.cell? ⟨k,j,none⟩=some v):w'.cell? ⟨k,j,none⟩=some v:=by
 rw [World.cell?_of_block (h.block k (World.block_lt_of_cell? w _ hc) hk)];exact hc
theorem QV {w w':World} {b k j:Nat} (h:Up b w w') (hk:k≠b) (hlt:k<w.heap.size) (hc:w.frozen? ⟨k,j,none⟩=false):w'.frozen? ⟨k,j,none⟩=false:=by
 rw [World.frozen?_of_block (h.block k hlt hk)];exact hc
theorem Ue {w w':World} {b base e size n:Nat} {v:Value} {xs:List Value} (h:w.ownsRow base e size v n xs) (hu:Up b w w') (hb:v.ownBlock≠some b):w'.ownsRow base e size v n xs:=by
 obtain ⟨hl,hx | ⟨g,cap,cur,hv,hb',hg,rest⟩⟩:=h
 ·exact ⟨hl,.inl hx⟩
 ·have hlt:g<w.heap.size:=(Array.getElem?_eq_some_iff.1 hg).1
  exact ⟨hl,.inr ⟨g,cap,cur,hv,hb',by rw [hu.block g hlt (fun e=>hb (by rw [hv,e];rfl))];exact hg,rest⟩⟩
structure Nd where
 sh:Int
 pa:Option Addr
 pn:Nat
 pc:Nat
 ss:ByteArray
 le:Int
 mo:Int
 fa:Int
 sz:Int
@[reducible] def Nd.pv (n:Nd):Value:=.slice n.pa n.pn n.pc
def gD (n:Nd):Value:=.agg #[.int .i64 n.sh,.slice n.pa n.pn n.pc,.string n.ss,.int .i64 n.le,.int .i64 n.mo,.int .i64 n.fa,.int .i64 n.sz]
def Lu (n:Nd):List Value:=[.int .i64 n.sh,.slice n.pa n.pn n.pc,.string n.ss,.int .i64 n.le,.int .i64 n.mo,.int .i64 n.fa,.int .i64 n.sz]
theorem aaH:(Tryz.prog.info? 65).map (fun i=>(i.zero,i.size,i.bytes))=some (some (gD ⟨0,none,0,0,⟨#[]⟩,0,0,0,0⟩),7,80):=by kernel_rfl
def dG:List Nd->List Value
 | []=>[]
 | n::r=>Lu n++dG r
theorem Bp (a c:List Nd):dG (a++c)=dG a++dG c:=by
 induction a with
 | nil=>rfl
 | cons x a ih=>simp [dG,ih]
def jv (w:World) (F:Nat->Prop) (pv:Value) (aN:List Nd):Prop:=w.ownsRow 0 65 7 pv aN.length (dG aN)/\∀ k,pv.ownBlock=some k->F k
theorem Bq {w w':World} {base e size n:Nat} {v:Value} {xs:List Value} (h:w.ownsRow base e size v n xs) (hk:∀ k,v.ownBlock=some k->k<w.heap.size->w'.heap[k]? = w.heap[k]?):w'.ownsRow base e size v n xs:=by
 obtain ⟨hl,hx | ⟨g,cap,cur,hv,hb',hg,rest⟩⟩:=h
 ·exact ⟨hl,.inl hx⟩
 ·have hlt:g<w.heap.size:=(Array.getElem?_eq_some_iff.1 hg).1
  exact ⟨hl,.inr ⟨g,cap,cur,hv,hb',by rw [hk g (by rw [hv];rfl) hlt];exact hg,rest⟩⟩
theorem jv.move {w w':World} {F G:Nat->Prop} {pv:Value} {aN:List Nd} (h:jv w F pv aN) (hm:∀ k,F k->k<w.heap.size->w'.heap[k]? = w.heap[k]? /\ G k):jv w' G pv aN:=
 ⟨Bq h.1 fun k hk hl=>(hm k (h.2 k hk) hl).1,fun k hk=>(hm k (h.2 k hk) (h.1.lt k hk).2).2⟩
def gH:Option Nat->Int
 | none=>-1
 | some m=>m
inductive iF (w:World) (F:Nat->Prop):Nd->Pt->Prop where
 | set {n:Nd} {l:af}:n.sh=0->n.ss=encS l->n.pn=0->iF w F n (.set l)
 | bf {n:Nd} {k:Bool} {aN:List Nd} {ts:List Pt}:n.sh=(if k=true then 2 else 1)->jv w F n.pv aN->aN.length=ts.length->(∀ (i:Nat) (h:i<aN.length) (h':i<ts.length),iF w F aN[i] ts[i])->iF w F n (.bf k ts)
 | row {n:Nd} {aN:List Nd} {ts:List Pt}:n.sh=3->jv w F n.pv aN->aN.length=ts.length->(∀ (i:Nat) (h:i<aN.length) (h':i<ts.length),iF w F aN[i] ts[i])->iF w F n (.row ts)
 | not {n m:Nd} {t:Pt}:n.sh=4->jv w F n.pv [m]->iF w F m t->iF w F n (.not t)
 | rep {n m:Nd} {t:Pt} {least:Nat} {most:Option Nat}:n.sh=5->jv w F n.pv [m]->iF w F m t->n.le=least->n.mo=gH most->iF w F n (.rep t least most)
 | one {n m:Nd} {t:Pt}:(n.sh=1\/n.sh=2\/n.sh=3)->jv w F n.pv [m]->iF w F m t->iF w F n t
theorem iF.move {w w':World} {F G:Nat->Prop} (hm:∀ k,F k->k<w.heap.size->w'.heap[k]? = w.heap[k]? /\ G k) {n:Nd} {t:Pt} (h:iF w F n t):iF w' G n t:=by
 induction h with
 | set h1 h2 h3=>exact .set h1 h2 h3
 | bf h1 h2 h3 _ ih=>exact .bf h1 (h2.move hm) h3 ih
 | row h1 h2 h3 _ ih=>exact .row h1 (h2.move hm) h3 ih
 | not h1 h2 _ ih=>exact .not h1 (h2.move hm) ih
 | rep h1 h2 _ h3 h4 ih=>exact .rep h1 (h2.move hm) ih h3 h4
 | one h1 h2 _ ih=>exact .one h1 (h2.move hm) ih
def aY (w:World) (F:Nat->Prop) (n:Nd) (p:Pn):Prop:=n.sz=p.2/\iF w F n p.1
theorem aY.move {w w':World} {F G:Nat->Prop} {n:Nd} {p:Pn} (h:Hid (aY w F n p)) (hm:∀ k,F k->k<w.heap.size->w'.heap[k]? = w.heap[k]? /\ G k):Hid (aY w' G n p):=⟨(aa h).1,(aa h).2.move hm⟩
def vW (w:World) (F:Nat->Prop) (aN:List Nd) (ps:List Pn):Prop:=aN.length=ps.length/\∀ (i:Nat) (h:i<aN.length) (h':i<ps.length),aY w F aN[i] ps[i]
theorem vW.move {w w':World} {F G:Nat->Prop} {aN:List Nd} {ps:List Pn} (h:vW w F aN ps) (hm:∀ k,F k->k<w.heap.size->w'.heap[k]? = w.heap[k]? /\ G k):vW w' G aN ps:=⟨h.1,fun i a c=>aY.move (h.2 i a c) hm⟩
theorem vW.snoc {w:World} {F:Nat->Prop} {aN:List Nd} {ps:List Pn} {n:Nd} {p:Pn} (h:vW w F aN ps) (hn:aY w F n p):vW w F (aN++[n]) (ps++[p]):=by
 refine ⟨by simp [h.1],fun i a c=>?_⟩
 simp only [List.length_append,List.length_cons,List.length_nil] at a c
 by_cases hi:i<aN.length
 ·rw [List.getElem_append_left hi,List.getElem_append_left (by have:=h.1;omega)]
  exact h.2 i hi (by have:=h.1;omega)
 ·have e:i=aN.length:=by omega
  subst e
  simp [h.1]
  exact hn
def iw (o:jY):Value:=.agg #[.int .i64 o.1,.int .i64 (gH o.2.1),.int .i64 o.2.2]
def Br {a:Type} (R:bu a) (val:a->Value) (w0:World) (b:Nat) (s:ByteArray) (d:Int) (x:Ending) (w':World):Prop:=
 match R with
 | .ok y=>x=.returned (val y.1)/\Hid (PL w0 w' b s d y.2)
 | .error y=>x=zg y.1 y.2/\Hid (Up b w0 w')
def Gm (R:bu Pn) (w0:World) (b:Nat) (s:ByteArray) (d:Int) (x:Ending) (w':World):Prop:=
 match R with
 | .ok y=>∃ n,x=.returned (gD n)/\Hid (aY w' (fun k=>w0.heap.size<=k) n y.1)/\Hid (PL w0 w' b s d y.2)
 | .error y=>x=zg y.1 y.2/\Hid (Up b w0 w')
end Go.Proofs.YtfolanohokflkaaGreatDoor
namespace Go.Proofs.YtfolanohokflkaaGreatDoor
open Go.RowKit
section
variable {w0 w:World} {b:Nat} {s:ByteArray} {p:Nat} {d:Int} {l:List Sy}
theorem PL.of' (h:Hid (PS w0 w b s p d)) (e:Hid (ah s p=l)):Hid (PL w0 w b s d l):=⟨p,h,e⟩
theorem d_ (h:Hid (PL w0 w b s d l)) {c:Int} (hc:Hid (hd l=c)) :
  Calls Tryz.prog 251 #[.pointer (some ⟨b,0,none⟩)] w fun x w'=>x=.returned (.int .i32 c)/\Hid (PL w0 w' b s d l):=by
 obtain ⟨p,h1,rfl⟩:=aa h
 replace h:=hide h1
 refine (NY h).mono ?_
 rintro x w' ⟨rfl,h'⟩
 exact ⟨by rw [aa hc],PL.of h'⟩
theorem Ex (h:Hid (PL w0 w b s d l)) :
  Calls Tryz.prog 252 #[.pointer (some ⟨b,0,none⟩)] w fun x w'=>x=.returned (.tuple #[])/\Hid (PL w0 w' b s d l.tail):=by
 obtain ⟨p,h1,rfl⟩:=aa h
 replace h:=hide h1
 refine (Tu h).mono ?_
 rintro x w' ⟨rfl,p',h',e⟩
 exact ⟨rfl,PL.of' h' e⟩
theorem dz (h:Hid (PL w0 w b s d l)) (c:Int) (hc:Hid (hd l=c)) :
  Calls Tryz.prog 219 #[.pointer (some ⟨b,0,none⟩),.int .i32 c] w fun x w'=>x=.returned (.bool true)/\Hid (PL w0 w' b s d l.tail):=by
 obtain ⟨p,h1,rfl⟩:=aa h
 replace h:=hide h1
 refine (Ip h c hc).mono ?_
 rintro x w' ⟨rfl,p',h',e⟩
 exact ⟨rfl,PL.of' h' e⟩
theorem cu (h:Hid (PL w0 w b s d l)) (c:Int) (hc:Hid (¬ hd l=c)) :
  Calls Tryz.prog 219 #[.pointer (some ⟨b,0,none⟩),.int .i32 c] w fun x w'=>x=.returned (.bool false)/\Hid (PL w0 w' b s d l):=by
 obtain ⟨p,h1,rfl⟩:=aa h
 replace h:=hide h1
 refine (NZ h c hc).mono ?_
 rintro x w' ⟨rfl,h'⟩
 exact ⟨rfl,PL.of h'⟩
theorem jI (h:Hid (PL w0 w b s d l)) (e:Int) :
  Calls Tryz.prog 220 #[.pointer (some ⟨b,0,none⟩),.int .i64 e] w fun x w'=>x=zg e (Ao s.size l)/\Hid (Up b w0 w'):=by
 obtain ⟨p,h1,rfl⟩:=aa h
 replace h:=hide h1
 rw [oP (aa h).le]
 exact sJ h e
theorem dI (h:Hid (PL w0 w b s d l)) (c:Int) (hc:Hid (hd l=c)) :
  Calls Tryz.prog 148 #[.pointer (some ⟨b,0,none⟩),.int .i32 c] w fun x w'=>x=.returned (.tuple #[])/\Hid (PL w0 w' b s d l.tail):=by
 obtain ⟨p,h1,rfl⟩:=aa h
 replace h:=hide h1
 refine (Qz h c hc).mono ?_
 rintro x w' ⟨rfl,p',h',e⟩
 exact ⟨rfl,PL.of' h' e⟩
theorem rz (h:Hid (PL w0 w b s d l)) (c:Int) (hc:Hid (¬ hd l=c)) :
  Calls Tryz.prog 148 #[.pointer (some ⟨b,0,none⟩),.int .i32 c] w fun x w'=>x=zg 2 (Ao s.size l)/\Hid (Up b w0 w'):=by
 obtain ⟨p,h1,rfl⟩:=aa h
 replace h:=hide h1
 rw [oP (aa h).le]
 exact Tv h c hc
theorem hd_ge' (l:List Sy):-1<=hd l:=by cases l<;>simp [hd]<;>omega
theorem h_ {a:Type} {R:bu a} {val:a->Value} {f:Nat} {args:Array Value} (H:Calls Tryz.prog f args w (Br R val w0 b s d)) {y:Int×Int} (hR:Hid (R=.error y)) :
  Calls Tryz.prog f args w fun x w'=>x=zg y.1 y.2/\Hid (Up b w0 w'):=by
 rw [aa hR] at H;exact H
theorem dL {a:Type} {R:bu a} {val:a->Value} {f:Nat} {args:Array Value} (H:Calls Tryz.prog f args w (Br R val w0 b s d)) {z:a} {l1:List Sy} (hR:Hid (R=.ok (z,l1))) :
  Calls Tryz.prog f args w fun x w'=>x=.returned (val z)/\Hid (PL w0 w' b s d l1):=by
 rw [aa hR] at H;exact H
theorem kL {R:bu Pn} {f:Nat} {args:Array Value} (H:Calls Tryz.prog f args w (Gm R w0 b s d)) {y:Int×Int} (hR:Hid (R=.error y)) :
  Calls Tryz.prog f args w fun x w'=>x=zg y.1 y.2/\Hid (Up b w0 w'):=by
 rw [aa hR] at H;exact H
theorem kM {R:bu Pn} {f:Nat} {args:Array Value} (H:Calls Tryz.prog f args w (Gm R w0 b s d)) {z:Pn} {l1:List Sy} (hR:Hid (R=.ok (z,l1))) :
  Calls Tryz.prog f args w fun x w'=>∃ n,x=.returned (gD n)/\Hid (aY w' (fun k=>w0.heap.size<=k) n z)/\Hid (PL w0 w' b s d l1):=by
 rw [aa hR] at H;exact H
theorem lM (h:Hid (PL w0 w b s d l)) (a:Int):Calls Tryz.prog 335 #[.pointer (some ⟨b,0,none⟩),.int .i64 a] w (Br (bU s.size a l) ab0 w0 b s d):=by
 obtain ⟨p,h1,rfl⟩:=aa h
 refine (XU (hide h1) a).mono fun x w' h=>?_
 cases hR:bU s.size a (ah s p) with
 | error y=>rw [hR] at h;exact h
 | ok y=>rw [hR] at h;obtain ⟨h1,p',h2,h3⟩:=h;exact ⟨h1,p',h2,h3⟩
end
end Go.Proofs.YtfolanohokflkaaGreatDoor
namespace Go.Proofs.YtfolanohokflkaaGreatDoor
open Go.RowKit
theorem Jb {m:Int} (h:0<=m):j_ m=max m 1:=by unfold j_;split<;>omega
theorem numV_ge' (l:List Sy) (h:iJ (hd l)=true):0<=(kT l).1:=by
 simp only [iJ,decide_eq_true_eq] at h
 unfold kT
 split
 ·rename_i h2
  simp only [iJ,decide_eq_true_eq] at h2
  dsimp only;omega
 ·dsimp only;omega
theorem Ey {n:Nat} {least a:Int} {l l1:List Sy} (h:bU n least l=.ok (a,l1)):0<=a/\a<=12:=by
 unfold bU at h
 split at h
 ·rename_i hd
  split at h
  ·cases h
  ·rename_i h2
   have e:kT l=(a,l1):=by injection h
   have:=numV_ge' l hd
   rw [e] at h2 this
   dsimp only at h2 this
   omega
 ·cases h
def rA (w:World) (rb:Nat):Prop:=∀ j,j<3->(∃ u:Int,w.cell? ⟨rb,j,none⟩=some (.int .i64 u))/\w.frozen? ⟨rb,j,none⟩=false
theorem rA.of {W:World} {rb:Nat} {t:TypeId} (h:W.heap[rb]? = some (.cells #[.int .i64 0,.int .i64 0,.int .i64 0] t (0,0))):rA W rb:=by
 intro j hj
 refine ⟨⟨0,?_⟩,by simp [World.frozen?,h]⟩
 have:j=0\/j=1\/j=2:=by omega
 rcases this with rfl | rfl | rfl<;>simp [World.cell?,h]
theorem rA.new (w:World) (t:TypeId):rA (w.alloc (.cells #[.int .i64 0,.int .i64 0,.int .i64 0] t)) w.heap.size:=rA.of (heap_alloc_new w _)
theorem rA.up {w w':World} {rb b:Nat} (h:Hid (rA w rb)) (hu:Up b w w') (hb:rb≠b):rA w' rb:=by
 intro j hj
 obtain ⟨⟨u,hc⟩,hf⟩:=aa h j hj
 exact ⟨⟨u,X9 hu hb hc⟩,QV hu hb (World.block_lt_of_cell? w _ hc) hf⟩
theorem jQ {W:World} {rb:Nat} {v0 v1 v2:Value} (u0 u1 u2:Value) (c0:W.cell? ⟨rb,0,none⟩=some v0) (c1:W.cell? ⟨rb,1,none⟩=some v1) (c2:W.cell? ⟨rb,2,none⟩=some v2) :
  (((W.setCell ⟨rb,0,none⟩ u0).setCell ⟨rb,1,none⟩ u1).setCell ⟨rb,2,none⟩ u2).cell? ⟨rb,0,none⟩=some u0/\(((W.setCell ⟨rb,0,none⟩ u0).setCell ⟨rb,1,none⟩ u1).setCell ⟨rb,2,none⟩ u2).cell? ⟨rb,1,none⟩=some u1/\(((W.setCell ⟨rb,0,none⟩ u0).setCell ⟨rb,1,none⟩ u1).setCell ⟨rb,2,none⟩ u2).cell? ⟨rb,2,none⟩=some u2:=by
 have d0:(W.setCell ⟨rb,0,none⟩ u0).cell? ⟨rb,0,none⟩=some u0:=World.cell?_setCell_same _ _ _ c0
 have d1:(W.setCell ⟨rb,0,none⟩ u0).cell? ⟨rb,1,none⟩=some v1:=ik c1 (by decide)
 have d2:(W.setCell ⟨rb,0,none⟩ u0).cell? ⟨rb,2,none⟩=some v2:=ik c2 (by decide)
 have e0:=ik (k:=1) (u:=u1) d0 (by decide)
 have e1:((W.setCell ⟨rb,0,none⟩ u0).setCell ⟨rb,1,none⟩ u1).cell? ⟨rb,1,none⟩=some u1:=World.cell?_setCell_same _ _ _ d1
 have e2:=ik (k:=1) (u:=u1) d2 (by decide)
 exact ⟨ik e0 (by decide),ik e1 (by decide),World.cell?_setCell_same _ _ _ e2⟩
section
variable {w0 w:World} {b:Nat} {s:ByteArray} {d:Int} {l:List Sy}
theorem Bu (w:World) (o:Obj):Up b w (w.alloc o):=Up.below ((Below.refl _ w).alloc (Nat.le_refl _) o)
theorem jD {w':World} {o:Obj} (h:Hid (PL w0 w b s d l)) (hu:Hid (Up b (w.alloc o) w')):Hid (Up b w0 w'):=(PL.up h).trans ((Bu w o).trans (aa hu))
theorem jE (h:Hid (PL w0 w b s d l)) (o:Obj):Hid (PL (w.alloc o) (w.alloc o) b s d l):=PL.base (PL.below h ((Below.refl _ w).alloc (Nat.le_refl _) o))
theorem Jc {w':World} {o:Obj} {l':List Sy} (h:Hid (PL w0 w b s d l)) (h':Hid (PL (w.alloc o) w' b s d l')) (u0 u1 u2:Value) :
  Hid (PL w0 (((w'.setCell ⟨w.heap.size,0,none⟩ u0).setCell ⟨w.heap.size,1,none⟩ u1).setCell ⟨w.heap.size,2,none⟩ u2) b s d l'):=by
 have hlt:=PL.lt h
 have hsz:=(PL.up h).size
 have h1:=PL.join ((PL.up h).trans (Bu w o)) h'
 exact PL.set (PL.set (PL.set h1 hsz hlt 0 u0) hsz hlt 1 u1) hsz hlt 2 u2
set_option maxRecDepth 100000 in
set_option maxHeartbeats 8000000 in
theorem Oo (h:Hid (PL w0 w b s d l)) :
  Calls Tryz.prog 323 #[.pointer (some ⟨b,0,none⟩)] w (Br (jc s.size l) iw w0 b s d):=by
 have HR3:=hide (rA.new w 63)
 have dK:=jE h (.cells #[.int .i64 0,.int .i64 0,.int .i64 0] 63)
 have hne:w.heap.size≠b:=by have:=PL.lt h;omega
 have zM:Hid (∀ w',Hid (Up b (w.alloc (.cells #[.int .i64 0,.int .i64 0,.int .i64 0] 63)) w')->Hid (Up b w0 w')):=fun w' hu=>jD h hu
 have Bv:Hid (∀ w' l' u0 u1 u2,Hid (PL (w.alloc (.cells #[.int .i64 0,.int .i64 0,.int .i64 0] 63)) w' b s d l')->Hid (PL w0 (((w'.setCell ⟨w.heap.size,0,none⟩ u0).setCell ⟨w.heap.size,1,none⟩ u1).setCell ⟨w.heap.size,2,none⟩ u2) b s d l')):=fun w' l' u0 u1 u2 h'=>Jc h h' u0 u1 u2
 obtain ⟨R,hR⟩:∃ R,jc s.size l=R:=⟨_,rfl⟩
 rw [hR]
 cases hn:bU s.size 0 l with
 | error y=>
  have HX:Hid (R=.error y):=by show _=_;rw [<-hR,jc,hn]
  have nW:=hide hn
  clear hn hR h
  go_enter Tryz.func323,Tryz.ntmps323
  go_wp2_with (go_at_call 335;refine (h_ (lM dK 0) nW).mono ?_;rintro x w1 ⟨rfl,HU⟩)
  rw [aa HX]
  exact ⟨rfl,rfl,aa zM _ HU⟩
 | ok y=>
  obtain ⟨a,l1⟩:=y
  obtain ⟨ha0,ad7⟩:=Ey hn
  have hea:((a.toNat:Nat):Int)=a:=by omega
  have nW:=hide hn
  have hR2:R=if hd l1=44 then (if hd l1.tail=125 then .ok ((a.toNat,none,a+1),l1.tail.tail) else match bU s.size a l1.tail with | .error x=>.error x | .ok (m,l2)=>gT s.size (a.toNat,some m.toNat,j_ m) l2) else gT s.size (a.toNat,some a.toNat,j_ a) l1:=by
   rw [<-hR,jc,hn];rfl
  clear hn hR h
  by_cases hcm:hd l1=44
  ·have HCM:=hide hcm
   rw [if_pos hcm] at hR2
   by_cases hcl:hd l1.tail=125
   ·have HX:=hide (hR2.trans (if_pos hcl))
    have zu:=hide hcl
    clear hcl hcm hR2
    go_enter Tryz.func323,Tryz.ntmps323
    go_wp2_with (first
     | (go_at_call 335;refine (dL (lM dK 0) nW).mono ?_;clear dK nW;rintro x w1 ⟨rfl,HS⟩)
     | (go_at_call 219;have Mj:=HCM;clear HCM;refine (dz HS 44 Mj).mono ?_;clear HS;rintro x w2 ⟨rfl,HS⟩)
     | (go_at_call 219;refine (dz HS 125 zu).mono ?_;clear HS;rintro x w3 ⟨rfl,HS⟩;have H3:=rA.up HR3 (PL.up HS) hne;obtain ⟨⟨z0,c0⟩,f0⟩:=H3 0 (by omega);obtain ⟨⟨z1,c1⟩,f1⟩:=H3 1 (by omega);obtain ⟨⟨z2,c2⟩,f2⟩:=H3 2 (by omega);clear H3))
    obtain ⟨k0,k1,k2⟩:=jQ (.int .i64 a) (.int .i64 (-1)) (.int .i64 (a+1)) c0 c1 c2
    refine bodyPost_ret (v:=iw (a.toNat,none,a+1)) (by simp [results,Tryz.results323,go_sem,k0,k1,k2,iw,gH,hea]) rfl ?_
    rw [aa HX]
    exact ⟨rfl,aa Bv _ _ _ _ _ HS⟩
   ·rw [if_neg hcl] at hR2
    have zu:=hide hcl
    clear hcl hcm
    cases hn2:bU s.size a l1.tail with
    | error y=>
     rw [hn2] at hR2
     have HX:Hid (R=.error y):=hR2
     have iy:=hide hn2
     clear hn2 hR2
     go_enter Tryz.func323,Tryz.ntmps323
     go_wp2_with (first
      | (go_at_call 335;refine (dL (lM dK 0) nW).mono ?_;clear dK nW;rintro x w1 ⟨rfl,HS⟩)
      | (go_at_call 219;have Mj:=HCM;clear HCM;refine (dz HS 44 Mj).mono ?_;clear HS;rintro x w2 ⟨rfl,HS⟩)
      | (go_at_call 219;refine (cu HS 125 zu).mono ?_;clear HS;rintro x w3 ⟨rfl,HS⟩)
      | (go_at_call 335;refine (h_ (lM HS a) iy).mono ?_;rintro x w4 ⟨rfl,HU⟩))
     rw [aa HX]
     exact ⟨rfl,rfl,aa zM _ HU⟩
    | ok y=>
     obtain ⟨m,l2⟩:=y
     obtain ⟨hm0,ad8⟩:=Ey hn2
     have hem:((m.toNat:Nat):Int)=m:=by omega
     rw [hn2] at hR2
     have hR3:R=gT s.size (a.toNat,some m.toNat,j_ m) l2:=hR2
     have iy:=hide hn2
     clear hn2 hR2
     by_cases qJ:hd l2=125
     ·have HX:Hid (R=.ok ((a.toNat,some m.toNat,max m 1),l2.tail)):=by show _=_;rw [hR3,gT,if_pos qJ,Jb hm0]
      have Mk:=hide qJ
      clear qJ hR3
      go_enter Tryz.func323,Tryz.ntmps323
      go_wp2_with (first
       | (go_at_call 335;refine (dL (lM dK 0) nW).mono ?_;clear dK nW;rintro x w1 ⟨rfl,HS⟩)
       | (go_at_call 219;have Mj:=HCM;clear HCM;refine (dz HS 44 Mj).mono ?_;clear HS;rintro x w2 ⟨rfl,HS⟩)
       | (go_at_call 219;refine (cu HS 125 zu).mono ?_;clear HS;rintro x w3 ⟨rfl,HS⟩)
       | (go_at_call 335;refine (dL (lM HS a) iy).mono ?_;clear HS;rintro x w4 ⟨rfl,HS⟩)
       | (go_at_call 148;refine (dI HS 125 Mk).mono ?_;clear HS;rintro x w5 ⟨rfl,HS⟩;have H3:=rA.up HR3 (PL.up HS) hne;obtain ⟨⟨z0,c0⟩,f0⟩:=H3 0 (by omega);obtain ⟨⟨z1,c1⟩,f1⟩:=H3 1 (by omega);obtain ⟨⟨z2,c2⟩,f2⟩:=H3 2 (by omega);clear H3))
      obtain ⟨k0,k1,k2⟩:=jQ (.int .i64 a) (.int .i64 m) (.int .i64 (max m 1)) c0 c1 c2
      refine bodyPost_ret (v:=iw (a.toNat,some m.toNat,max m 1)) (by simp [results,Tryz.results323,go_sem,k0,k1,k2,iw,gH,hea,hem]) rfl ?_
      rw [aa HX]
      exact ⟨rfl,aa Bv _ _ _ _ _ HS⟩
     ·have HX:Hid (R=.error (2,Ao s.size l2)):=by show _=_;rw [hR3,gT,if_neg qJ];rfl
      have Mk:=hide qJ
      clear qJ hR3
      go_enter Tryz.func323,Tryz.ntmps323
      go_wp2_with (first
       | (go_at_call 335;refine (dL (lM dK 0) nW).mono ?_;clear dK nW;rintro x w1 ⟨rfl,HS⟩)
       | (go_at_call 219;have Mj:=HCM;clear HCM;refine (dz HS 44 Mj).mono ?_;clear HS;rintro x w2 ⟨rfl,HS⟩)
       | (go_at_call 219;refine (cu HS 125 zu).mono ?_;clear HS;rintro x w3 ⟨rfl,HS⟩)
       | (go_at_call 335;refine (dL (lM HS a) iy).mono ?_;clear HS;rintro x w4 ⟨rfl,HS⟩)
       | (go_at_call 148;refine (rz HS 125 Mk).mono ?_;rintro x w5 ⟨rfl,HU⟩))
      rw [aa HX]
      exact ⟨rfl,rfl,aa zM _ HU⟩
  ·rw [if_neg hcm] at hR2
   have HCM:=hide hcm
   clear hcm
   by_cases qJ:hd l1=125
   ·have HX:Hid (R=.ok ((a.toNat,some a.toNat,max a 1),l1.tail)):=by show _=_;rw [hR2,gT,if_pos qJ,Jb ha0]
    have Mk:=hide qJ
    clear qJ hR2
    go_enter Tryz.func323,Tryz.ntmps323
    go_wp2_with (first
     | (go_at_call 335;refine (dL (lM dK 0) nW).mono ?_;clear dK nW;rintro x w1 ⟨rfl,HS⟩)
     | (go_at_call 219;refine (cu HS 44 HCM).mono ?_;clear HS;rintro x w2 ⟨rfl,HS⟩)
     | (go_at_call 148;refine (dI HS 125 Mk).mono ?_;clear HS;rintro x w5 ⟨rfl,HS⟩;have H3:=rA.up HR3 (PL.up HS) hne;obtain ⟨⟨z0,c0⟩,f0⟩:=H3 0 (by omega);obtain ⟨⟨z1,c1⟩,f1⟩:=H3 1 (by omega);obtain ⟨⟨z2,c2⟩,f2⟩:=H3 2 (by omega);clear H3))
    obtain ⟨k0,k1,k2⟩:=jQ (.int .i64 a) (.int .i64 a) (.int .i64 (max a 1)) c0 c1 c2
    refine bodyPost_ret (v:=iw (a.toNat,some a.toNat,max a 1)) (by simp [results,Tryz.results323,go_sem,k0,k1,k2,iw,gH,hea]) rfl ?_
    rw [aa HX]
    exact ⟨rfl,aa Bv _ _ _ _ _ HS⟩
   ·have HX:Hid (R=.error (2,Ao s.size l1)):=by show _=_;rw [hR2,gT,if_neg qJ];rfl
    have Mk:=hide qJ
    clear qJ hR2
    go_enter Tryz.func323,Tryz.ntmps323
    go_wp2_with (first
     | (go_at_call 335;refine (dL (lM dK 0) nW).mono ?_;clear dK nW;rintro x w1 ⟨rfl,HS⟩)
     | (go_at_call 219;refine (cu HS 44 HCM).mono ?_;clear HS;rintro x w2 ⟨rfl,HS⟩)
     | (go_at_call 148;refine (rz HS 125 Mk).mono ?_;rintro x w5 ⟨rfl,HU⟩))
    rw [aa HX]
    exact ⟨rfl,rfl,aa zM _ HU⟩
end
end Go.Proofs.YtfolanohokflkaaGreatDoor
namespace Go.Proofs.YtfolanohokflkaaGreatDoor
open Go.RowKit
section
variable {w0 w:World} {b:Nat} {s:ByteArray} {d:Int} {l:List Sy}
set_option maxRecDepth 100000 in
set_option maxHeartbeats 8000000 in
theorem Oq (h:Hid (PL w0 w b s d l)) (qD:mr (hd l)=true) :
  Calls Tryz.prog 306 #[.pointer (some ⟨b,0,none⟩)] w (Br (eU s.size l) iw w0 b s d):=by
 have HR3:=hide (rA.new w 63)
 have dK:=jE h (.cells #[.int .i64 0,.int .i64 0,.int .i64 0] 63)
 have hne:w.heap.size≠b:=by have:=PL.lt h;omega
 have zM:Hid (∀ w',Hid (Up b (w.alloc (.cells #[.int .i64 0,.int .i64 0,.int .i64 0] 63)) w')->Hid (Up b w0 w')):=fun w' hu=>jD h hu
 have Bv:Hid (∀ w' l' u0 u1 u2,Hid (PL (w.alloc (.cells #[.int .i64 0,.int .i64 0,.int .i64 0] 63)) w' b s d l')->Hid (PL w0 (((w'.setCell ⟨w.heap.size,0,none⟩ u0).setCell ⟨w.heap.size,1,none⟩ u1).setCell ⟨w.heap.size,2,none⟩ u2) b s d l')):=fun w' l' u0 u1 u2 h'=>Jc h h' u0 u1 u2
 obtain ⟨R,hR⟩:∃ R,eU s.size l=R:=⟨_,rfl⟩
 rw [hR]
 unfold eU at hR
 simp only [mr,decide_eq_true_eq] at qD
 clear h
 by_cases Uf:hd l=42
 ·rw [if_neg (by omega),if_pos Uf] at hR
  have HX:=hide hR.symm
  have xO:=hide Uf
  clear Uf hR qD
  go_enter Tryz.func306,Tryz.ntmps306
  go_wp2_with (first
   | (go_at_call 219;have HQ:=xO;clear xO;refine (dz dK 42 HQ).mono ?_;clear dK;rintro x w42 ⟨rfl,HS⟩;have H3:=rA.up HR3 (PL.up HS) hne;obtain ⟨⟨z0,c0⟩,f0⟩:=H3 0 (by omega);obtain ⟨⟨z1,c1⟩,f1⟩:=H3 1 (by omega);obtain ⟨⟨z2,c2⟩,f2⟩:=H3 2 (by omega);clear H3))
  obtain ⟨k0,k1,k2⟩:=jQ (.int .i64 0) (.int .i64 (-1)) (.int .i64 2) c0 c1 c2
  refine bodyPost_ret (v:=iw (0,none,2)) (by simp [results,Tryz.results306,go_sem,k0,k1,k2,iw,gH]) rfl ?_
  rw [aa HX]
  exact ⟨rfl,aa Bv _ _ _ _ _ HS⟩
 by_cases h43:hd l=43
 ·rw [if_neg (by omega),if_neg Uf,if_pos h43] at hR
  have HX:=hide hR.symm
  have xO:=hide Uf
  have DK:=hide h43
  clear Uf h43 hR qD
  go_enter Tryz.func306,Tryz.ntmps306
  go_wp2_with (first
   | (go_at_call 219;have HQ:=xO;clear xO;refine (cu dK 42 HQ).mono ?_;clear dK;rintro x w42 ⟨rfl,HS⟩)
   | (go_at_call 219;have HQ:=DK;clear DK;refine (dz HS 43 HQ).mono ?_;clear HS;rintro x w43 ⟨rfl,HS⟩;have H3:=rA.up HR3 (PL.up HS) hne;obtain ⟨⟨z0,c0⟩,f0⟩:=H3 0 (by omega);obtain ⟨⟨z1,c1⟩,f1⟩:=H3 1 (by omega);obtain ⟨⟨z2,c2⟩,f2⟩:=H3 2 (by omega);clear H3))
  obtain ⟨k0,k1,k2⟩:=jQ (.int .i64 1) (.int .i64 (-1)) (.int .i64 2) c0 c1 c2
  refine bodyPost_ret (v:=iw (1,none,2)) (by simp [results,Tryz.results306,go_sem,k0,k1,k2,iw,gH]) rfl ?_
  rw [aa HX]
  exact ⟨rfl,aa Bv _ _ _ _ _ HS⟩
 by_cases h63:hd l=63
 ·rw [if_neg (by omega),if_neg Uf,if_neg h43] at hR
  have HX:=hide hR.symm
  have xO:=hide Uf
  have DK:=hide h43
  have Ml:=hide h63
  clear Uf h43 h63 hR qD
  go_enter Tryz.func306,Tryz.ntmps306
  go_wp2_with (first
   | (go_at_call 219;have HQ:=xO;clear xO;refine (cu dK 42 HQ).mono ?_;clear dK;rintro x w42 ⟨rfl,HS⟩)
   | (go_at_call 219;have HQ:=DK;clear DK;refine (cu HS 43 HQ).mono ?_;clear HS;rintro x w43 ⟨rfl,HS⟩)
   | (go_at_call 219;have HQ:=Ml;clear Ml;refine (dz HS 63 HQ).mono ?_;clear HS;rintro x w63 ⟨rfl,HS⟩;have H3:=rA.up HR3 (PL.up HS) hne;obtain ⟨⟨z0,c0⟩,f0⟩:=H3 0 (by omega);obtain ⟨⟨z1,c1⟩,f1⟩:=H3 1 (by omega);obtain ⟨⟨z2,c2⟩,f2⟩:=H3 2 (by omega);clear H3))
  obtain ⟨k0,k1,k2⟩:=jQ (.int .i64 0) (.int .i64 1) (.int .i64 2) c0 c1 c2
  refine bodyPost_ret (v:=iw (0,some 1,2)) (by simp [results,Tryz.results306,go_sem,k0,k1,k2,iw,gH]) rfl ?_
  rw [aa HX]
  exact ⟨rfl,aa Bv _ _ _ _ _ HS⟩
 have aaI:hd l=123:=by omega
 rw [if_pos aaI] at hR
 have xO:=hide Uf
 have DK:=hide h43
 have Ml:=hide h63
 have ZW:=hide aaI
 clear Uf h43 h63 aaI qD
 cases R with
 | error y=>
  have HR:=hide hR
  clear hR
  go_enter Tryz.func306,Tryz.ntmps306
  go_wp2_with (first
   | (go_at_call 219;have HQ:=xO;clear xO;refine (cu dK 42 HQ).mono ?_;clear dK;rintro x w42 ⟨rfl,HS⟩)
   | (go_at_call 219;have HQ:=DK;clear DK;refine (cu HS 43 HQ).mono ?_;clear HS;rintro x w43 ⟨rfl,HS⟩)
   | (go_at_call 219;have HQ:=Ml;clear Ml;refine (cu HS 63 HQ).mono ?_;clear HS;rintro x w63 ⟨rfl,HS⟩)
   | (go_at_call 148;refine (dI HS 123 ZW).mono ?_;clear HS;rintro x w5 ⟨rfl,HS⟩)
   | (go_at_call 323;refine (h_ (Oo HS) HR).mono ?_;rintro x w6 ⟨rfl,HU⟩))
  exact ⟨rfl,rfl,aa zM _ HU⟩
 | ok y=>
  obtain ⟨o,l1⟩:=y
  have HR:=hide hR
  clear hR
  go_enter Tryz.func306,Tryz.ntmps306
  go_wp2_with (first
   | (go_at_call 219;have HQ:=xO;clear xO;refine (cu dK 42 HQ).mono ?_;clear dK;rintro x w42 ⟨rfl,HS⟩)
   | (go_at_call 219;have HQ:=DK;clear DK;refine (cu HS 43 HQ).mono ?_;clear HS;rintro x w43 ⟨rfl,HS⟩)
   | (go_at_call 219;have HQ:=Ml;clear Ml;refine (cu HS 63 HQ).mono ?_;clear HS;rintro x w63 ⟨rfl,HS⟩)
   | (go_at_call 148;refine (dI HS 123 ZW).mono ?_;clear HS;rintro x w5 ⟨rfl,HS⟩)
   | (go_at_call 323;refine (dL (Oo HS) HR).mono ?_;clear HS;simp only [iw];rintro x w6 ⟨rfl,HS⟩;have H3:=rA.up HR3 (PL.up HS) hne;obtain ⟨⟨z0,c0⟩,f0⟩:=H3 0 (by omega);obtain ⟨⟨z1,c1⟩,f1⟩:=H3 1 (by omega);obtain ⟨⟨z2,c2⟩,f2⟩:=H3 2 (by omega);clear H3))
  obtain ⟨k0,k1,k2⟩:=jQ (.int .i64 o.1) (.int .i64 (gH o.2.1)) (.int .i64 o.2.2) c0 c1 c2
  refine bodyPost_ret (v:=iw o) (by simp [results,Tryz.results306,go_sem,k0,k1,k2,iw]) rfl ?_
  exact ⟨rfl,aa Bv _ _ _ _ _ HS⟩
end
end Go.Proofs.YtfolanohokflkaaGreatDoor
namespace Go.Proofs.YtfolanohokflkaaGreatDoor
open Go.RowKit
theorem pow16':∀ m:Nat,m<=6->(16:Int) ^ m<=16777216/\0<(16:Int) ^ m:=by decide
theorem Ug (v:Int) (w:World):Calls Tryz.prog 332 #[.int .i32 v] w fun e w'=>e=.returned (.bool (aG v))/\w=w':=by
 refine (Tryz.utf8_ValidRune v w).mono ?_
 rintro e w' ⟨rfl,rfl⟩
 refine ⟨?_,rfl⟩
 have:Lib.validRune v=aG v:=by
  unfold Lib.validRune aG
  apply decide_eq_decide.2
  omega
 rw [this]
section
variable {w0 w:World} {b:Nat} {s:ByteArray} {d:Int} {l:List Sy}
theorem zN (h:Hid (PL w0 w b s d l)) (hc:Hid (uu (hd l)<0)) :
  Calls Tryz.prog 341 #[.pointer (some ⟨b,0,none⟩),.string ⟨#[48,49,50,51,52,53,54,55,56,57,97,98,99,100,101,102]⟩] w fun x w'=>x=.returned (.tuple #[.int .i64 0,.bool false])/\Hid (PL w0 w' b s d l):=by
 obtain ⟨p,h1,rfl⟩:=aa h
 refine (FZ h1 FX (uB _ (by decide)) (by decide) (by decide) (uu (hd (ah s p))) (by show _=_;rw [N_])).mono ?_
 intro x w' hh
 obtain ⟨e,h2⟩:=hh.1 hc
 exact ⟨e,PL.of h2⟩
theorem Uh (h:Hid (PL w0 w b s d l)) {v:Int} (hv:Hid (uu (hd l)=v)) (h0:0<=v) :
  Calls Tryz.prog 341 #[.pointer (some ⟨b,0,none⟩),.string ⟨#[48,49,50,51,52,53,54,55,56,57,97,98,99,100,101,102]⟩] w fun x w'=>x=.returned (.tuple #[.int .i64 v,.bool true])/\Hid (PL w0 w' b s d l.tail):=by
 obtain ⟨p,h1,rfl⟩:=aa h
 refine (FZ h1 FX (uB _ (by decide)) (by decide) (by decide) v (by show _=_;rw [N_];exact aa hv)).mono ?_
 intro x w' hh
 obtain ⟨e,p',h2,h3⟩:=hh.2 h0
 exact ⟨e,PL.of' h2 h3⟩
theorem X_ (c:Int):uu c<=15:=by
 unfold uu
 split
 ·omega
 ·split<;>omega
theorem QW {v:Int} {k:Nat} (hk:k<6) (h:0<=uu (hd l)):uw (6 - k) v k l=uw (6 - (k+1)) (16*v+uu (hd l)) (k+1) l.tail:=by
 rw [show 6 - k=(6 - (k+1))+1 from by omega,uw,if_pos h]
theorem Ez {v:Int} {k:Nat} (hk:k=6\/uu (hd l)<0) (hk6:k<=6):uw (6 - k) v k l=(v,k,l):=by
 by_cases h6:k=6
 ·subst h6;rfl
 ·rw [show 6 - k=(6 - (k+1))+1 from by omega,uw,if_neg (by omega)]
def aaJ (R:bu Int) (w0 wr:World) (b:Nat) (s:ByteArray) (d:Int) (v:Int) (m:Nat) (l:List Sy):Prop:=
 lK s.size (uw (6 - m) v m l)=R/\Hid (PL w0 wr b s d l)/\0<=v/\v<(16:Int) ^ m
set_option maxRecDepth 100000 in
set_option maxHeartbeats 8000000 in
theorem EA (h:Hid (PL w0 w b s d l)) :
  Calls Tryz.prog 344 #[.pointer (some ⟨b,0,none⟩)] w (Br (oO s.size l) N8 w0 b s d):=by
 obtain ⟨R,hR⟩:∃ R,oO s.size l=R:=⟨_,rfl⟩
 rw [hR]
 by_cases hc:hd l=123
 ·rw [oO,if_pos hc] at hR
  have HC:=hide hc
  have HR:=hide hR
  clear hR hc
  go_enter Tryz.func344,Tryz.ntmps344
  go_wp2_with (go_at_call 148;refine (dI h 123 HC).mono ?_;clear h;rintro x w1 ⟨rfl,HS⟩)
  have HP:Hid (aaJ R w0 w1 b s d 0 0 l.tail):=⟨aa HR,HS,by decide,by decide⟩
  clear HS HR HC
  go_loopw [3,4] (fun n k wr=>∃ (v:Int) (m:Nat) (l':List Sy),m<=6/\n=.int .i32 v/\k=.int .i64 m/\Hid (aaJ R w0 wr b s d v m l')) (fun _ k _=>6 - (intOf k).toNat)
  case atStart=>exact ⟨0,0,_,by omega,rfl,rfl,HP⟩
  case round=>
   clear HP
   obtain ⟨v,m,l',hm,rfl,rfl,HP⟩:=hrel
   obtain ⟨hr,HS,hv0,hv1⟩:=aa HP
   obtain ⟨hp1,hp2⟩:=pow16' m hm
   have hvb:v<16777216:=by omega
   by_cases hm6:m<6
   ·by_cases hn:uu (hd l')<0
    ·have hend:lK s.size (v,m,l')=R:=by rw [<-hr,Ez (.inr hn) hm]
     have HN:=hide hn
     clear hr HP hv1 hp1 hp2 hn
     obtain ⟨c,hcc⟩:∃ c,hd l'=c:=⟨_,rfl⟩
     have gP:=hide hcc
     rw [lK] at hend
     dsimp only at hend
     rw [hcc] at hend
     have rC:=hide hend
     clear hcc hend
     by_cases hz:m=0
     ·have hz':((m:Int)==0)=true:=by simp [hz]
      have HX:Hid (R=.error (2,Ao s.size l')):=by show _=_;rw [<-aa rC,if_pos (.inl hz)];rfl
      clear hz rC
      go_wp2_with (first
       | (go_at_call 341;refine (zN HS HN).mono ?_;clear HS HN;rintro x w3 ⟨rfl,HS⟩)
       | (go_at_call 251;refine (d_ HS gP).mono ?_;clear HS;rintro x w2 ⟨rfl,HS⟩)
       | (go_at_call 220;refine (jI HS 2).mono ?_;rintro x w4 ⟨rfl,HU⟩))
      rw [aa HX]
      exact ⟨rfl,rfl,HU⟩
     ·have hz':((m:Int)==0)=false:=by simp;omega
      by_cases hc:c=125
      ·subst hc
       have HY:=hide (fun w1=>Ug v w1)
       cases hsy:aG v
       ·have HX:Hid (R=.error (3,Ao s.size l')):=by show _=_;rw [<-aa rC,if_neg (by omega),if_neg (by rw [hsy];decide)];rfl
        rw [hsy] at HY
        clear hz rC hsy
        go_wp2_with (first
         | (go_at_call 341;refine (zN HS HN).mono ?_;clear HS HN;rintro x w3 ⟨rfl,HS⟩)
         | (go_at_call 251;refine (d_ HS gP).mono ?_;clear HS;rintro x w2 ⟨rfl,HS⟩)
         | (go_at_call 332;refine (aa HY _).mono ?_;rintro x w5 ⟨rfl,rfl⟩)
         | (go_at_call 220;refine (jI HS 3).mono ?_;rintro x w4 ⟨rfl,HU⟩))
        rw [aa HX]
        exact ⟨rfl,rfl,HU⟩
       ·have HX:Hid (R=.ok (v,l'.tail)):=by show _=_;rw [<-aa rC,if_neg (by omega),if_pos hsy]
        rw [hsy] at HY
        clear hz rC hsy
        go_wp2_with (first
         | (go_at_call 341;refine (zN HS HN).mono ?_;clear HS HN;rintro x w3 ⟨rfl,HS⟩)
         | (go_at_call 251;refine (d_ HS gP).mono ?_;clear HS;rintro x w2 ⟨rfl,HS⟩)
         | (go_at_call 332;refine (aa HY _).mono ?_;rintro x w5 ⟨rfl,rfl⟩)
         | (go_at_call 252;refine (Ex HS).mono ?_;clear HS;rintro x w6 ⟨rfl,HS⟩))
        go_ret
        rw [aa HX]
        exact ⟨rfl,HS⟩
      ·have hb':(c != 125)=true:=by simpa using hc
       have HX:Hid (R=.error (2,Ao s.size l')):=by show _=_;rw [<-aa rC,if_pos (.inr hc)];rfl
       clear hz rC hc
       go_wp2_with (first
        | (go_at_call 341;refine (zN HS HN).mono ?_;clear HS HN;rintro x w3 ⟨rfl,HS⟩)
        | (go_at_call 251;refine (d_ HS gP).mono ?_;clear HS;rintro x w2 ⟨rfl,HS⟩)
        | (go_at_call 220;refine (jI HS 2).mono ?_;rintro x w4 ⟨rfl,HU⟩))
       rw [aa HX]
       exact ⟨rfl,rfl,HU⟩
    ·obtain ⟨z,hz⟩:∃ z,uu (hd l')=z:=⟨_,rfl⟩
     have adr:=X_ (hd l')
     rw [hz] at adr
     have hz0:0<=z:=by omega
     have Ot:Hid (∀ w',Hid (PL w0 w' b s d l'.tail)->aaJ R w0 w' b s d (16*v+z) (m+1) l'.tail):=by
      intro w' hs
      refine ⟨?_,hs,by omega,?_⟩
      ·rw [<-hr,QW hm6 (by omega),hz]
      ·rw [Int.pow_succ];omega
     have HV:=hide hz
     clear hr HP hv1 hp1 hp2 hn hz
     go_wp2_with (first
      | (go_at_call 341;refine (Uh HS HV hz0).mono ?_;clear HS;rintro x w3 ⟨rfl,HS⟩))
     go_roundw
     case rel=>exact ⟨_,m+1,_,by omega,rfl,by go_num,aa Ot _ HS⟩
     case measure=>simp [intOf];omega
   ·have hm':decide ((m:Int)<6)=false:=by simp;omega
    have hend:lK s.size (v,m,l')=R:=by rw [<-hr,Ez (.inl (by omega)) hm]
    clear hr HP hv1 hp1 hp2 hm6
    obtain ⟨c,hcc⟩:∃ c,hd l'=c:=⟨_,rfl⟩
    have gP:=hide hcc
    rw [lK] at hend
    dsimp only at hend
    rw [hcc] at hend
    have rC:=hide hend
    clear hcc hend
    by_cases hz:m=0
    ·have hz':((m:Int)==0)=true:=by simp [hz]
     have HX:Hid (R=.error (2,Ao s.size l')):=by show _=_;rw [<-aa rC,if_pos (.inl hz)];rfl
     clear hz rC
     go_wp2_with (first
      | (go_at_call 251;refine (d_ HS gP).mono ?_;clear HS;rintro x w2 ⟨rfl,HS⟩)
      | (go_at_call 220;refine (jI HS 2).mono ?_;rintro x w4 ⟨rfl,HU⟩))
     rw [aa HX]
     exact ⟨rfl,rfl,HU⟩
    ·have hz':((m:Int)==0)=false:=by simp;omega
     by_cases hc:c=125
     ·subst hc
      have HY:=hide (fun w1=>Ug v w1)
      cases hsy:aG v
      ·have HX:Hid (R=.error (3,Ao s.size l')):=by show _=_;rw [<-aa rC,if_neg (by omega),if_neg (by rw [hsy];decide)];rfl
       rw [hsy] at HY
       clear hz rC hsy
       go_wp2_with (first
        | (go_at_call 251;refine (d_ HS gP).mono ?_;clear HS;rintro x w2 ⟨rfl,HS⟩)
        | (go_at_call 332;refine (aa HY _).mono ?_;rintro x w5 ⟨rfl,rfl⟩)
        | (go_at_call 220;refine (jI HS 3).mono ?_;rintro x w4 ⟨rfl,HU⟩))
       rw [aa HX]
       exact ⟨rfl,rfl,HU⟩
      ·have HX:Hid (R=.ok (v,l'.tail)):=by show _=_;rw [<-aa rC,if_neg (by omega),if_pos hsy]
       rw [hsy] at HY
       clear hz rC hsy
       go_wp2_with (first
        | (go_at_call 251;refine (d_ HS gP).mono ?_;clear HS;rintro x w2 ⟨rfl,HS⟩)
        | (go_at_call 332;refine (aa HY _).mono ?_;rintro x w5 ⟨rfl,rfl⟩)
        | (go_at_call 252;refine (Ex HS).mono ?_;clear HS;rintro x w6 ⟨rfl,HS⟩))
       go_ret
       rw [aa HX]
       exact ⟨rfl,HS⟩
     ·have hb':(c != 125)=true:=by simpa using hc
      have HX:Hid (R=.error (2,Ao s.size l')):=by show _=_;rw [<-aa rC,if_pos (.inr hc)];rfl
      clear hz rC hc
      go_wp2_with (first
       | (go_at_call 251;refine (d_ HS gP).mono ?_;clear HS;rintro x w2 ⟨rfl,HS⟩)
       | (go_at_call 220;refine (jI HS 2).mono ?_;rintro x w4 ⟨rfl,HU⟩))
      rw [aa HX]
      exact ⟨rfl,rfl,HU⟩
 ·have HC:=hide hc
  rw [oO,if_neg hc] at hR
  have HX:Hid (R=.error (2,Ao s.size l)):=hR.symm
  clear hR hc
  go_enter Tryz.func344,Tryz.ntmps344
  go_wp2_with (go_at_call 148;refine (rz h 123 HC).mono ?_;clear h;rintro x w1 ⟨rfl,HU⟩)
  rw [aa HX]
  exact ⟨rfl,rfl,HU⟩
end
end Go.Proofs.YtfolanohokflkaaGreatDoor
namespace Go.Proofs.YtfolanohokflkaaGreatDoor
open Go.RowKit
theorem EB (s:ByteArray) (p:Nat) (h:(s.get! p).toNat<128):Utf8.decode s p=((s.get! p).toNat,1):=by
 unfold Utf8.decode
 simp only []
 rw [if_pos (by simpa using h)]
 rfl
theorem QX (s:ByteArray) (p:Nat) (h:¬ (s.get! p).toNat<128):128<=(Utf8.decode s p).1:=by
 have g0:=(s.get! p).toNat_lt
 have g1:=(s.get! (p+1)).toNat_lt
 unfold Utf8.decode
 simp only [Utf8.valid,Utf8.runeError,Nat.add_zero,Bool.and_eq_true,Bool.or_eq_true,beq_iff_eq,decide_eq_true_eq,ge_iff_le]
 repeat' split
 all_goals simp only []
 all_goals omega
theorem vX (s:ByteArray) (p:Nat) (h:p<s.size) (x:Nat) (hx:x<128):hd (ah s p)=(x:Int)↔(s.get! p).toNat=x:=by
 rw [FU h]
 by_cases hb:(s.get! p).toNat<128
 ·rw [EB s p hb];simp only [];omega
 ·have:=QX s p hb
  constructor<;>intro _<;>omega
theorem Gn (s:ByteArray) (p:Nat) (h:p<s.size) (hx:(s.get! p).toNat<128):(ah s p).tail=ah s (p+1):=by
 rw [NW h,EB s p hx]
theorem vY (s:ByteArray):s.data.toList.length=s.size:=by rw [Array.length_toList];rfl
theorem Gp (s:ByteArray) (p:Nat):(s.extract p s.size).data.toList=s.data.toList.drop p:=by
 rw [ByteArray.data_extract,Array.toList_extract]
 rw [List.extract,List.take_of_length_le (by rw [List.length_drop,vY];exact Nat.le_refl _)]
theorem drop_at (s:ByteArray) (p:Nat) (h:p<s.size):s.data.toList.drop p=s.get! p::s.data.toList.drop (p+1):=by
 have h':p<s.data.toList.length:=by rw [vY];exact h
 rw [List.drop_eq_getElem_cons h',qP s p h];rfl
theorem nH (s:ByteArray) (p:Nat) (hle:p<=s.size) (x:UInt8) (hx:x.toNat<128) :
  Lib.hasPrefix (s.extract p s.size).data.toList [92,x]=decide (hd (ah s p)=92/\hd (ah s p).tail=(x.toNat:Int)):=by
 rw [Gp]
 unfold Lib.hasPrefix
 by_cases hp:p<s.size
 ·rw [drop_at s p hp]
  by_cases zw:hd (ah s p)=92
  ·have e:=(vX s p hp 92 (by decide)).1 zw
   have e1:s.get! p=92:=UInt8.toNat_inj.1 e
   rw [Gn s p hp (by omega),e1]
   by_cases hp1:p+1<s.size
   ·rw [drop_at s (p+1) hp1]
    have e2:=vX s (p+1) hp1 x.toNat hx
    simp only [List.isPrefixOf,zw,true_and,Bool.and_true,e2,beq_self_eq_true,Bool.true_and]
    rw [Bool.eq_iff_iff]
    simp only [beq_iff_eq,decide_eq_true_eq]
    rw [<-UInt8.toNat_inj]
    exact eq_comm
   ·obtain e3:p+1=s.size:=by omega
    rw [e3,xx,List.drop_eq_nil_of_le (by rw [vY];exact Nat.le_refl _)]
    simp [List.isPrefixOf]
  ·have e1:¬ s.get! p=92:=fun e=>zw ((vX s p hp 92 (by decide)).2 (by rw [e];rfl))
   have e2:(92==s.get! p)=false:=by simpa using fun e=>e1 e.symm
   simp [List.isPrefixOf,zw,e2]
 ·obtain rfl:p=s.size:=by omega
  rw [xx,List.drop_eq_nil_of_le (by rw [vY];exact Nat.le_refl _)]
  simp [List.isPrefixOf]
section
variable {w0 w:World} {b:Nat} {s:ByteArray} {d:Int} {l:List Sy}
theorem vZ (t u:ByteArray) (w:World) {v:Bool} (hv:Hid (Lib.hasPrefix t.data.toList u.data.toList=v)):Calls Tryz.prog 338 #[.string t,.string u] w fun e w'=>e=.returned (.bool v)/\w=w':=by
 refine (Tryz.strings_HasPrefix t u w).mono ?_
 rintro e w' ⟨rfl,rfl⟩
 exact ⟨by rw [aa hv],rfl⟩
set_option maxRecDepth 100000 in
set_option maxHeartbeats 4000000 in
theorem iU (h:Hid (PL w0 w b s d l)) (hc:Hid (isSet l=false)) :
  Calls Tryz.prog 329 #[.pointer (some ⟨b,0,none⟩)] w fun x w'=>x=.returned (.tuple #[.string ⟨#[]⟩,.bool false])/\Hid (PL w0 w' b s d l):=by
 obtain ⟨p,h1,rfl⟩:=aa h
 have q0:=h1.c0
 have q1:=h1.c1
 have hsm:=h1.small
 have hle:=h1.le
 have hpI:(p:Int)<=(s.size:Int):=by omega
 have hcc:¬ (hd (ah s p)=92/\(hd (ah s p).tail=100\/hd (ah s p).tail=119)):=by have:=aa hc;simpa [isSet] using this
 have A1:=hide (fun w1=>vZ (v:=false) (s.extract p s.size) ⟨#[92,100]⟩ w1 (by show Lib.hasPrefix _ [92,100]=_;rw [nH s p hle 100 (by decide)];simp;intro e1 e2;exact hcc ⟨e1,.inl e2⟩))
 have A2:=hide (fun w1=>vZ (v:=false) (s.extract p s.size) ⟨#[92,119]⟩ w1 (by show Lib.hasPrefix _ [92,119]=_;rw [nH s p hle 119 (by decide)];simp;intro e1 e2;exact hcc ⟨e1,.inr e2⟩))
 clear hcc hc h1
 go_enter Tryz.func329,Tryz.ntmps329
 go_wp2_with fail
 go_quiet (fail)
 go_wp2_with (first
  | (go_at_call 338;refine (aa A1 _).mono ?_;clear A1;rintro e w1 ⟨rfl,rfl⟩)
  | (go_at_call 338;have A3:=A2;clear A2;refine (aa A3 _).mono ?_;rintro e w1 ⟨rfl,rfl⟩))
 go_ret2
 exact ⟨rfl,PL.below h ⟨rfl,rfl,rfl,Nat.le_refl _,fun _ _=>rfl⟩⟩
end
end Go.Proofs.YtfolanohokflkaaGreatDoor
namespace Go.Proofs.YtfolanohokflkaaGreatDoor
open Go.RowKit
theorem Mm:encS zL=⟨#[48,57]⟩:=by decide +kernel
theorem Jd:encS vU=⟨#[48,57,65,90,95,95,97,122]⟩:=by decide +kernel
theorem two_bytes (s:ByteArray) (p:Nat) (hle:p<=s.size) (x:Nat) (hx:x<128) (h1:hd (ah s p)=92) (h2:hd (ah s p).tail=(x:Int)):p+2<=s.size/\ah s (p+2)=(ah s p).tail.tail:=by
 have hp:p<s.size:=by
  by_cases hp:p<s.size
  ·exact hp
  ·obtain rfl:p=s.size:=by omega
   rw [xx] at h1;omega
 have e:=(vX s p hp 92 (by decide)).1 h1
 rw [Gn s p hp (by omega)] at h2 ⊢
 have hp1:p+1<s.size:=by
  by_cases hp1:p+1<s.size
  ·exact hp1
  ·have e3:p+1=s.size:=by omega
   rw [e3,xx] at h2;omega
 have e2:=(vX s (p+1) hp1 x hx).1 h2
 rw [Gn s (p+1) hp1 (by omega)]
 exact ⟨by omega,rfl⟩
section
variable {w0 w:World} {b:Nat} {s:ByteArray} {d:Int} {l:List Sy}
set_option maxRecDepth 100000 in
set_option maxHeartbeats 4000000 in
theorem v_ (h:Hid (PL w0 w b s d l)) (hc:Hid (isSet l=true)) :
  Calls Tryz.prog 329 #[.pointer (some ⟨b,0,none⟩)] w fun x w'=>x=.returned (.tuple #[.string (encS (jO l)),.bool true])/\Hid (PL w0 w' b s d l.tail.tail):=by
 obtain ⟨p,h1,rfl⟩:=aa h
 have q0:=h1.c0
 have q1:=h1.c1
 have f1:=h1.fz 1
 have hsm:=h1.small
 have hle:=h1.le
 have hpI:(p:Int)<=(s.size:Int):=by omega
 have hcc:hd (ah s p)=92/\(hd (ah s p).tail=100\/hd (ah s p).tail=119):=by have:=aa hc;simpa [isSet] using this
 have HH:=hide h1
 obtain ⟨hc1,hc2⟩:=hcc
 have hp2:p+2<=s.size/\ah s (p+2)=(ah s p).tail.tail:=by
  rcases hc2 with hc2 | hc2
  ·exact two_bytes s p hle 100 (by decide) hc1 hc2
  ·exact two_bytes s p hle 119 (by decide) hc1 hc2
 obtain ⟨hp2,he2⟩:=hp2
 have HE:=hide he2
 rcases hc2 with hc2 | hc2
 ·have hse:encS (jO (ah s p))=⟨#[48,57]⟩:=by rw [jO,if_pos hc2];exact Mm
  rw [hse]
  have A1:=hide (fun w1=>vZ (v:=true) (s.extract p s.size) ⟨#[92,100]⟩ w1 (by show Lib.hasPrefix _ [92,100]=_;rw [nH s p hle 100 (by decide)];simp;exact ⟨hc1,hc2⟩))
  clear hc2 hc1 hc h1 h he2 hse
  go_enter Tryz.func329,Tryz.ntmps329
  go_wp2_with fail
  go_quiet (fail)
  go_wp2_with (first
   | (go_at_call 338;refine (aa A1 _).mono ?_;clear A1;rintro e w1 ⟨rfl,rfl⟩))
  go_ret2
  exact ⟨rfl,PL.of' (PS.Au (PS.below (w':=w.drewN nq) HH ⟨rfl,rfl,rfl,Nat.le_refl _,fun _ _=>rfl⟩) (p+2) _ (by omega) hp2) HE⟩
 ·have hse:encS (jO (ah s p))=⟨#[48,57,65,90,95,95,97,122]⟩:=by rw [jO,if_neg (by omega)];exact Jd
  rw [hse]
  have A1:=hide (fun w1=>vZ (v:=false) (s.extract p s.size) ⟨#[92,100]⟩ w1 (by show Lib.hasPrefix _ [92,100]=_;rw [nH s p hle 100 (by decide)];simp [hc1,hc2]))
  have A2:=hide (fun w1=>vZ (v:=true) (s.extract p s.size) ⟨#[92,119]⟩ w1 (by show Lib.hasPrefix _ [92,119]=_;rw [nH s p hle 119 (by decide)];simp;exact ⟨hc1,hc2⟩))
  clear hc2 hc1 hc h1 h he2 hse
  go_enter Tryz.func329,Tryz.ntmps329
  go_wp2_with fail
  go_quiet (fail)
  go_wp2_with (first
   | (go_at_call 338;refine (aa A1 _).mono ?_;clear A1;rintro e w1 ⟨rfl,rfl⟩)
   | (go_at_call 338;have A3:=A2;clear A2;refine (aa A3 _).mono ?_;rintro e w1 ⟨rfl,rfl⟩))
  go_ret2
  exact ⟨rfl,PL.of' (PS.Au (PS.below (w':=w.drewN nq) HH ⟨rfl,rfl,rfl,Nat.le_refl _,fun _ _=>rfl⟩) (p+2) _ (by omega) hp2) HE⟩
theorem Bw (h:Hid (PL w0 w b s d l)) {c:Int} (hc:Hid (hd l=c)) {v:Bool} (hv:Hid ((qR c||decide (c=110))=v)) :
  Calls Tryz.prog 305 #[.string ⟨#[124,38,126,42,43,63,123,125,91,93,40,41,46,92,94,45,110]⟩,.int .i32 c] w fun x w'=>x=.returned (.bool v)/\Hid (PL w0 w' b s d l):=by
 have hs:=PL.Uc h
 rw [aa hc] at hs
 have:=kY LV c w (uB _ (by decide)) (by decide) (by decide) hs
 rw [XT,aa hv] at this
 refine Calls.mono this ?_
 rintro x w' ⟨rfl,hb⟩
 exact ⟨rfl,PL.below h hb⟩
theorem EC (h:Hid (PL w0 w b s d l)) {c:Int} (hc:Hid (hd l=c)) {v:Bool} (hv:Hid (m_ c=v)) :
  Calls Tryz.prog 305 #[.string ⟨#[124,38,126,42,43,63,123,125,91,93,40,41,46,92]⟩,.int .i32 c] w fun x w'=>x=.returned (.bool v)/\Hid (PL w0 w' b s d l):=by
 have hs:=PL.Uc h
 rw [aa hc] at hs
 have:=kY FY c w (uB _ (by decide)) (by decide) (by decide) hs
 rw [Tx,aa hv] at this
 refine Calls.mono this ?_
 rintro x w' ⟨rfl,hb⟩
 exact ⟨rfl,PL.below h hb⟩
theorem Bz (h:Hid (PL w0 w b s d l)) {c:Int} (hc:Hid (hd l=c)) {v:Bool} (hv:Hid (mr c=v)) :
  Calls Tryz.prog 305 #[.string ⟨#[42,43,63,123]⟩,.int .i32 c] w fun x w'=>x=.returned (.bool v)/\Hid (PL w0 w' b s d l):=by
 have hs:=PL.Uc h
 rw [aa hc] at hs
 have:=kY LU c w (uB _ (by decide)) (by decide) (by decide) hs
 rw [XR,aa hv] at this
 refine Calls.mono this ?_
 rintro x w' ⟨rfl,hb⟩
 exact ⟨rfl,PL.below h hb⟩
set_option maxRecDepth 100000 in
set_option maxHeartbeats 4000000 in
theorem zO (h:Hid (PL w0 w b s d l)) (hc:Hid (hd l=92)) :
  Calls Tryz.prog 339 #[.pointer (some ⟨b,0,none⟩)] w (Br (fE s.size l.tail) N8 w0 b s d):=by
 obtain ⟨R,hR⟩:∃ R,fE s.size l.tail=R:=⟨_,rfl⟩
 rw [hR]
 by_cases hu:hd l.tail=117
 ·rw [fE,if_pos hu] at hR
  have HU1:=hide hu
  have HR:=hide hR
  clear hu hR
  cases R with
  | error y=>
   go_enter Tryz.func339,Tryz.ntmps339
   go_wp2_with (first
    | (go_at_call 148;refine (dI h 92 hc).mono ?_;clear h;rintro x w1 ⟨rfl,HS⟩)
    | (go_at_call 219;refine (dz HS 117 HU1).mono ?_;clear HS;rintro x w2 ⟨rfl,HS⟩)
    | (go_at_call 344;refine (h_ (EA HS) HR).mono ?_;rintro x w3 ⟨rfl,HU⟩))
   exact ⟨rfl,rfl,HU⟩
  | ok y=>
   obtain ⟨z,l1⟩:=y
   go_enter Tryz.func339,Tryz.ntmps339
   go_wp2_with (first
    | (go_at_call 148;refine (dI h 92 hc).mono ?_;clear h;rintro x w1 ⟨rfl,HS⟩)
    | (go_at_call 219;refine (dz HS 117 HU1).mono ?_;clear HS;rintro x w2 ⟨rfl,HS⟩)
    | (go_at_call 344;refine (dL (EA HS) HR).mono ?_;clear HS;rintro x w3 ⟨rfl,HS⟩))
   go_ret
   exact ⟨rfl,HS⟩
 ·have HU1:=hide hu
  rw [fE,if_neg hu] at hR
  obtain ⟨c,hcc⟩:∃ c,hd l.tail=c:=⟨_,rfl⟩
  have gP:=hide hcc
  rw [hcc] at hR
  clear hu hcc
  by_cases hn:c=110
  ·rw [if_pos hn] at hR
   have HX:=hide hR.symm
   have HV:Hid ((qR c||decide (c=110))=true):=by show _=_;simp [hn]
   subst hn
   clear hR
   go_enter Tryz.func339,Tryz.ntmps339
   go_wp2_with (first
    | (go_at_call 148;refine (dI h 92 hc).mono ?_;clear h;rintro x w1 ⟨rfl,HS⟩)
    | (go_at_call 219;refine (cu HS 117 HU1).mono ?_;clear HS;rintro x w2 ⟨rfl,HS⟩)
    | (go_at_call 251;refine (d_ HS gP).mono ?_;clear HS;rintro x w3 ⟨rfl,HS⟩)
    | (go_at_call 305;refine (Bw HS gP HV).mono ?_;clear HS;rintro x w4 ⟨rfl,HS⟩)
    | (go_at_call 252;refine (Ex HS).mono ?_;clear HS;rintro x w5 ⟨rfl,HS⟩))
   go_ret
   rw [aa HX]
   exact ⟨rfl,HS⟩
  ·rw [if_neg hn] at hR
   have hn1:(c==110)=false:=by simpa using hn
   cases he:qR c
   ·rw [if_neg (by rw [he];decide)] at hR
    have HX:Hid (R=.error (2,Ao s.size l.tail)):=hR.symm
    have HV:Hid ((qR c||decide (c=110))=false):=by show _=_;simp [hn,he]
    clear hR hn he hn1
    go_enter Tryz.func339,Tryz.ntmps339
    go_wp2_with (first
     | (go_at_call 148;refine (dI h 92 hc).mono ?_;clear h;rintro x w1 ⟨rfl,HS⟩)
     | (go_at_call 219;refine (cu HS 117 HU1).mono ?_;clear HS;rintro x w2 ⟨rfl,HS⟩)
     | (go_at_call 251;refine (d_ HS gP).mono ?_;clear HS;rintro x w3 ⟨rfl,HS⟩)
     | (go_at_call 305;refine (Bw HS gP HV).mono ?_;clear HS;rintro x w4 ⟨rfl,HS⟩)
     | (go_at_call 220;refine (jI HS 2).mono ?_;rintro x w5 ⟨rfl,HU⟩))
    rw [aa HX]
    exact ⟨rfl,rfl,HU⟩
   ·rw [if_pos he] at hR
    have HX:=hide hR.symm
    have HV:Hid ((qR c||decide (c=110))=true):=by show _=_;simp [he]
    clear hR hn he
    go_enter Tryz.func339,Tryz.ntmps339
    go_wp2_with (first
     | (go_at_call 148;refine (dI h 92 hc).mono ?_;clear h;rintro x w1 ⟨rfl,HS⟩)
     | (go_at_call 219;refine (cu HS 117 HU1).mono ?_;clear HS;rintro x w2 ⟨rfl,HS⟩)
     | (go_at_call 251;refine (d_ HS gP).mono ?_;clear HS;rintro x w3 ⟨rfl,HS⟩)
     | (go_at_call 305;refine (Bw HS gP HV).mono ?_;clear HS;rintro x w4 ⟨rfl,HS⟩)
     | (go_at_call 252;refine (Ex HS).mono ?_;clear HS;rintro x w5 ⟨rfl,HS⟩))
    go_ret
    rw [aa HX]
    exact ⟨rfl,HS⟩
def mM (n:Nat) (l:List Sy):bu Int:=if hd l=92 then fE n l.tail else if hd l<0\/m_ (hd l)=true then bad 2 n l else .ok (hd l,l.tail)
set_option maxRecDepth 100000 in
set_option maxHeartbeats 4000000 in
theorem Ou (h:Hid (PL w0 w b s d l)) :
  Calls Tryz.prog 330 #[.pointer (some ⟨b,0,none⟩)] w (Br (mM s.size l) N8 w0 b s d):=by
 obtain ⟨R,hR⟩:∃ R,mM s.size l=R:=⟨_,rfl⟩
 rw [hR]
 have hge:=hd_ge' l
 by_cases zw:hd l=92
 ·rw [mM,if_pos zw] at hR
  have gP:=hide zw
  have HR:=hide hR
  clear hR zw hge
  cases R with
  | error y=>
   go_enter Tryz.func330,Tryz.ntmps330
   go_wp2_with (first
    | (go_at_call 251;refine (d_ h gP).mono ?_;clear h;rintro x w1 ⟨rfl,HS⟩)
    | (go_at_call 339;refine (h_ (zO HS gP) HR).mono ?_;rintro x w2 ⟨rfl,HU⟩))
   exact ⟨rfl,rfl,HU⟩
  | ok y=>
   obtain ⟨z,l1⟩:=y
   go_enter Tryz.func330,Tryz.ntmps330
   go_wp2_with (first
    | (go_at_call 251;refine (d_ h gP).mono ?_;clear h;rintro x w1 ⟨rfl,HS⟩)
    | (go_at_call 339;refine (dL (zO HS gP) HR).mono ?_;clear HS;rintro x w2 ⟨rfl,HS⟩))
   go_ret
   exact ⟨rfl,HS⟩
 ·rw [mM,if_neg zw] at hR
  obtain ⟨c,hcc⟩:∃ c,hd l=c:=⟨_,rfl⟩
  have gP:=hide hcc
  rw [hcc] at hR zw hge
  have k1:(c==92)=false:=by simpa using zw
  clear hcc zw
  by_cases hn:c<0
  ·obtain rfl:c=-1:=by omega
   rw [if_pos (.inl (by omega))] at hR
   subst hR
   clear hn hge k1
   go_enter Tryz.func330,Tryz.ntmps330
   go_wp2_with (first
    | (go_at_call 251;refine (d_ h gP).mono ?_;clear h;rintro x w3 ⟨rfl,HS⟩)
    | (go_at_call 220;refine (jI HS 2).mono ?_;rintro x w5 ⟨rfl,HU⟩))
   exact ⟨rfl,rfl,HU⟩
  ·have hn1:(c==-1)=false:=by simp;omega
   cases hm:m_ c
   ·rw [if_neg (by simp [hm];omega)] at hR
    have HX:=hide hR.symm
    have HV:=hide hm
    clear hm hn hge hR
    go_enter Tryz.func330,Tryz.ntmps330
    go_wp2_with (first
     | (go_at_call 251;refine (d_ h gP).mono ?_;clear h;rintro x w3 ⟨rfl,HS⟩)
     | (go_at_call 305;refine (EC HS gP HV).mono ?_;clear HS;rintro x w4 ⟨rfl,HS⟩)
     | (go_at_call 252;refine (Ex HS).mono ?_;clear HS;rintro x w5 ⟨rfl,HS⟩))
    go_ret
    rw [aa HX]
    exact ⟨rfl,HS⟩
   ·rw [if_pos (.inr hm)] at hR
    have HX:Hid (R=.error (2,Ao s.size l)):=hR.symm
    have HV:=hide hm
    clear hm hn hge hR
    go_enter Tryz.func330,Tryz.ntmps330
    go_wp2_with (first
     | (go_at_call 251;refine (d_ h gP).mono ?_;clear h;rintro x w3 ⟨rfl,HS⟩)
     | (go_at_call 305;refine (EC HS gP HV).mono ?_;clear HS;rintro x w4 ⟨rfl,HS⟩)
     | (go_at_call 220;refine (jI HS 2).mono ?_;rintro x w5 ⟨rfl,HU⟩))
    rw [aa HX]
    exact ⟨rfl,rfl,HU⟩
set_option maxRecDepth 100000 in
set_option maxHeartbeats 4000000 in
theorem rD (h:Hid (PL w0 w b s d l)) :
  Calls Tryz.prog 342 #[.pointer (some ⟨b,0,none⟩)] w (Br (fu s.size l) N8 w0 b s d):=by
 obtain ⟨R,hR⟩:∃ R,fu s.size l=R:=⟨_,rfl⟩
 rw [hR]
 have hge:=hd_ge' l
 by_cases zw:hd l=92
 ·rw [fu,if_pos zw] at hR
  have gP:=hide zw
  have HR:=hide hR
  clear hR zw hge
  cases R with
  | error y=>
   go_enter Tryz.func342,Tryz.ntmps342
   go_wp2_with (first
    | (go_at_call 251;refine (d_ h gP).mono ?_;clear h;rintro x w1 ⟨rfl,HS⟩)
    | (go_at_call 339;refine (h_ (zO HS gP) HR).mono ?_;rintro x w2 ⟨rfl,HU⟩))
   exact ⟨rfl,rfl,HU⟩
  | ok y=>
   obtain ⟨z,l1⟩:=y
   go_enter Tryz.func342,Tryz.ntmps342
   go_wp2_with (first
    | (go_at_call 251;refine (d_ h gP).mono ?_;clear h;rintro x w1 ⟨rfl,HS⟩)
    | (go_at_call 339;refine (dL (zO HS gP) HR).mono ?_;clear HS;rintro x w2 ⟨rfl,HS⟩))
   go_ret
   exact ⟨rfl,HS⟩
 ·rw [fu,if_neg zw] at hR
  by_cases hb:hd l<0\/hd l=93\/hd l=45
  ·rw [if_pos hb] at hR
   subst hR
   have hb2:hd l=-1\/hd l=93\/hd l=45:=by omega
   clear hb zw hge
   rcases hb2 with hb | hb | hb
   all_goals
    have gP:=hide hb
    clear hb
    go_enter Tryz.func342,Tryz.ntmps342
    go_wp2_with (first
     | (go_at_call 251;refine (d_ h gP).mono ?_;clear h;rintro x w1 ⟨rfl,HS⟩)
     | (go_at_call 220;refine (jI HS 2).mono ?_;rintro x w2 ⟨rfl,HU⟩))
    exact ⟨rfl,rfl,HU⟩
  ·rw [if_neg hb] at hR
   obtain ⟨c,hcc⟩:∃ c,hd l=c:=⟨_,rfl⟩
   have gP:=hide hcc
   rw [hcc] at hR zw hb
   have k1:(c==92)=false:=by simpa using zw
   have k2:(c==93)=false:=by simp;omega
   have k3:(c==45)=false:=by simp;omega
   have k4:(c==-1)=false:=by simp;omega
   subst hR
   clear hcc zw hb hge
   go_enter Tryz.func342,Tryz.ntmps342
   go_wp2_with (first
    | (go_at_call 251;refine (d_ h gP).mono ?_;clear h;rintro x w1 ⟨rfl,HS⟩)
    | (go_at_call 252;refine (Ex HS).mono ?_;clear HS;rintro x w2 ⟨rfl,HS⟩))
   go_ret
   exact ⟨rfl,HS⟩
end
end Go.Proofs.YtfolanohokflkaaGreatDoor
namespace Go.Proofs.YtfolanohokflkaaGreatDoor
open Go.RowKit
section
variable {w0 w:World} {b:Nat} {s:ByteArray} {d:Int} {l:List Sy}
def aaK (R:bu af) (w0:World) (b:Nat) (s:ByteArray) (d:Int) (x:Ending) (w':World):Prop:=
 match R with
 | .ok y=>∃ v,x=.returned v/\Hid (w'.ownsRow (b+1) 248 2 v y.1.length (aK y.1))/\Hid (PL w0 w' b s d y.2)
 | .error y=>x=zg y.1 y.2/\Hid (Up b w0 w')
theorem Ui {R:bu af} {f:Nat} {args:Array Value} (H:Calls Tryz.prog f args w (aaK R w0 b s d)) {y:Int×Int} (hR:Hid (R=.error y)) :
  Calls Tryz.prog f args w fun x w'=>x=zg y.1 y.2/\Hid (Up b w0 w'):=by
 rw [aa hR] at H;exact H
theorem Ya {R:bu af} {f:Nat} {args:Array Value} (H:Calls Tryz.prog f args w (aaK R w0 b s d)) {z:af} {l1:List Sy} (hR:Hid (R=.ok (z,l1))) :
  Calls Tryz.prog f args w fun x w'=>∃ v,x=.returned v/\Hid (w'.ownsRow (b+1) 248 2 v z.length (aK z))/\Hid (PL w0 w' b s d l1):=by
 rw [aa hR] at H;exact H
theorem row_one {w':World} {b:Nat} (h:b<w'.heap.size) (lo hi:Int):Hid ((w'.alloc (.cells #[.int .i32 lo,.int .i32 hi] 248)).ownsRow (b+1) 248 2 (.slice (some ⟨w'.heap.size,0,none⟩) 1 1) 1 (aK [(lo,hi)])):=
 World.ownsRow_lit w' #[.int .i32 lo,.int .i32 hi] 1 h (by decide) rfl
theorem PL.alloc (h:Hid (PL w0 w b s d l)) (o:Obj):Hid (PL w0 (w.alloc o) b s d l):=PL.below h ((Below.refl _ w).alloc (Nat.le_refl _) o)
set_option maxRecDepth 100000 in
set_option maxHeartbeats 4000000 in
theorem ZX (h:Hid (PL w0 w b s d l)) :
  Calls Tryz.prog 337 #[.pointer (some ⟨b,0,none⟩)] w (aaK (kH s.size l) w0 b s d):=by
 obtain ⟨R,hR⟩:∃ R,kH s.size l=R:=⟨_,rfl⟩
 rw [hR]
 rw [kH] at hR
 cases hs:isSet l
 ·rw [if_neg (by rw [hs];decide)] at hR
  have HN:=hide hs
  clear hs
  cases h1:fu s.size l with
  | error y=>
   rw [h1] at hR
   have HX:Hid (R=.error y):=hR.symm
   have H1:=hide h1
   clear h1 hR
   go_enter Tryz.func337,Tryz.ntmps337
   go_wp2_with (first
    | (go_at_call 329;refine (iU h HN).mono ?_;clear h;rintro x w1 ⟨rfl,HS⟩)
    | (go_at_call 342;refine (h_ (rD HS) H1).mono ?_;rintro x w2 ⟨rfl,HU⟩))
   rw [aa HX]
   exact ⟨rfl,rfl,HU⟩
  | ok y=>
   obtain ⟨a,l1⟩:=y
   rw [h1] at hR
   dsimp only at hR
   have H1:=hide h1
   clear h1
   by_cases ED:hd l1=45
   ·rw [if_pos ED] at hR
    have HD:=hide ED
    clear ED
    cases h2:fu s.size l1.tail with
    | error y=>
     rw [h2] at hR
     have HX:Hid (R=.error y):=hR.symm
     have H2:=hide h2
     clear h2 hR
     go_enter Tryz.func337,Tryz.ntmps337
     go_wp2_with (first
      | (go_at_call 329;refine (iU h HN).mono ?_;clear h;rintro x w1 ⟨rfl,HS⟩)
      | (go_at_call 342;have H3:=H1;clear H1;refine (dL (rD HS) H3).mono ?_;clear HS;rintro x w2 ⟨rfl,HS⟩)
      | (go_at_call 219;refine (dz HS 45 HD).mono ?_;clear HS;rintro x w2 ⟨rfl,HS⟩)
      | (go_at_call 342;refine (h_ (rD HS) H2).mono ?_;rintro x w2 ⟨rfl,HU⟩))
     rw [aa HX]
     exact ⟨rfl,rfl,HU⟩
    | ok y=>
     obtain ⟨z,l2⟩:=y
     rw [h2] at hR
     dsimp only at hR
     have H2:=hide h2
     clear h2
     by_cases hza:z<a
     ·rw [if_pos hza] at hR
      have HX:Hid (R=.error (3,Ao s.size l2)):=hR.symm
      clear hR
      go_enter Tryz.func337,Tryz.ntmps337
      go_wp2_with (first
       | (go_at_call 329;refine (iU h HN).mono ?_;clear h;rintro x w1 ⟨rfl,HS⟩)
       | (go_at_call 342;have H3:=H1;clear H1;refine (dL (rD HS) H3).mono ?_;clear HS;rintro x w2 ⟨rfl,HS⟩)
       | (go_at_call 219;refine (dz HS 45 HD).mono ?_;clear HS;rintro x w2 ⟨rfl,HS⟩)
       | (go_at_call 342;refine (dL (rD HS) H2).mono ?_;clear HS;rintro x w2 ⟨rfl,HS⟩)
       | (go_at_call 220;refine (jI HS 3).mono ?_;rintro x w2 ⟨rfl,HU⟩))
      rw [aa HX]
      exact ⟨rfl,rfl,HU⟩
     ·rw [if_neg hza] at hR
      have HX:=hide hR.symm
      clear hR
      go_enter Tryz.func337,Tryz.ntmps337
      go_wp2_with (first
       | (go_at_call 329;refine (iU h HN).mono ?_;clear h;rintro x w1 ⟨rfl,HS⟩)
       | (go_at_call 342;have H3:=H1;clear H1;refine (dL (rD HS) H3).mono ?_;clear HS;rintro x w2 ⟨rfl,HS⟩)
       | (go_at_call 219;refine (dz HS 45 HD).mono ?_;clear HS;rintro x w2 ⟨rfl,HS⟩)
       | (go_at_call 342;refine (dL (rD HS) H2).mono ?_;clear HS;rintro x w2 ⟨rfl,HS⟩))
      go_ret
      rw [aa HX]
      exact ⟨_,rfl,row_one (PL.lt HS) _ _,PL.alloc HS _⟩
   ·rw [if_neg ED] at hR
    have HX:=hide hR.symm
    have HD:=hide ED
    clear ED hR
    go_enter Tryz.func337,Tryz.ntmps337
    go_wp2_with (first
     | (go_at_call 329;refine (iU h HN).mono ?_;clear h;rintro x w1 ⟨rfl,HS⟩)
     | (go_at_call 342;have H3:=H1;clear H1;refine (dL (rD HS) H3).mono ?_;clear HS;rintro x w2 ⟨rfl,HS⟩)
     | (go_at_call 219;refine (cu HS 45 HD).mono ?_;clear HS;rintro x w2 ⟨rfl,HS⟩))
    go_ret
    rw [aa HX]
    exact ⟨_,rfl,row_one (PL.lt HS) _ _,PL.alloc HS _⟩
 ·rw [if_pos hs] at hR
  have HX:=hide hR.symm
  have HN:=hide hs
  clear hs hR
  have HPA:=hide (fun w1=>jN w1 (jO l) (by unfold jO;split<;>decide) (bB (vV l)))
  go_enter Tryz.func337,Tryz.ntmps337
  go_wp2_with (first
   | (go_at_call 329;refine (v_ h HN).mono ?_;clear h;rintro x w1 ⟨rfl,HS⟩)
   | (go_at_call 161;refine (aa HPA _).mono ?_;clear HPA;rintro x w2 ⟨v,rfl,hrow,hbw⟩;have hlt:=PL.lt HS;have HRW:=hide (hrow.mono hlt);have HS2:=PL.below HS hbw;clear hrow hbw HS))
  go_ret
  rw [aa HX]
  exact ⟨_,rfl,HRW,HS2⟩
end
end Go.Proofs.YtfolanohokflkaaGreatDoor
