import Derived.Test.YtfolanohokflkaaGreatDoorEaB
import Derived.Test.YtfolanohokflkaaGreatDoorStrA
import Derived.Test.YtfolanohokflkaaGreatDoorTabC
import Derived.Test.YtfolanohokflkaaGreatDoorProg
import Derived.WalkKit
import Derived.WalkSpells
import Derived.WalkLawsBesides
import Derived.WalkMore
import Derived.Deep.QuietTactic
import Derived.BigQuiet
namespace Go.Proofs.YtfolanohokflkaaGreatDoor
open Go.RowKit
def zN (A:List Nat) (p:Nat×Nat):List UInt8:=Lib.decDigits (A.getD p.1 0)++45::Lib.decDigits (A.getD p.2 0)
theorem aap {A:List Nat} (hA:∀ j,A.getD j 0<100) (p:Nat×Nat):(zN A p).length<=5:=by
 have h1:=t_ (hA p.1)
 have h2:=t_ (hA p.2)
 simp only [zN,List.length_append,List.length_cons]
 omega
def LC (A:List Nat) (l:List (Nat×Nat)):List UInt8:=Lib.join (l.map (zN A)) [44]
theorem QE {A:List Nat} (hA:∀ j,A.getD j 0<100) (l:List (Nat×Nat)):(LC A l).length<=l.length*6:=by
 have:=LB (M:=5) (sep:=[44]) (l.map (zN A)) (fun x hx=>by
  obtain ⟨p,_,rfl⟩:=List.mem_map.1 hx
  exact aap hA p)
 simpa [LC] using this
theorem acC {A:List Nat} (p:Nat×Nat):(⟨(Lib.decDigits (A.getD p.1 0)).toArray⟩:ByteArray)++⟨#[45]⟩++⟨(Lib.decDigits (A.getD p.2 0)).toArray⟩=tx (zN A p):=by
 apply ByteArray.ext
 simp [zN]
end Go.Proofs.YtfolanohokflkaaGreatDoor
namespace Go.Proofs.YtfolanohokflkaaGreatDoor
open Go.RowKit
open Tm (eps)
theorem Xy {w w':World} {B:Nat} {e:TypeId} {s n:Nat} {v:Value} {xs:List Value} (h:w.ownsRow B e s v n xs) (hk:∀ g,v.ownBlock=some g->w'.heap[g]? = w.heap[g]?):w'.ownsRow B e s v n xs:=by
 obtain ⟨h1,h2 | ⟨g,cap,cur,rfl,a,b,c⟩⟩:=h
 ·exact ⟨h1,.inl h2⟩
 ·exact ⟨h1,.inr ⟨g,cap,cur,rfl,a,(hk g rfl).trans b,c⟩⟩
theorem Od {w:World} {B:Nat} {e:TypeId} {s n:Nat} {v:Value} {xs:List Value} (h:w.ownsRow B e s v n xs) {g:Nat} (hv:v.ownBlock=some g):B<=g/\∃ cur,w.heap[g]? = some (.cells cur e (0,0)):=by
 obtain ⟨h1,⟨rfl,-⟩ | ⟨g',cap,cur,rfl,a,b,-⟩⟩:=h
 ·cases hv
 ·have:g'=g:=by simpa [Value.ownBlock] using hv
  subst this
  exact ⟨a,cur,b⟩
theorem set2 {W:World} {k:Nat} {x0 y0 x y:Value} {ty:TypeId} (h:W.heap[k]? = some (.cells #[x0,y0] ty)):((W.setCell ⟨k,0,none⟩ x).setCell ⟨k,1,none⟩ y).heap[k]? = some (.cells #[x,y] ty):=
 heap_setCell_same _ _ _ _ _ _ (heap_setCell_same W k 0 _ _ x h)
theorem Oe (W:World) (k:Nat) (x y:Value):W.grownBy ((W.setCell ⟨k,0,none⟩ x).setCell ⟨k,1,none⟩ y) (some k):=
 ⟨rfl,rfl,rfl,by simp [World.setCell],fun j _ hj=>by
  have hj:j≠k:=fun e=>hj (by rw [e])
  exact (Below.heap_setCell _ ⟨k,1,none⟩ y j hj).trans (Below.heap_setCell W ⟨k,0,none⟩ x j hj)⟩
theorem LD {w:World} {b:Nat} {e p:Int} {t:TypeId} (h:w.heap[b]? = some (.cells #[.int .i64 e,.int .i64 p] t)):w.cell? ⟨b,0,none⟩=some (.int .i64 e)/\w.cell? ⟨b,1,none⟩=some (.int .i64 p)/\∀ k,w.frozen? ⟨b,k,none⟩=false:=by
 refine ⟨?_,?_,fun k=>?_⟩<;>simp [World.cell?,World.frozen?,h]
def aaq (v:Value):Nat:=match v with
 | .slice _ n _=>n
 | _=>0
set_option maxRecDepth 100000 in
set_option maxHeartbeats 8000000 in
theorem acD {V:qQ} {Bs:List Int} {G:List Gx} {Vd:Tm->Int->Prop} {q0:Tm} {w:World} {b0 sb mb tb:Nat} {KP:Nat->Prop} {Bd:Int} {n0:Nat} {L:List Int} {ao:Option Addr} {cap:Nat}
  (yR:Bs.length<=480) (hS:Kn G Vd) (h:Hid (kV Bs G q0 n0 Bd V w w b0 mb tb KP)) (ha:Hid (vv w sb mb tb Bd n0 L ao cap KP)) (hL:L.length<=60) (hsy:∀ k,k<L.length->aF (L.getD k 0)=true) (hV:∀ b k,b+k<L.length->Vd (aI q0 ((L.drop b).take k)) (L.getD (b+k) 0)) :
  Calls Tryz.prog 47 #[.pointer (some ⟨sb,0,none⟩)] w (EaO Bs G q0 n0 Bd (fun z=>V z\/Lx q0 L 0 z) w b0 mb tb KP (Hz q0 L 0)):=by
 obtain ⟨V',hV'⟩:∃ V':qQ,(fun z=>V z\/Lx q0 L 0 z)=V':=⟨_,rfl⟩
 rw [hV']
 have HVE:Hid (∀ y,V' y↔(V y\/Lx q0 L 0 y)):=fun y=>by rw [<-hV']
 clear hV'
 obtain ⟨l',hl'⟩:∃ l',Hz q0 L 0=l':=⟨_,rfl⟩
 rw [hl']
 have HLE:=hide hl'
 clear hl'
 have HF:Hid (∀ (Vk:qQ) (wr:World) (KQ:Nat->Prop) (k:Nat),Hid (kV Bs G q0 n0 Bd Vk wr wr b0 mb tb KQ)->Hid (vv wr sb mb tb Bd n0 L ao cap KQ)->k<=L.length+1->∃ o,Hid (pV q0 L k=o)/\Hid (Calls Tryz.prog 44 #[.pointer (some ⟨sb,0,none⟩),.int .i64 (k:Int)] wr fun e w'=>(e=vF 7 0/\Hid (Below b0 wr w')/\Hid (Aq Bs Bd (fun z=>Vk z\/vI q0 L k z)))\/(e=.returned (.tuple #[.agg #[.int .i64 (((o.getD (0,0)).1:Nat):Int),.int .i64 (((o.getD (0,0)).2:Nat):Int)],.bool o.isSome])/\Hid (kV Bs G q0 n0 Bd (fun z=>Vk z\/vI q0 L k z) wr w' b0 mb tb KQ)))):=fun Vk wr KQ k h1 h2 h3=>⟨_,hide rfl,hide (QD yR hS h1 h2 hL h3 hsy hV)⟩
 clear yR hS hsy hV
 obtain ⟨o0,HO0,HF0⟩:=aa HF V w KP 0 h ha (Nat.zero_le _)
 have hb0:=(aa h).size
 have hw0:=aa h
 clear hw0
 go_enter Tryz.func47,Tryz.ntmps47
 go_wp2_with (go_at_call 44;refine (aa HF0).mono ?_;clear HF0;rintro x w1 (⟨rfl,HB1,xS⟩ | ⟨rfl,eO⟩))
 ·refine ⟨rfl,.inl ⟨rfl,HB1,hide ((aa xS).mono fun y hy=>(aa HVE y).2 (hy.imp_right fun q=>?_))⟩⟩
  cases hf:pV q0 L 0 with
  | none=>exact (sQ (Nat.zero_le _) hf y).2 q
  | some p=>exact (p8 (Nat.zero_le _) hf y).2 (.inl q)
 ·have hs1:w.heap.size<=w1.heap.size:=(aa eO).below.size
  have HNP:Hid (¬ KP w1.heap.size):=fun q=>absurd ((aa eO).yE q).1 (Nat.lt_irrefl _)
  go_loopw [3,5] (fun v f wr=>∃ (d:List (Nat×Nat)) (k:Nat) (o:Option (Nat×Nat)) (Vk:qQ),f=.bool o.isSome/\aaq v=d.length/\Hid (k<=L.length+1/\pV q0 L k=o/\d.length<=k)/\Hid (l'=d++Hz q0 L k)/\Hid (∀ y,V' y↔(Vk y\/Lx q0 L k y))/\Hid (∀ y,vI q0 L k y->Vk y)/\Hid (wr.ownsRow (w1.heap.size+1) 72 2 v d.length (TC d))/\Hid (wr.heap[w1.heap.size]? = some (.cells #[.int .i64 (((o.getD (0,0)).1:Nat):Int),.int .i64 (((o.getD (0,0)).2:Nat):Int)] 72 (0,0)))/\Hid (kV Bs G q0 n0 Bd Vk w wr b0 mb tb KP)) (fun v _ _=>L.length+2 - aaq v)
  case atStart=>
   have hal:∀ ob,w1.grownBy (w1.alloc ob) none:=fun ob=>⟨rfl,rfl,rfl,by simp,fun k hk _=>heap_alloc_old _ _ hk⟩
   have mg:=kV.grow eO (hal (.cells #[.int .i64 (((o0.getD (0,0)).1:Nat):Int),.int .i64 (((o0.getD (0,0)).2:Nat):Int)] 72)) fun k hk=>by cases hk
   refine ⟨[],0,o0,_,rfl,rfl,⟨Nat.zero_le _,aa HO0,Nat.le_refl _⟩,?_,?_,?_,World.ownsRow_nil _ _ _ _,hide (heap_alloc_new _ _),mg⟩
   ·rw [<-aa HLE];rfl
   ·intro y
    rw [aa HVE y]
    refine ⟨fun h=>h.imp_left .inl,fun h=>h.elim (fun h=>h.elim .inl fun q=>.inr ?_) .inr⟩
    cases hf:pV q0 L 0 with
    | none=>exact (sQ (Nat.zero_le _) hf y).2 q
    | some p=>exact (p8 (Nat.zero_le _) hf y).2 (.inl q)
   ·exact fun y h=>.inr h
  case round=>
   obtain ⟨d,k,o,Vk,rfl,hst,HK,HLD,X3,HFV,HOW,HRB,Al⟩:=hrel
   obtain ⟨ao5,cp,rfl,-⟩:=aN (aa HOW)
   clear hst
   cases o with
   | none=>
    have HEN:Hid (l'=d/\∀ y,V' y↔Vk y):=by
     have hf:=(aa HK).2.1
     refine ⟨by rw [aa HLD,Dx hf,List.append_nil],fun y=>?_⟩
     rw [aa X3 y]
     exact ⟨fun h=>h.elim id fun q=>aa HFV y ((sQ (aa HK).1 hf y).1 q),.inl⟩
    clear HF
    go_wp2_with fail
    go_ret
    refine .inr ⟨_,rfl,?_,kV.congr Al fun y=>((aa HEN).2 y).symm⟩
    rw [(aa HEN).1]
    exact dU (aa HOW) (by omega)
   | some p=>
    obtain ⟨x,e⟩:=p
    have c0:wr.cell? ⟨w1.heap.size,0,none⟩=some (.int .i64 (x:Int)):=by have:=aa HRB;simp [World.cell?,this]
    have c1:wr.cell? ⟨w1.heap.size,1,none⟩=some (.int .i64 (e:Int)):=by have:=aa HRB;simp [World.cell?,this]
    obtain ⟨hk1,hk2,hk3⟩:=aa HK
    obtain ⟨hx1,hx2,hx3⟩:=qI hk1 hk2
    have hdl:d.length<=100000000000:=by omega
    have hsz5:w1.heap.size+1<=wr.heap.size:=(Array.getElem?_eq_some_iff.1 (aa HRB)).1
    obtain ⟨kk,hkk⟩:∃ kk,max (x+1) e=kk:=⟨_,rfl⟩
    have HX:Hid (l'=(d++[(x,e)])++Hz q0 L kk/\∀ y,V' y↔((Vk y\/vI q0 L kk y)\/Lx q0 L kk y)):=by
     subst hkk
     refine ⟨by rw [aa HLD,Dy hk1 hk2];simp,fun y=>?_⟩
     rw [aa X3 y,p8 hk1 hk2 y]
     have hfr:vI q0 L (max (x+1) e) y->Lx q0 L (max (x+1) e) y:=fun q=>by
      cases hf:pV q0 L (max (x+1) e) with
      | none=>exact (sQ (by omega) hf y).2 q
      | some p=>exact (p8 (by omega) hf y).2 (.inl q)
     exact ⟨fun h=>h.elim (fun q=>.inl (.inl q)) fun q=>q.elim (fun r=>.inl (.inl (aa HFV y r))) .inr,fun h=>h.elim (fun q=>q.elim .inl fun r=>.inr (.inr (hfr r))) fun q=>.inr (.inr q)⟩
    have HN:Hid (∀ (g5 cap5:Nat) (w5:World),Hid (w5.ownsRow (w1.heap.size+1) 72 2 (.slice (some ⟨g5,0,none⟩) (d.length+1) cap5) (d.length+1) (TC d++[.int .i64 (x:Int),.int .i64 (e:Int)]))->Hid (wr.grownBy w5 (Value.slice ao5 d.length cp).ownBlock)->w5.cell? ⟨w1.heap.size,0,none⟩=some (.int .i64 (x:Int))/\w5.cell? ⟨w1.heap.size,1,none⟩=some (.int .i64 (e:Int))/\∃ o',Hid (pV q0 L kk=o')/\Hid (Calls Tryz.prog 44 #[.pointer (some ⟨sb,0,none⟩),.int .i64 (kk:Int)] w5 fun er w'=>(er=vF 7 0/\Hid (Below b0 w w')/\Hid (Aq Bs Bd V'))\/(er=.returned (.tuple #[.agg #[.int .i64 (((o'.getD (0,0)).1:Nat):Int),.int .i64 (((o'.getD (0,0)).2:Nat):Int)],.bool o'.isSome])/\(∃ y0 y1,w'.cell? ⟨w1.heap.size,0,none⟩=some (.int .i64 y0)/\w'.cell? ⟨w1.heap.size,1,none⟩=some (.int .i64 y1)/\∀ j,w'.frozen? ⟨w1.heap.size,j,none⟩=false)/\Hid (∀ w7,((w'.setCell ⟨w1.heap.size,0,none⟩ (.int .i64 (((o'.getD (0,0)).1:Nat):Int))).setCell ⟨w1.heap.size,1,none⟩ (.int .i64 (((o'.getD (0,0)).2:Nat):Int)))=w7->Hid (w7.ownsRow (w1.heap.size+1) 72 2 (.slice (some ⟨g5,0,none⟩) (d.length+1) cap5) (d++[(x,e)]).length (TC (d++[(x,e)])))/\Hid (w7.heap[w1.heap.size]? = some (.cells #[.int .i64 (((o'.getD (0,0)).1:Nat):Int),.int .i64 (((o'.getD (0,0)).2:Nat):Int)] 72 (0,0)))/\Hid (kV Bs G q0 n0 Bd (fun z=>Vk z\/vI q0 L kk z) w w7 b0 mb tb KP))))):=by
     intro g5 cap5 w5 hO5 hG5
     have hne:some w1.heap.size≠(Value.slice ao5 d.length cp).ownBlock:=fun q=>by have:=(Od (aa HOW) q.symm).1;omega
     have acE:w5.heap[w1.heap.size]? = _:=((aa hG5).block _ (by omega) hne).trans (aa HRB)
     have xE:=kV.grow Al (aa hG5) fun k' hk'=>by
      obtain ⟨q1,cur,q2⟩:=Od (aa HOW) hk'
      exact ⟨by omega,fun q=>by have:=((aa h).yE q).1;omega,cur,_,q2⟩
     obtain ⟨q5,afc,q6⟩:=Od (aa hO5) (g:=g5) rfl
     have hKQ:∀ k',(KP k'\/k'=w1.heap.size\/k'=g5)->KP k'\/∃ cur z,w5.heap[k']? = some (.cells cur 72 z):=by
      rintro k' (q | rfl | rfl)
      ·exact .inl q
      ·exact .inr ⟨_,_,acE⟩
      ·exact .inr ⟨_,_,q6⟩
     have Jk:=kV.re xE (KP':=fun k'=>KP k'\/k'=w1.heap.size\/k'=g5) hKQ
     have HA6:=vv.re ha xE (KP':=fun k'=>KP k'\/k'=w1.heap.size\/k'=g5) fun _ q=>.inl q
     obtain ⟨o',HO',HC'⟩:=aa HF Vk w5 _ kk Jk HA6 (by omega)
     obtain ⟨d0,d1,-⟩:=LD acE
     refine ⟨d0,d1,o',HO',hide ((aa HC').mono ?_)⟩
     rintro er w' (⟨rfl,hb',ho'⟩ | ⟨rfl,hs'⟩)
     ·exact .inl ⟨rfl,hide ((aa xE).below.trans (aa hb')),hide ((aa ho').mono fun y hy=>(aa HX).2 y |>.2 (.inl hy))⟩
     ·have acF:w'.heap[w1.heap.size]? = _:=((aa hs').yE (k:=w1.heap.size) (.inr (.inl rfl))).2.trans acE
      have hg6:=((aa hs').yE (k:=g5) (.inr (.inr rfl))).2
      obtain ⟨d2,d3,df⟩:=LD acF
      refine .inr ⟨rfl,⟨_,_,d2,d3,df⟩,?_⟩
      rintro w7 rfl
      have hgr:=Oe w' w1.heap.size (.int .i64 (((o'.getD (0,0)).1:Nat):Int)) (.int .i64 (((o'.getD (0,0)).2:Nat):Int))
      refine ⟨?_,hide (set2 acF),kV.grow (kV.under xE hs' fun _ q=>.inl q) hgr fun k' hk'=>?_⟩
      ·show World.ownsRow _ _ _ _ _ _ _
       rw [aam,List.length_append]
       refine Xy (aa hO5) fun g hg=>?_
       have:g5=g:=by simpa [Value.ownBlock] using hg
       subst this
       exact (hgr.block _ (by have:=(Array.getElem?_eq_some_iff.1 q6).1;have:=(aa hs').below.size;omega) (fun q=>by injection q with q;omega)).trans hg6
      ·injection hk' with hk'
       subst hk'
       exact ⟨by omega,aa HNP,_,_,acF⟩
    clear HF Al HRB HLD X3 HFV
    have hxI:(x:Int)<=60:=by omega
    have LY:(kk:Int)=max ((x:Int)+1) (e:Int):=by omega
    rw [LY] at HN
    clear HVE HLE h ha HK HO0 eO HNP
    go_wp2_with (first
     | (at_builtin;refine aal Tryz.underlying81 aak rfl (by decide) (by decide) (w1.heap.size+1) wr _ _ [.int .i64 (x:Int),.int .i64 (e:Int)] _ (.tmp 12) (.tmp 14) rfl rfl rfl wr.heap.size rfl rfl HOW hsz5 hdl rfl (by intro u hu;simp at hu;rcases hu with rfl | rfl<;>rfl) ?_;intro g5 cap5 w5 oM PQ;obtain ⟨d0,d1,o',HO',HC'⟩:=aa HN g5 cap5 w5 oM PQ;clear HN oM PQ c0 c1)
     | (go_at_call 44;refine (aa HC').mono ?_;clear HC';rintro ex w6 (⟨rfl,Dz,Mg⟩ | ⟨rfl,⟨y0,y1,f0,f1,ff⟩,H7⟩);(exact ⟨rfl,.inl ⟨rfl,Dz,Mg⟩⟩);clear d0 d1))
    go_roundw
    case rel=>
     obtain ⟨a1,a2,a3⟩:=aa H7 _ rfl
     exact ⟨d++[(x,e)],kk,o',_,rfl,by simp [aaq],⟨by omega,aa HO',by simp;omega⟩,hide (aa HX).1,hide (aa HX).2,hide fun y q=>.inr q,a1,a2,a3⟩
    case measure=>simp [aaq];omega
inductive Eb (q:Tm) (L:List Int):Nat->Prop
 | zero:Eb q L 0
 | next {b:Nat} {p:Nat×Nat}:Eb q L b->pV q L b=some p->Eb q L (max (p.1+1) p.2)
theorem Eb.le {q:Tm} {L:List Int} {b:Nat} (h:Eb q L b):b<=L.length+1:=by
 induction h with
 | zero=>exact Nat.zero_le _
 | @next b p _ hf ih=>
  obtain ⟨-,h2,h3⟩:=qI (x:=p.1) (e:=p.2) ih hf
  omega
theorem ad4 {q:Tm} {L:List Int} {b:Nat} (hb:b<=L.length+1) {y:Tm} (h:vI q L b y):Lx q L b y:=by
 cases hf:pV q L b with
 | none=>exact (sQ hb hf y).2 h
 | some p=>exact (p8 hb hf y).2 (.inl h)
theorem Eb.sub {q:Tm} {L:List Int} {b:Nat} (h:Eb q L b) {y:Tm} (hy:Lx q L b y):Lx q L 0 y:=by
 induction h with
 | zero=>exact hy
 | next h' hf ih=>exact ih ((p8 h'.le hf y).2 (.inr hy))
theorem Eb.fr {q:Tm} {L:List Int} {b:Nat} (h:Eb q L b) {y:Tm} (hy:vI q L b y):Lx q L 0 y:=h.sub (ad4 h.le hy)
end Go.Proofs.YtfolanohokflkaaGreatDoor
namespace Go.Proofs.YtfolanohokflkaaGreatDoor
open Go.RowKit
def dg (k:Nat):ByteArray:=⟨#[(48+k).toUInt8]⟩
theorem acG:∀ k:Fin 10,((⟨#[48,49,50,51,52,53,54,55,56,57]⟩:ByteArray).extract k.val (k.val+1)).data=(dg k.val).data:=by decide +kernel
theorem Xz {k:Nat} (h:k<10):(⟨#[48,49,50,51,52,53,54,55,56,57]⟩:ByteArray).extract k (k+1)=dg k:=ByteArray.ext (acG ⟨k,h⟩)
def XA (n:Nat):ByteArray:=if n<=9 then dg n else dg (n / 10)++dg (n % 10)
theorem aar (k:Nat):(dg k).size=1:=rfl
set_option maxRecDepth 100000 in
set_option maxHeartbeats 4000000 in
theorem LF {w:World} {n:Nat} (hn:n<100) :
  Calls Tryz.prog 27 #[.int .i64 (n:Int)] w fun x w'=>x=.returned (.string (XA n))/\w'=w:=by
 obtain ⟨d,hd⟩:∃ d,n / 10=d:=⟨_,rfl⟩
 obtain ⟨r,hr⟩:∃ r,n % 10=r:=⟨_,rfl⟩
 have hdI:(n:Int) / 10=(d:Int):=by omega
 have hrI:(n:Int) % 10=(r:Int):=by omega
 have hd9:d<=9:=by omega
 have hr9:r<=9:=by omega
 have q:=aar r
 go_enter Tryz.func27,Tryz.ntmps27
 go_wp2_with fail
 go_loopw [0,3] (fun v s wr=>wr=w/\((v=.int .i64 (n:Int)/\s=.string ⟨#[]⟩)\/(9<n/\v=.int .i64 (d:Int)/\s=.string (dg r)))) (fun v _ _=>(intOf v).toNat)
 case atStart=>exact ⟨rfl,.inl ⟨rfl,rfl⟩⟩
 case round=>
  obtain ⟨rfl,⟨rfl,rfl⟩ | ⟨h9,rfl,rfl⟩⟩:=hrel
  ·by_cases h:n<=9
   ·have h1:¬ (9:Int)<(n:Int):=by omega
    go_wp2_with fail
    go_ret
    refine ⟨?_,rfl⟩
    unfold XA
    rw [if_pos h,<-Xz (by omega),show ∀ b:ByteArray,b++⟨#[]⟩=b from fun b=>ByteArray.ext (by simp)]
    rfl
   ·have h1:(9:Int)<(n:Int):=by omega
    go_wp2_with fail
    go_roundw
    case rel=>
     refine ⟨trivial,.inr ⟨by omega,rfl,?_⟩⟩
     rw [Xz (k:=r) (by omega),show ∀ b:ByteArray,b++⟨#[]⟩=b from fun b=>ByteArray.ext (by simp)]
    case measure=>simp [intOf];omega
  ·have h1:¬ (9:Int)<(d:Int):=by omega
   go_wp2_with fail
   go_ret
   refine ⟨?_,rfl⟩
   unfold XA
   rw [if_neg (by omega),hd,hr,Xz (by omega)]
   rfl
def ad5 (W:World) (g:Nat) (A:List Nat):Prop:=∀ k,k<A.length->W.cell? ⟨g,k,none⟩=some (.int .i64 ((A.getD k 0:Nat):Int))
set_option maxRecDepth 100000 in
set_option maxHeartbeats 4000000 in
theorem Og {w:World} {g cap j x:Nat} {A:List Nat} (hr:Hid (ad5 w g A)) (hA:A.length<=1000) (hj:j<A.length) (hx:A.getD j 0=x) (hne:Hid (∀ k,k<A.length->A.getD k 0=x->k=j)) :
  Calls Tryz.prog 28 #[.slice (some ⟨g,0,none⟩) A.length cap,.int .i64 (x:Int)] w fun e w'=>e=.returned (.int .i64 (if j+1<A.length then ((A.getD (j+1) 0:Nat):Int) else -1))/\w'=w:=by
 obtain ⟨R,hR⟩:∃ R,(if j+1<A.length then ((A.getD (j+1) 0:Nat):Int) else -1)=R:=⟨_,rfl⟩
 rw [hR]
 go_enter Tryz.func28,Tryz.ntmps28
 go_wp2_with fail
 go_loopw [5] (fun v wr=>wr=w/\∃ k,k<=j/\v=.int .i64 (k:Int)) (fun v _=>A.length - (intOf v).toNat)
 case atStart=>exact ⟨rfl,0,Nat.zero_le _,rfl⟩
 case round=>
  obtain ⟨rfl,k,hk,rfl⟩:=hrel
  by_cases h:k+1<A.length
  ·have hI:(k:Int)+1<(A.length:Int):=by omega
   have c0:=aa hr k (by omega)
   have c1:=aa hr (k+1) h
   by_cases e:k=j
   ·subst e
    rw [if_pos h] at hR
    rw [hx] at c0
    generalize A.getD (k+1) 0=y at c1 hR
    subst hR
    clear hr hne hx
    go_wp2_with fail
    go_ret
    exact ⟨rfl,rfl⟩
   ·have hxe:¬ A.getD k 0=x:=fun q=>e (aa hne k (by omega) q)
    generalize A.getD k 0=y at *
    have hyI:¬ ((y:Int)=(x:Int)):=by omega
    clear hr hne hx c1
    go_wp2_with fail
    go_roundw
    case rel=>exact ⟨trivial,k+1,by omega,by go_num⟩
    case measure=>simp [intOf];omega
  ·have hI:¬ (k:Int)+1<(A.length:Int):=by omega
   rw [if_neg (by omega)] at hR
   subst hR
   clear hr hne hx
   go_wp2_with fail
   go_ret
   exact ⟨rfl,rfl⟩
end Go.Proofs.YtfolanohokflkaaGreatDoor
