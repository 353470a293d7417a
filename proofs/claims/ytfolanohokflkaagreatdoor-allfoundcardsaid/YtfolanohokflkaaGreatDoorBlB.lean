import Derived.Test.YtfolanohokflkaaGreatDoorSgD
import Derived.Test.YtfolanohokflkaaGreatDoorBlW
import Derived.Defers
import Derived.Recover
import Derived.Deep.QuietTactic
import Derived.BigQuiet
import Derived.Test.YtfolanohokflkaaGreatDoorBgB
import Derived.Deep.RegionHeld3
import Derived.Test.YtfolanohokflkaaGreatDoorPrI
namespace Go.Proofs.YtfolanohokflkaaGreatDoor
open Go.RowKit
open Tm (eps)
section
variable {w w1 w2:World} {k4 k5 n:Nat} {o:Option (Nat×Nat)}
theorem xB.after (h:xB w1 w2 k4 k5 o) (hb:Below w.heap.size w w1):xB w w2 k4 k5 o:=
 ⟨h.os.trans hb.os,h.tape.trans hb.tape,h.output.trans hb.output,Nat.le_trans hb.size h.size,fun k hk a b=>(h.block k (Nat.lt_of_lt_of_le hk hb.size) a b).trans (hb.block k hk),h.c0,h.c1,h.c2⟩
theorem xB.mr (h:xB w w2 k4 k5 o) (j:Nat) (u:Value) (hn:w.heap.size<=n) (h4:k4≠n) (h5:k5≠n):xB w (w2.setCell ⟨n,j,none⟩ u) k4 k5 o:=by
 have e:∀ k,k≠n->(w2.setCell ⟨n,j,none⟩ u).heap[k]? = w2.heap[k]? := fun k hk=>Below.heap_setCell w2 ⟨n,j,none⟩ u k hk
 refine ⟨h.os,h.tape,h.output,by have:=h.size;simpa [World.setCell] using this,fun k hk a b=>(e k (by omega)).trans (h.block k hk a b),?_,?_,?_⟩
 ·rw [World.cell?_of_block (a:=⟨k4,0,none⟩) (e k4 h4)];exact h.c0
 ·rw [World.cell?_of_block (a:=⟨k4,1,none⟩) (e k4 h4)];exact h.c1
 ·rw [World.cell?_of_block (a:=⟨k5,0,none⟩) (e k5 h5)];exact h.c2
end
end Go.Proofs.YtfolanohokflkaaGreatDoor
namespace Go.Proofs.YtfolanohokflkaaGreatDoor
open Go.RowKit
def aaU (t:ByteArray):Prop:=∀ (W:World) (i:Nat),Hid (Lib.Utf8Tabs 4 5 W)->i<=t.size->Calls Tryz.prog 25 #[.string ⟨#[40,41]⟩,.string t,.int .i64 (i:Int),.int .i64 200] W fun x w'=>x=.returned (.tuple #[.int .i64 (if i∈pts t then (i:Int) else 0),.int .i64 (if i∈pts t then (i:Int) else 0),.int .i64 (if i∈pts t then 0 else 6)])/\Hid (Below W.heap.size W w')
theorem Xk (l:List Nat) (i:Nat):ints (ay (l++[i]))=ints (ay l)++[.int .i64 (i:Int)]:=by simp [ints,ay]
theorem nX {w:World} {B g n cap k:Nat} {l:List Nat} (h:w.ownsRow B 3 1 (.slice (some ⟨g,0,none⟩) n cap) n (ints (ay l))) (hk:k<l.length):w.cell? ⟨g,k,none⟩=some (.int .i64 (l[k]:Int)):=by
 have:=h.cells rfl k (.int .i64 (l[k]:Int)) (by simp [ints,ay,hk])
 have e:(⟨g,0,none⟩:Addr).add k=⟨g,k,none⟩:=by cases k<;>simp [Addr.add]
 rwa [e] at this
def StR (t:ByteArray) (w:World) (e:Ending) (w':World):Prop:=∃ g cap,e=.returned (.tuple #[.slice (some ⟨g,0,none⟩) (pts t).length cap,.bool true])/\Hid (Below w.heap.size w w')/\Hid (w'.ownsRow w.heap.size 3 1 (.slice (some ⟨g,0,none⟩) (pts t).length cap) (pts t).length (ints (ay (pts t))))
set_option maxRecDepth 100000 in
set_option maxHeartbeats 4000000 in
theorem N9 {w:World} {t:ByteArray} (hs:t.size<=60) (ht:Hid (Lib.Utf8Tabs 4 5 w)) (HF:Hid (aaU t)):Calls Tryz.prog 21 #[.string t] w (StR t w):=by
 go_enter Tryz.func21,Tryz.ntmps21
 go_wp2_with fail
 go_loopw [4,5] (fun l i wr=>∃ (k:Nat) (ao:Option Addr) (cap:Nat),k<=t.size+1/\i=.int .i64 (k:Int)/\l=.slice ao (lJ t k).length cap/\Hid (wr.ownsRow w.heap.size 3 1 (.slice ao (lJ t k).length cap) (lJ t k).length (ints (ay (lJ t k))))/\Hid (Below w.heap.size w wr)) (fun _ i _=>t.size+1 - (intOf i).toNat)
 case atStart=>exact ⟨0,none,0,Nat.zero_le _,rfl,rfl,World.ownsRow_nil _ _ _ _,Below.refl _ _⟩
 case round=>
  obtain ⟨k,ao,cap,hk,rfl,rfl,HO,HB⟩:=hrel
  have hws:w.heap.size<=wr.heap.size:=(aa HB).size
  have nR:=aab t k
  by_cases hlt:k<=t.size
  ·have HC:=hide (aa HF wr k (jE ht HB) hlt)
   have LY:(k:Int)<=(t.size:Int):=by omega
   by_cases hm:k∈pts t
   ·rw [if_pos hm,if_pos hm] at HC
    have HL:=hide (aaa hm)
    clear hm
    go_wp2_with (first
     | (go_at_call 25;refine (aa HC).mono ?_;clear HC;rintro x w2 ⟨rfl,HB2⟩;have jh:=hide (own_below (aa HO) (aa HB2) (Nat.le_refl _));have HB3:=jF HB HB2;have aeK:w.heap.size<=w2.heap.size:=(aa HB3).size)
     | (at_builtin;refine jK Tryz.underlying31 gP rfl (by decide) (by decide) w.heap.size w w2 _ _ [.int .i64 (k:Int)] _ (.tmp 32) (.tmp 34) rfl rfl rfl w2.heap.size rfl rfl jh HB3 aeK (by omega) rfl (by intro u hu;simp at hu;rw [hu];rfl) ?_;intro g5 cap5 w5 oM kz FM))
    go_roundw
    case rel=>
     refine ⟨k+1,some ⟨g5,0,none⟩,cap5,by omega,by go_num,?_,?_,kz⟩
     ·rw [aa HL,List.length_append];rfl
     ·show World.ownsRow _ _ _ _ _ _ _
      rw [aa HL,Xk,List.length_append]
      exact oM
    case measure=>simp [intOf];omega
   ·rw [if_neg hm,if_neg hm] at HC
    have HL:=hide (acv hm)
    clear hm
    go_wp2_with (go_at_call 25;refine (aa HC).mono ?_;clear HC;rintro x w2 ⟨rfl,HB2⟩;have jh:=hide (own_below (aa HO) (aa HB2) (Nat.le_refl _));have HB3:=jF HB HB2)
    go_roundw
    case rel=>
     refine ⟨k+1,ao,cap,by omega,by go_num,?_,?_,HB3⟩
     ·rw [aa HL]
     ·rw [aa HL];exact jh
    case measure=>simp [intOf];omega
  ·have hk2:k=t.size+1:=by omega
   have LY:¬ (k:Int)<=(t.size:Int):=by omega
   have hlow:lJ t k=pts t:=by rw [hk2,Z_]
   rw [hlow] at HO ⊢
   clear hk2 hk hlt nR hlow
   have hpos:=oG t
   obtain ⟨g,rfl⟩:∃ g,ao=some ⟨g,0,none⟩:=by
    obtain ⟨_,⟨_,h0⟩ | ⟨g,cap',cur,e1,_⟩⟩:=aa HO
    ·omega
    ·injection e1 with e1
     exact ⟨g,e1⟩
   have p0:wr.cell? ⟨g,0,none⟩=some (.int .i64 0):=by
    have:=nX (aa HO) hpos
    rw [FB] at this
    exact this
   have p1:wr.cell? ⟨g,(pts t).length - 1,none⟩=some (.int .i64 (t.size:Int)):=by
    have:=nX (aa HO) (k:=(pts t).length - 1) (by omega)
    rw [Xh] at this
    exact this
   have hpf:=qH t
   have HE:Hid (∀ (e:Ending) (q:Nat),e=.returned (.tuple #[.slice (some ⟨g,0,none⟩) (pts t).length cap,.bool true])->StR t w e (wr.drewN q)):=fun e q he=>⟨g,cap,he,⟨(aa HB).os,(aa HB).tape,(aa HB).output,(aa HB).size,(aa HB).block⟩,HO⟩
   clear HO HB HF
   generalize hN:(pts t).length=N at *
   obtain ⟨N',rfl⟩:∃ N',N=N'+1:=⟨N - 1,by omega⟩
   rw [Nat.add_sub_cancel] at p1
   go_wp2_with fail
   go_quiet (fail)
   go_wp2_with fail
   go_ret2
   exact aa HE _ _ rfl
end Go.Proofs.YtfolanohokflkaaGreatDoor
namespace Go.Proofs.YtfolanohokflkaaGreatDoor
open Go.RowKit
open Tm (eps)
theorem Xl (s:ByteArray):gu s=vals (ai s 0):=by
 have key:∀ (d p:Nat),s.size - p<=d->p<=s.size->yF s d p=vals (ai s p):=by
  intro d
  induction d with
  | zero=>intro p h hp;rw [fB s p (by omega)];rfl
  | succ d ih=>
   intro p h hp
   rw [yF]
   by_cases q:p<s.size
   ·have hw:=eG s p q
    rw [if_pos q,ib s p q,ih _ (by omega) hw.2]
    rfl
   ·rw [if_neg q,fB s p (by omega)]
    rfl
 exact key s.size 0 (by omega) (Nat.zero_le _)
theorem lK (s:ByteArray):(pts s).length=(gu s).length+1:=by rw [Xl,Xg,Ap]
def Hy (s:ByteArray) (x:Nat):Nat:=(pts s).countP (fun y=>decide (y<x))
theorem Lp:∀ {l:List Nat} {x:Nat},l.Pairwise (· < ·)->x∈l->∃ h:l.countP (fun y=>decide (y<x))<l.length,l[l.countP (fun y=>decide (y<x))]=x
 | [],x,_,hx=>by cases hx
 | a::l,x,hp,hx=>by
  rw [List.pairwise_cons] at hp
  by_cases e:a=x
  ·subst e
   have h0:(a::l).countP (fun y=>decide (y<a))=0:=by
    rw [List.countP_eq_zero]
    intro y hy
    rcases List.mem_cons.1 hy with q | q
    ·subst q;simp
    ·have:=hp.1 y q;simp;omega
   rw [h0]
   exact ⟨by simp,rfl⟩
  ·have hx':x∈l:=by
    rcases List.mem_cons.1 hx with q | q
    ·exact absurd q.symm e
    ·exact q
   have hlt:=hp.1 x hx'
   obtain ⟨h1,h2⟩:=Lp hp.2 hx'
   have ec:(a::l).countP (fun y=>decide (y<x))=l.countP (fun y=>decide (y<x))+1:=by
    rw [List.countP_cons_of_pos (by simpa using hlt)]
   rw [ec]
   exact ⟨by simp only [List.length_cons];omega,by rw [List.getElem_cons_succ];exact h2⟩
theorem Hg (s:ByteArray):(pts s).Pairwise (· < ·):=vC s.size 0 (by omega) (Nat.zero_le _)
theorem N_ {s:ByteArray} {x:Nat} (h:x∈pts s):∃ hl:Hy s x<(pts s).length,(pts s)[Hy s x]=x:=Lp (Hg s) h
theorem SX (l:List Nat) (x:Nat):(ay l).countP (fun y=>decide (y<(x:Int)))=l.countP (fun y=>decide (y<x)):=by
 unfold ay
 rw [List.countP_map]
 congr 1
 funext y
 simp [Function.comp]
theorem Hl (l:List Nat) (x:Nat):(ay l).contains (x:Int)=decide (x∈l):=by
 unfold ay
 rw [Bool.eq_iff_iff]
 simp
 constructor
 ·rintro ⟨a,h,e⟩
  have:a=x:=by omega
  exact this▸h
 ·exact fun h=>⟨x,h,rfl⟩
theorem acw {l:List Nat} (h:l.Pairwise (· < ·)):(ay l).Pairwise (·<=·):=by
 unfold ay
 rw [List.pairwise_map]
 exact h.imp fun {a b} q=>by show (a:Int)<=b;omega
theorem Dv {w:World} {g cap B x:Nat} {s:ByteArray} (hs:s.size<=60) (ho:Hid (w.ownsRow B 3 1 (.slice (some ⟨g,0,none⟩) (pts s).length cap) (pts s).length (ints (ay (pts s))))) :
  Calls Tryz.prog 40 #[.slice (some ⟨g,0,none⟩) (pts s).length cap,.int .i64 (x:Int)] w fun e w'=>e=.returned (.tuple #[.int .i64 ((Hy s x:Nat):Int),.bool (decide (x∈pts s))])/\∃ q,w'=w.drewN q:=by
 have hf:=qH s
 have hl:(ay (pts s)).length=(pts s).length:=by simp [ay]
 have h:=Tryz.slices_BinarySearch_int g 0 (pts s).length cap (ay (pts s)) (x:Int) w (by rw [hl];exact Nat.le_refl _) (by omega) (fun j hj=>by
  rw [hl] at hj
  have:=nX (aa ho) hj
  rw [Nat.zero_add,this]
  simp [ay,List.getD,hj]) (by rw [<-hl,List.take_length];exact acw (Hg s))
 rw [<-hl,List.take_length,hl,SX,Hl] at h
 exact h
def fdV (s:ByteArray) (x:Nat) (o:Option (Nat×Nat)):Value:=if x∈pts s then (match o with
  | none=>.tuple #[.int .i64 (-1),.int .i64 (-1),.int .i64 0]
  | some (b,e)=>.tuple #[.int .i64 (((pts s).getD b 0:Nat):Int),.int .i64 (((pts s).getD e 0:Nat):Int),.int .i64 0])
 else .tuple #[.int .i64 0,.int .i64 0,.int .i64 6]
theorem Xm:∀ v:List Int,aI eps v=eps\/aI eps v=aG
 | []=>.inl rfl
 | c::v=>.inr (by show aI (aK c eps) v=aG;rw [A_];exact pU v)
theorem SY {M:List Nat} {a b:Nat} (hn:M.Nodup) (h:∀ n∈M,n=a\/n=b):M.length<=2:=by
 match M,hn,h with
 | [],_,_=>simp
 | [_],_,_=>simp
 | [_,_],_,_=>simp
 | x::y::z::r,hn,h=>
  have hx:=h x (by simp)
  have hy:=h y (by simp)
  have hz:=h z (by simp)
  simp at hn
  omega
theorem aaf (Bs:List Int):¬ Ovr Bs 200 eps:=by
 rintro ⟨T,M,hT,hn,hl,hM⟩
 have h:∀ n∈M,n=1\/n=0:=fun n hn=>by
  obtain ⟨v,hv⟩:=hM n hn
  rcases Xm v with e | e
  ·rw [e] at hv;exact .inl (hT.inj _ _ _ hv hT.r1)
  ·rw [e] at hv;exact .inr (hT.inj _ _ _ hv hT.r0)
 have:=SY hn h
 omega
theorem QC {L:List Int} {b:Nat}:∀ k,b+k<=L.length+1->0<k->KF eps L b k=some b
 | 0,_,h=>by omega
 | 1,_,_=>rfl
 | k+2,hk,_=>by
  show (if CX eps L b (k+1)=true then some (b+(k+1)) else KF eps L b (k+1))=some b
  have e:CX eps L b (k+1)=false:=by
   unfold CX
   cases hd:(L.drop b).take (k+1) with
   | nil=>
    have:=congrArg List.length hd
    rw [List.length_take,List.length_drop] at this
    simp at this
    omega
   | cons c v=>
    have:aI eps (c::v)=aG:=by show aI (aK c eps) v=aG;rw [A_];exact pU v
    rw [this]
    rfl
  rw [if_neg (by rw [e];decide)]
  exact QC (k+1) (by omega) (by omega)
theorem Xn {L:List Int} {b:Nat} (h:b<=L.length):pV eps L b=some (b,b):=by
 rw [KI h]
 have:Sq eps L b=some b:=QC _ (by omega) (by omega)
 rw [this]
theorem Oa:jl ⟨#[40,41]⟩=.ok (fI []):=by kernel_rfl
theorem Lr:bG ⟨#[40,41]⟩=.ok (.row []):=by kernel_rfl
end Go.Proofs.YtfolanohokflkaaGreatDoor
namespace Go.Proofs.YtfolanohokflkaaGreatDoor
open Go.RowKit
theorem Ob {Q:Ending->World->Prop} {a:Act} {w W:World} {e:Int} (h2:a.tmps.getD 4 undef=.pointer (some ⟨w.heap.size,0,none⟩)) (h3:a.tmps.getD 5 undef=.int .i64 e) (hd:a.defers=[]) (hat:Hid (au W w.heap.size nd0)) (hb:Hid (Below w.heap.size w W))
  (hq:∀ W',Hid (Below w.heap.size w W')->Q (.returned (.tuple #[gm nd0,.int .i64 e])) W'):bodyPost Tryz.prog Tryz.f55 Q .ret a (bH W w.heap.size nd0).drew:=by
 have hn:au (bH W w.heap.size nd0) w.heap.size nd0:=au.set (aa hat)
 have b:=aa hb
 have hb':Below w.heap.size w (bH W w.heap.size nd0):=Below.setCell (Below.setCell (Below.setCell (Below.setCell (Below.setCell (Below.setCell (Below.setCell b (Nat.le_refl _) _) (Nat.le_refl _) _) (Nat.le_refl _) _) (Nat.le_refl _) _) (Nat.le_refl _) _) (Nat.le_refl _) _) (Nat.le_refl _) _
 clear hat hb b
 generalize bH W w.heap.size nd0=W' at *
 exact Fs (n:=nd0) h2 h3 hd hn (hq W'.drew hb'.drew)
set_option maxRecDepth 100000 in
set_option maxHeartbeats 4000000 in
theorem S9 {w:World} {s:ByteArray} {B e:Int} (he:e≠0) (WN:Hid (Calls Tryz.prog 65 #[.string s] (w.alloc (aB nd0)) fun x w'=>∃ m p,x=.returned (.tuple #[gm m,.agg #[.int .i64 e,.int .i64 p]])/\Hid (Below (w.alloc (aB nd0)).heap.size (w.alloc (aB nd0)) w'))) :
  Calls Tryz.prog 55 #[.string s,.int .i64 B] w fun x w'=>x=.returned (.tuple #[gm nd0,.int .i64 e])/\Hid (Below w.heap.size w w'):=by
 have hat:=au.new w nd0
 have HAT:=hide hat
 have hsz:w.heap.size<(w.alloc (aB nd0)).heap.size:=by simp
 have HA:Hid (Below w.heap.size w (w.alloc (aB nd0))):=(Below.refl _ _).alloc (Nat.le_refl _) _
 have he':(e==0)=false:=by simpa using he
 clear hat
 go_enter Tryz.func55,Tryz.ntmps55
 go_wp2_with (go_at_call 65;refine (aa WN).mono ?_;clear WN;rintro x w2 ⟨m,p,hx,HB2⟩;rw [gm] at hx;subst hx;have sJ:Hid (au w2 w.heap.size nd0):=((aa HB2).block _ hsz).trans (aa HAT);have hs2:=(aa HB2).size;have HA3:=au.alloc (au.alloc sJ (aB m)) (iG e p))
 have HB3:Hid (Below w.heap.size w ((w2.alloc (aB m)).alloc (iG e p))):=by
  have b2:=(aa HA).trans ((aa HB2).mono (by omega))
  exact (b2.alloc b2.size _).alloc (by have:=b2.size;simp;omega) _
 have hG:=heap_alloc_new (w2.alloc (aB m)) (iG e p)
 have hq:(w2.alloc (aB m)).heap.size=w2.heap.size+1:=by simp
 rw [hq] at hG
 have hrq:w.heap.size<w2.heap.size+1:=by omega
 clear he' HAT HA hq
 generalize (w2.alloc (aB m)).alloc (iG e p)=W3 at *
 generalize hqq:w2.heap.size+1=q at *
 obtain ⟨r0,r1,r2,r3,r4,r5,r6⟩:=au.cells (aa HA3)
 have rf:=au.fz (aa HA3)
 obtain ⟨g0,g1,gf⟩:=jD hG
 generalize hr:w.heap.size=r at *
 have e1:r≠q:=by omega
 have e2:q≠r:=by omega
 go_region_held3 (fun w'=>w'.cell? ⟨q,0,none⟩=some (.int .i64 e)) (go_keep) (fail)
 go_wp2_with fail
 subst hr
 exact Ob rfl rfl rfl HA3 HB3 fun W' h1=>⟨rfl,h1⟩
set_option maxRecDepth 100000 in
set_option maxHeartbeats 4000000 in
theorem Ea {w:World} {s u:ByteArray} {B e:Int} (hu:u.size<=60) (WN:Hid (Calls Tryz.prog 55 #[.string s,.int .i64 B] (w.alloc (aB nd0)) fun x w'=>x=.returned (.tuple #[gm nd0,.int .i64 e])/\Hid (Below (w.alloc (aB nd0)).heap.size (w.alloc (aB nd0)) w'))) :
  Calls Tryz.prog 38 #[.string s,.string u,.int .i64 B] w fun x w'=>x=.returned (.tuple #[gm nd0,.int .i64 e])/\Hid (Below w.heap.size w w'):=by
 have hat:=au.new w nd0
 have HAT:=hide hat
 have hsz:w.heap.size<(w.alloc (aB nd0)).heap.size:=by simp
 have HA:Hid (Below w.heap.size w (w.alloc (aB nd0))):=(Below.refl _ _).alloc (Nat.le_refl _) _
 have d1:decide ((60:Int)<(u.size:Int))=false:=by simp;omega
 clear hat
 go_enter Tryz.func38,Tryz.ntmps38
 go_wp2_with (go_at_call 55;refine (aa WN).mono ?_;clear WN;rintro x w2 ⟨hx,HB2⟩;rw [gm] at hx;subst hx;have sJ:Hid (au w2 w.heap.size nd0):=((aa HB2).block _ hsz).trans (aa HAT);have hs2:=(aa HB2).size;obtain ⟨c0,c1,c2,c3,c4,c5,c6⟩:=au.cells (aa sJ);have cf:=au.fz (aa sJ))
 have HB3:Hid (Below w.heap.size w w2):=(aa HA).trans ((aa HB2).mono (by omega))
 clear c0 c1 c2 c3 c4 c5 c6 cf
 show bodyPost _ _ _ _ _ (bH w2 w.heap.size nd0)
 refine uA (n:=nd0) rfl rfl rfl (hide (au.set (aa sJ))) ⟨rfl,?_⟩
 have b:=aa HB3
 exact Below.setCell (Below.setCell (Below.setCell (Below.setCell (Below.setCell (Below.setCell (Below.setCell b (Nat.le_refl _) _) (Nat.le_refl _) _) (Nat.le_refl _) _) (Nat.le_refl _) _) (Nat.le_refl _) _) (Nat.le_refl _) _) (Nat.le_refl _) _
set_option maxRecDepth 100000 in
set_option maxHeartbeats 4000000 in
theorem S_ {w:World} {p u:ByteArray} {B e:Int} (he:e≠0) (Ns:Hid (Calls Tryz.prog 38 #[.string p,.string u,.int .i64 B] ((w.alloc (.cells #[.string u] 9)).alloc (.cells #[.int .i64 B] 3)) fun x w'=>x=.returned (.tuple #[gm nd0,.int .i64 e])/\Hid (Below ((w.alloc (.cells #[.string u] 9)).alloc (.cells #[.int .i64 B] 3)).heap.size ((w.alloc (.cells #[.string u] 9)).alloc (.cells #[.int .i64 B] 3)) w'))) :
  Calls Tryz.prog 37 #[.string p,.string u,.int .i64 B] w fun x w'=>x=.returned (.tuple #[.bool false,.int .i64 e])/\Hid (Below w.heap.size w w'):=by
 have s1:(w.alloc (.cells #[.string u] 9)).heap.size=w.heap.size+1:=by simp
 have Dq:Hid (Below w.heap.size w ((w.alloc (.cells #[.string u] 9)).alloc (.cells #[.int .i64 B] 3))):=((Below.refl _ _).alloc (Nat.le_refl _) _).alloc (by rw [s1];omega) _
 have he':(e==0)=false:=by simpa using he
 clear s1
 go_enter Tryz.func37,Tryz.ntmps37
 go_wp2_with (go_at_call 38;refine (aa Ns).mono ?_;clear Ns;rintro x w2 ⟨hx,HB2⟩;rw [gm] at hx;subst hx)
 go_ret2
 have b:=(aa Dq).trans ((aa HB2).mono (aa Dq).size)
 exact ⟨rfl,b.alloc b.size _⟩
theorem Dw {w:World} {p u:ByteArray} {e:Int} (he:e≠0) (hu:u.size<=60) (hr:∀ W:World,Hid (Lib.Utf8Tabs 4 5 W)->Calls Tryz.prog 65 #[.string p] W fun x w'=>∃ m q,x=.returned (.tuple #[gm m,.agg #[.int .i64 e,.int .i64 q]])/\Hid (Below W.heap.size W w')) (ht:Hid (Lib.Utf8Tabs 4 5 w)) :
  Calls Tryz.prog 37 #[.string p,.string u,.int .i64 200] w fun x w'=>x=.returned (.tuple #[.bool false,.int .i64 e])/\Hid (Below w.heap.size w w'):=by
 have tb:∀ {W:World} (o:Obj),Hid (Lib.Utf8Tabs 4 5 W)->Hid (Lib.Utf8Tabs 4 5 (W.alloc o)):=fun {W} o h=>by
  have hlt:=lM (aa h)
  exact iE (aa h) (Below.heap_alloc W _ 4 (by omega)) (Below.heap_alloc W _ 5 (by omega))
 exact S_ he (hide (Ea hu (hide (S9 he (hide (hr _ (tb _ (tb _ (tb _ (tb _ ht))))))))))
def yL (p u:ByteArray):Bool×Int:=match bG p with
 | .error x=>(false,x.1)
 | .ok P=>(adZ P (gu u),0)
theorem Ta {w:World} {p u:ByteArray} (hu:u.size<=60) (ht:Hid (Lib.Utf8Tabs 4 5 w)) :
  Calls Tryz.prog 37 #[.string p,.string u,.int .i64 200] w fun x w'=>x=.returned (.tuple #[.bool (yL p u).1,.int .i64 (yL p u).2])/\Hid (Below w.heap.size w w'):=by
 unfold yL
 by_cases hl:60<p.size
 ·have e:bG p=.error (1,0):=by rw [bG,if_pos hl]
  rw [e]
  exact Dw (e:=1) (by decide) hu (fun W hW=>(Fq (w:=W) (by omega)).mono fun x w' h=>⟨nd0,0,h.1,h.2⟩) ht
 ·have e:=sK p hl
  cases hR:jl p with
  | error y=>
   rw [hR] at e
   have hn:=Qz e
   rw [e]
   exact Dw hn hu (fun W hW=>(zo (w:=W) (by omega) hW (hide hR)).mono fun x w' ⟨m,a,b⟩=>⟨m,y.2,a,b⟩) ht
  | ok z=>
   rw [hR] at e
   dsimp only at e
   by_cases hz:60<z.2
   ·rw [if_pos hz] at e
    rw [e]
    refine Dw (e:=5) (by decide) hu (fun W hW=>?_) ht
    have h:=vz (w:=W) (by omega) hW (hide hR)
    rw [if_pos hz] at h
    exact h.mono fun x w' ⟨m,a,b,_⟩=>⟨m,0,a,b⟩
   ·rw [if_neg hz] at e
    rw [e]
    have hB:=tY u
    exact N7 e (by omega) hu ht (hide hR) hz (by omega) (by omega)
def isA (p u:ByteArray):Int:=if (yL p u).2=0 then (if (yL p u).1=true then 1 else 0) else -1
set_option maxRecDepth 100000 in
set_option maxHeartbeats 4000000 in
theorem Oc {w:World} {p u:ByteArray} (hu:u.size<=60) (ht:Hid (Lib.Utf8Tabs 4 5 w)) :
  Calls Tryz.prog 19 #[.string p,.string u] w fun x w'=>x=.returned (.int .i64 (isA p u))/\Hid (Below w.heap.size w w'):=by
 have HM:=hide (Ta (p:=p) hu ht)
 unfold isA
 generalize yL p u=be at *
 obtain ⟨b,e⟩:=be
 clear ht hu
 by_cases he:e=0
 ·subst he
  cases b
  ·go_enter Tryz.func19,Tryz.ntmps19
   go_wp2_with (go_at_call 37;refine (aa HM).mono ?_;clear HM;rintro x w2 ⟨rfl,HB2⟩)
   go_ret
   exact ⟨rfl,HB2⟩
  ·go_enter Tryz.func19,Tryz.ntmps19
   go_wp2_with (go_at_call 37;refine (aa HM).mono ?_;clear HM;rintro x w2 ⟨rfl,HB2⟩)
   go_ret
   exact ⟨rfl,HB2⟩
 ·have he':(e==0)=false:=by simpa using he
  dsimp only at HM ⊢
  rw [if_neg he]
  clear he
  go_enter Tryz.func19,Tryz.ntmps19
  go_wp2_with (go_at_call 37;refine (aa HM).mono ?_;clear HM;rintro x w2 ⟨rfl,HB2⟩)
  go_ret
  exact ⟨rfl,HB2⟩
def sO (p:ByteArray):Bool:=match bG p with
 | .error _=>false
 | .ok _=>true
set_option maxRecDepth 100000 in
set_option maxHeartbeats 4000000 in
theorem FC {w:World} {p:ByteArray} (ht:Hid (Lib.Utf8Tabs 4 5 w)) :
  Calls Tryz.prog 17 #[.string p] w fun x w'=>x=.returned (.bool (sO p))/\Hid (Below w.heap.size w w'):=by
 have HM:=hide (SH w p ht)
 have e:sO p=((xG p).1==0):=by
  rw [BP]
  unfold sO
  cases h:bG p with
  | error x=>have:=Qz h;simpa [UA] using this
  | ok q=>rfl
 rw [e]
 generalize xG p=be at *
 obtain ⟨a,b⟩:=be
 clear ht e
 dsimp only at HM ⊢
 go_enter Tryz.func17,Tryz.ntmps17
 go_wp2_with (go_at_call 36;refine (aa HM).mono ?_;clear HM;rintro x w2 ⟨rfl,HB2⟩)
 go_ret
 exact ⟨rfl,HB2⟩
end Go.Proofs.YtfolanohokflkaaGreatDoor
