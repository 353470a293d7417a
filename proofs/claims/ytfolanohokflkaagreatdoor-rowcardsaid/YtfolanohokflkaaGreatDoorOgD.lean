import Derived.Test.YtfolanohokflkaaGreatDoorRtA
import Derived.Test.YtfolanohokflkaaGreatDoorPSpec
import Derived.WalkKit
import Derived.WalkSpells
import Derived.WalkLawsBesides
import Derived.WalkMore
import Derived.Deep.QuietTactic
import Derived.BigQuiet
namespace Go.Proofs.YtfolanohokflkaaGreatDoor
open Go.RowKit
section
variable {W:World} {F:Nat->Prop}
theorem LJ {X X':World} {t t':TB} {T:List Te} {N S C:List (Value×Value)} {k:Nat} {m:Nd} (h:Hid (ax X k m)) (ht:Hid (bf X t T N S C)) (f:Hid (bq t t' X X')):Hid (ax X' k m):=
 ((aa f).typed (aa ht) (aa h) (by decide) (by decide)).trans (aa h)
end
end Go.Proofs.YtfolanohokflkaaGreatDoor
namespace Go.Proofs.YtfolanohokflkaaGreatDoor
open Go.RowKit
structure Mh (w w':World) (v:Value):Prop where
 os:w'.os=w.os
 tape:w'.tape=w.tape
 output:w'.output=w.output
 size:w.heap.size<=w'.heap.size
 block:∀ k,k<w.heap.size->v.ownBlock≠some k->w'.heap[k]? = w.heap[k]?
theorem xH {ops:Array Oper} {rest:List Oper} {o:Oper} {a:Act} {Q:Exit->Act->World->Prop} (B:Nat) (wr:World) (zs:List Int) (v:Value) (z:Int) (s x:Operand) (hg:o.guard=none)
  (hop:o.op=.call { callee:=.builtin .append,args:=#[s,x],argTypes:=#[31,31] }) (hs:a.eval s=v) (hx:a.eval x=.slice (some ⟨wr.heap.size,0,none⟩) 1 1)
  (ho:Hid (wr.ownsRow B 3 1 v zs.length (ints zs))) (hB:B<=wr.heap.size) (hl:zs.length<=2000000)
  (K:∀ g cap w',Hid (w'.ownsRow B 3 1 (.slice (some ⟨g,0,none⟩) (zs++[z]).length cap) (zs++[z]).length (ints (zs++[z])))->Hid (Mh wr w' v)->wpList Tryz.prog ops Q rest (a.put o.dst (.slice (some ⟨g,0,none⟩) (zs++[z]).length cap)) w') :
  wpList Tryz.prog ops Q (o::rest) a (wr.alloc (.cells #[.int .i64 z] 3)):=by
 obtain ⟨i0,hi,hz0,hz1,hz2⟩:=info_parts gZ
 refine wpList_append_own _ hg s x 31 hop B 3 i0 (.int .i64 0) 1 8 Tryz.underlying31 hi hz0 hz1 hz2 rfl (by decide) _ _ _ hs ((aa ho).alloc _) ⟨wr.heap.size,0,none⟩ 1 1 [.int .i64 z] hx rfl (bM wr [.int .i64 z] _) (aaX _ rfl) (by unfold maxLen;omega) (by omega) (by simp;omega) ?_
 intro v' w' h1 h2 _
 have h1':w'.ownsRow B 3 1 v' (zs++[z]).length (ints (zs++[z])):=by rw [En,List.length_append];exact h1
 obtain ⟨ao,cap,rfl,hv⟩:=aO h1'
 obtain ⟨g,rfl,-⟩:=hv (by simp)
 refine K g cap w' h1' ⟨h2.os,h2.tape,h2.output,Nat.le_trans (by simp) h2.size,fun k hk hne=>(h2.block k (by simp;omega) (fun e=>hne e.symm)).trans (Below.heap_alloc wr _ k hk)⟩
theorem Mh.typed {w w':World} {v:Value} {B n:Nat} {xs:List Value} (h:Mh w w' v) (ho:w.ownsRow B 3 1 v n xs) {k:Nat} {cur:Array Value} {ty:TypeId} {z:Nat×Nat} (hk:w.heap[k]? = some (.cells cur ty z)) (hty:ty≠3):w'.heap[k]? = w.heap[k]? := by
 refine h.block k (Array.getElem?_eq_some_iff.1 hk).1 (fun e=>?_)
 obtain ⟨hl,hx | ⟨g,cap,cur',hv,hb',hg,rest⟩⟩:=ho
 ·rw [hx.1] at e;cases e
 ·rw [hv] at e
  have eg:g=k:=by injection e
  subst eg
  rw [hg] at hk;injection hk with hk;injection hk with _ e;exact hty e.symm
theorem Mh.tab {w w':World} {v:Value} {B n:Nat} {xs:List Value} {t:TB} {T:List Te} {N S C:List (Value×Value)} (h:Mh w w' v) (ho:w.ownsRow B 3 1 v n xs) (ht:bf w t T N S C):bf w' t T N S C:=by
 refine ht.move (fun k hk hl=>h.block k hl (fun e=>?_))
 obtain ⟨_,hx | ⟨g,cap,cur',hv,hb',hg,rest⟩⟩:=ho
 ·rw [hx.1] at e;cases e
 ·rw [hv] at e
  have eg:g=k:=by injection e
  subst eg
  exact TF.typed ht hg (by decide) (by decide) hk
theorem Mh.fr {w w' X:World} {v:Value} {n:Nat} {xs:List Value} {t t':TB} (h:Mh w w' v) (ho:w.ownsRow X.heap.size 3 1 v n xs) (f:bq t t' X w):bq t t' X w':=
 ⟨h.os.trans f.os,h.tape.trans f.tape,h.output.trans f.output,Nat.le_trans f.size h.size,fun k hk hf=>(h.block k (Nat.lt_of_lt_of_le hk f.size) (fun e=>by have:=(ho.lt k e).1;omega)).trans (f.block k hk hf),f.tb,f.nb,f.sb,f.cb,f.row⟩
theorem Mh.stay {W w w':World} {v:Value} {B n:Nat} {xs:List Value} {F:Nat->Prop} (h:Mh w w' v) (ho:w.ownsRow B 3 1 v n xs) (hs:mF W w F):mF W w' F:=fun k hk hc=>by
 obtain ⟨cur,hc'⟩:=hc
 have e:=hs k hk ⟨cur,hc'⟩
 exact (h.typed ho (e.trans hc') (by decide)).trans e
section
variable {W:World} {F:Nat->Prop}
end
end Go.Proofs.YtfolanohokflkaaGreatDoor
namespace Go.Proofs.YtfolanohokflkaaGreatDoor
open Go.RowKit
open Tm (eps)
def Mi (B:List Int) (W:World) (F:Nat->Prop) (m:Nd) (p:Pt) (g:Nat):Prop:=∀ (X:World) (t:TB) (T:List Te) (S C:List (Value×Value)) (ok:Nat->Prop),Hid (mF W X F)->Hid (Sz B X t T S C)->T.length+g+100000<=gH->Calls Tryz.prog 52 #[.pointer (some ⟨t.tb,0,none⟩),gJ m] X (BO B [] [] ok g (dL p) X t T S)
theorem aeh {B:List Int} {w w':World} {v:Value} {Bb n:Nat} {xs:List Value} {t:TB} {T:List Te} {S C:List (Value×Value)} (h:Mh w w' v) (ho:w.ownsRow Bb 3 1 v n xs) (hs:Sz B w t T S C):Sz B w' t T S C:=by
 refine ⟨h.tab ho hs.tab,hs.ti,⟨hs.cv.1,fun p hp=>?_⟩,hs.sv⟩
 obtain ⟨n,g,cap,l,y,e,h1,h2,h2',h3⟩:=hs.cv.2 p hp
 refine ⟨n,g,cap,l,y,e,h1,h2,h2',h3.move ?_⟩
 obtain ⟨_,⟨hv,_⟩ | ⟨g',cap',cur,hv,_,hg,_⟩⟩:=h3.own
 ·cases hv
 ·injection hv with e1
  injection e1 with e1
  injection e1 with e1
  subst e1
  exact h.typed ho hg (by decide)
structure TH (B:List Int) (X:World) (t:TB) (T:List Te) (S:List (Value×Value)) (c:Pt->Nat) (ok:Nat->Prop) (ts:List Pt) (m:Nd) (W:World) (F:Nat->Prop) (v:Value) (wr:World) (ns:List Nat) (T':List Te) (t':TB) (S' C':List (Value×Value)):Prop where
 own:wr.ownsRow X.heap.size 3 1 v (ay ns).length (ints (ay ns))
 sz:Sz B wr t' T' S' C'
 rp:iA T' ns ((ts.take ns.length).map dL)
 nx:Nx [] [] ok (bC ((ts.take ns.length).map c)) X t T S wr t' T' S'
 stay:mF W wr F
 nd:ax wr X.heap.size m
section
variable {B:List Int} {X:World} {t:TB} {T:List Te} {S:List (Value×Value)} {c:Pt->Nat} {ok:Nat->Prop} {ts:List Pt} {m:Nd} {W:World} {F:Nat->Prop} {v:Value} {wr:World} {ns:List Nat} {T':List Te} {t':TB} {S' C':List (Value×Value)}
theorem XI (l:List Nat) (a:Nat):bC (l++[a])=bC l+a:=by rw [kW];simp [bC]
theorem TH.next (h:TH B X t T S c ok ts m W F v wr ns T' t' S' C') {o:Obj} {n:Nat} {p:Pt} {T2:List Te} {t2:TB} {S2 C2:List (Value×Value)} {w2 w3:World} {g cap:Nat} (hc:ts[ns.length]? = some p) (hr:Rp T2 n (dL p)) (hy:Sz B w2 t2 T2 S2 C2) (hn:Nx [] [] ok (c p) (wr.alloc o) t' T' S' w2 t2 T2 S2) (hO3:w3.ownsRow X.heap.size 3 1 (.slice (some ⟨g,0,none⟩) (ay ns++[(n:Int)]).length cap) (ay ns++[(n:Int)]).length (ints (ay ns++[(n:Int)]))) (hG:Mh w2 w3 v) :
  TH B X t T S c ok ts m W F (.slice (some ⟨g,0,none⟩) (ay (ns++[n])).length cap) w3 (ns++[n]) T2 t2 S2 C2:=by
 have hT1:=aa (bf.alloc (hide h.sz.tab) o)
 have ho1:(wr.alloc o).ownsRow X.heap.size 3 1 v (ay ns).length (ints (ay ns)):=h.own.alloc _
 have ho2:=nD ho1 hT1 hn.fr (by decide) (by decide)
 have en:ay (ns++[n])=ay ns++[(n:Int)]:=by simp [ay]
 have hst:mF W w2 F:=(h.stay.below ((Below.refl _ _).alloc (Nat.le_refl _) _)).tab hT1 hn.fr
 have hn2:=aa (LJ (hide (ax.move h.nd (Below.heap_alloc wr o _ (ax.lt h.nd)))) (hide hT1) (hide hn.fr))
 obtain ⟨hk1,hk2⟩:=List.getElem?_eq_some_iff.1 hc
 have etk:ts.take (ns++[n]).length=ts.take ns.length++[p]:=by
  rw [List.length_append]
  show ts.take (ns.length+1)=_
  rw [List.take_succ_eq_append_getElem hk1,hk2]
 have hx:=h.nx.trans ((Nx.world (ok:=ok) (bq.below ((Below.refl wr.heap.size wr).alloc (Nat.le_refl _) o))).trans hn)
 refine ⟨by rw [en];exact hO3,aeh hG ho2 hy,?_,?_,hG.stay ho2 hst,(hG.typed ho2 hn2 (by decide)).trans hn2⟩
 ·rw [etk,List.map_append]
  obtain ⟨Z,e'⟩:=hn.sub
  refine iA.app ?_ (.cons hr .nil)
  rw [e']
  exact h.rp.mono
 ·rw [etk,List.map_append]
  show Nx _ _ _ (bC (_++[c p])) _ _ _ _ _ _ _ _
  rw [XI]
  exact ⟨hx.sub,hx.zN,hx.new,hG.fr ho2 hx.fr,by have:=hx.pay;omega⟩
end
end Go.Proofs.YtfolanohokflkaaGreatDoor
namespace Go.Proofs.YtfolanohokflkaaGreatDoor
open Go.RowKit
open Tm (eps)
section
variable {B:List Int} {W:World} {F:Nat->Prop}
theorem nE (c:Pt->Nat):∀ (ts:List Pt) (k:Nat) (p:Pt),ts[k]? = some p->bC ((ts.take k).map c)+c p<=bC (ts.map c)
 | [],k,p,h=>by simp at h
 | a::l,0,p,h=>by simp at h;subst h;simp [bC]
 | a::l,k+1,p,h=>by simp only [List.take_succ_cons,List.map_cons,bC];have:=nE c l k p (by simpa using h);omega
def Ou (B:List Int) (f:Nat) (p:Pt) (ts:List Pt) (g0:Nat):Prop:=∀ (w3 X:World) (t3:TB) (T3:List Te) (S3 C3:List (Value×Value)) (ns:List Nat) (ao:Option Addr) (cap:Nat) (ok:Nat->Prop),Hid (Sz B w3 t3 T3 S3 C3)->iA T3 ns (ts.map dL)->ns.length=ts.length->T3.length+g0+100000<=gH->w3.ownsRow X.heap.size 3 1 (.slice ao ts.length cap) ts.length (ints (ay ns))->Calls Tryz.prog f #[.pointer (some ⟨t3.tb,0,none⟩),.slice ao ts.length cap] w3 (BO B [] [] ok g0 (dL p) w3 t3 T3 S3)
set_option maxRecDepth 100000 in
set_option maxHeartbeats 4000000 in
theorem XJ {m:Nd} {aL:List Nd} {p:Pt} {ts:List Pt} {c:Pt->Nat} {g0:Nat} (h1:m.sh=1) (h2:jG W F m.pv aL) (hlen:aL.length=ts.length) (hz:ts.length<=1000) (HI:∀ (i:Nat) (h:i<aL.length) (h':i<ts.length),Mi B W F aL[i] ts[i] (c ts[i])) (HF:Ou B 79 p ts g0):Mi B W F m p (bC (ts.map c)+g0):=by
 intro X t T S C ok hst h hl
 have hp:=gD h2 (aa hst)
 obtain ⟨ao,cap,epv,hv⟩:=aO hp
 obtain ⟨e1,e2,e3⟩:m.pa=ao/\m.pn=aL.length/\m.pc=cap:=by injection epv with e1 e2 e3;exact ⟨e1,e2,e3⟩
 have HPS:Hid (∀ (wr:World) (k:Nat) (hk:k<aL.length),mF W wr F->∃ g,ao=some ⟨g,0,none⟩/\ou wr g (k*7) aL[k]):=fun wr k hk hs=>by
  have hp':=gD h2 hs
  obtain ⟨ao',cap',e',hv'⟩:=aO hp'
  obtain ⟨g',e4,_,_,hgc,_⟩:=hv' (by omega)
  have:ao=ao':=by rw [epv] at e';injection e'
  exact ⟨g',this.trans e4,qi hgc k hk⟩
 have HN:=hide (ax.new X m)
 have HB:Hid (Below X.heap.size X (X.alloc (aB m))):=(Below.refl _ _).alloc (Nat.le_refl _) _
 have HI0:Hid (TH B X t T S c ok ts m W F (.slice none 0 0) (X.alloc (aB m)) [] T t S C):=⟨World.ownsRow_nil _ _ _ _,aa (Sz.alloc h _),.nil,Nx.world (bq.below (aa HB)),(aa hst).below (aa HB),aa HN⟩
 have hmv:gJ m=.agg #[.int .i64 1,.slice ao aL.length cap,.string m.ss,.int .i64 m.le,.int .i64 m.mo,.int .i64 m.fa,.int .i64 m.sz]:=by unfold gJ;rw [h1,e1,e2,e3]
 have Qw:aB m=.cells #[.int .i64 1,.slice ao aL.length cap,.string m.ss,.int .i64 m.le,.int .i64 m.mo,.int .i64 m.fa,.int .i64 m.sz] 65:=by unfold aB;rw [h1,e1,e2,e3]
 rw [hmv]
 rw [Qw] at HI0
 have zJ:Hid (∀ wr,ax wr X.heap.size m->wr.cell? ⟨X.heap.size,0,none⟩=some (.int .i64 1)):=fun wr hn=>by obtain ⟨a0,a1,a2,a3,a4,a5,a6⟩:=ax.cells hn;rw [h1] at a0;exact a0
 have Qx:=hide hlen
 have hnz:aL.length<=1000:=by omega
 have hh0:True:=trivial
 clear hmv Qw HN HB hst h epv hp hv h2 e1 e2 e3 h1 hlen
 generalize m.ss=xs at *
 generalize m.le=xl at *
 generalize m.mo=xm at *
 generalize m.fa=xa at *
 generalize m.sz=xz at *
 obtain ⟨wb,hwb⟩:∃ wb,X.alloc (.cells #[.int .i64 1,.slice ao aL.length cap,.string xs,.int .i64 xl,.int .i64 xm,.int .i64 xa,.int .i64 xz] 65)=wb:=⟨_,rfl⟩
 have c1:wb.cell? ⟨X.heap.size,1,none⟩=some (.slice ao aL.length cap):=by rw [<-hwb];exact aA rfl 1 rfl
 rw [hwb] at HI0
 go_enter Tryz.func52,Tryz.ntmps52
 go_wp2_with fail
 go_loopw [5,11] (fun v i wr=>∃ (ns:List Nat) (T':List Te) (t':TB) (S' C':List (Value×Value)),ns.length<=aL.length/\i=.int .i64 (ns.length:Int)/\(∃ a1 c1,v=.slice a1 ns.length c1)/\Hid (TH B X t T S c ok ts m W F v wr ns T' t' S' C')) (fun _ i _=>aL.length - (intOf i).toNat)
 case atStart=>exact ⟨[],T,t,S,C,Nat.zero_le _,rfl,⟨none,0,rfl⟩,HI0⟩
 case round=>
  obtain ⟨ns,T',t',S',C',hle,rfl,⟨a1,c1',rfl⟩,HR⟩:=hrel
  have hr:=aa HR
  by_cases hlt:ns.length<aL.length
  ·obtain ⟨g,rfl,d0,d1,d2,d3,d4,d5,d6⟩:=aa HPS wr ns.length hlt hr.stay
   have hlc:ns.length<ts.length:=by have:=aa Qx;omega
   have hcg:ts[ns.length]? = some ts[ns.length]:=List.getElem?_eq_getElem hlc
   have Qy:=HI ns.length hlt hlc
   have hs1:=nE c ts ns.length _ hcg
   have hs2:=hr.nx.len
   generalize ts[ns.length]=pp at *
   have ql:=hide (Qy (wr.alloc (aB aL[ns.length])) t' T' S' C' ok (hide (hr.stay.below ((Below.refl _ _).alloc (Nat.le_refl _) _))) (Sz.alloc (hide hr.sz) _) (by omega))
   rw [hr.nx.fr.tb] at ql
   have CZ:=hide (fun (n:Nat) (T2:List Te) (t2:TB) (S2 C2:List (Value×Value)) (w2 w3:World) (g3 gB:Nat) (x1:Rp T2 n (dL pp)) (x2:Sz B w2 t2 T2 S2 C2) (x3:Nx [] [] ok (c pp) (wr.alloc (aB aL[ns.length])) t' T' S' w2 t2 T2 S2) (x4:w3.ownsRow X.heap.size 3 1 (.slice (some ⟨g3,0,none⟩) (ay ns++[(n:Int)]).length gB) (ay ns++[(n:Int)]).length (ints (ay ns++[(n:Int)]))) (x5:Mh w2 w3 (.slice a1 ns.length c1'))=>hr.next (o:=aB aL[ns.length]) hcg x1 x2 x3 x4 x5)
   have HOW:=hide (fun (w2:World) (t2:TB) (x3:bq t' t2 (wr.alloc (aB aL[ns.length])) w2)=>nD (hr.own.alloc (aB aL[ns.length])) (aa (bf.alloc (hide hr.sz.tab) _)) x3 (by decide) (by decide))
   have hXs:X.heap.size<=wr.heap.size:=hr.nx.fr.size
   have hI:(ns.length:Int)<(aL.length:Int):=by omega
   have hI0:(0:Int)<=(ns.length:Int):=by omega
   generalize aL[ns.length]=m1 at *
   obtain ⟨Qz,QB,QC,QD,QE,QF,QG,fa1,QH⟩:=m1
   dsimp only [gJ,aB] at ql CZ HOW
   dsimp only at d0 d1 d2 d3 d4 d5 d6
   obtain ⟨w1,hw1⟩:∃ w1,wr.alloc (.cells #[.int .i64 Qz,.slice QB QC QD,.string QE,.int .i64 QF,.int .i64 QG,.int .i64 fa1,.int .i64 QH] 65)=w1:=⟨_,rfl⟩
   have b0:w1.cell? ⟨wr.heap.size,0,none⟩=some (.int .i64 Qz):=by rw [<-hw1];exact aA rfl 0 rfl
   have b1:w1.cell? ⟨wr.heap.size,1,none⟩=some (.slice QB QC QD):=by rw [<-hw1];exact aA rfl 1 rfl
   have b2:w1.cell? ⟨wr.heap.size,2,none⟩=some (.string QE):=by rw [<-hw1];exact aA rfl 2 rfl
   have b3:w1.cell? ⟨wr.heap.size,3,none⟩=some (.int .i64 QF):=by rw [<-hw1];exact aA rfl 3 rfl
   have b4:w1.cell? ⟨wr.heap.size,4,none⟩=some (.int .i64 QG):=by rw [<-hw1];exact aA rfl 4 rfl
   have b5:w1.cell? ⟨wr.heap.size,5,none⟩=some (.int .i64 fa1):=by rw [<-hw1];exact aA rfl 5 rfl
   have b6:w1.cell? ⟨wr.heap.size,6,none⟩=some (.int .i64 QH):=by rw [<-hw1];exact aA rfl 6 rfl
   have hs1':wr.heap.size<=w1.heap.size:=by rw [<-hw1];simp
   rw [hw1] at ql CZ HOW
   clear hr Qy hcg HR HI0 c1 hwb HI hs1 hs2
   go_wp2_with (first
    | (go_at_call 52;refine (aa ql).mono ?_;clear ql;rintro e w2 ⟨n,t2,T2,S2,C2,rfl,HR2,xQ,iI⟩;have jJ:=hide (aa HOW w2 t2 (aa iI).fr);have hs2:X.heap.size<=w2.heap.size:=Nat.le_trans (Nat.le_trans hXs hs1') (aa iI).fr.size)
    | (at_builtin;refine xH X.heap.size w2 (ay ns) (.slice a1 ns.length c1') (n:Int) (.tmp 15) (.tmp 19) rfl rfl rfl rfl jJ hs2 (by rw [aM];omega) ?_;intro g3 gB w3 qw HG3))
   go_roundw
   case rel=>
    have HX:=hide (aa CZ n T2 t2 S2 C2 w2 w3 g3 gB HR2 (aa xQ) (aa iI) (aa qw) (aa HG3))
    have el:(ay (ns++[n])).length=ns.length+1:=by rw [aM,List.length_append];rfl
    rw [el] at HX
    have hle':(ns++[n]).length<=aL.length:=by rw [List.length_append];exact hlt
    have QI:(ns++[n]).length=ns.length+1:=by simp
    exact ⟨ns++[n],T2,t2,S2,C2,hle',by rw [QI];rfl,⟨some ⟨g3,0,none⟩,gB,by rw [QI,aM]⟩,by rw [aM];exact HX⟩
   case measure=>simp [intOf];omega
  ·have en:ns.length=aL.length:=by omega
   have enc:ns.length=ts.length:=by have:=aa Qx;omega
   have qX:=hr.rp
   have hnx:=hr.nx
   rw [enc,List.take_length] at qX hnx
   have hln:=hnx.len
   have hown:=hr.own
   rw [aM] at hown
   have mD:=hide (HF wr X t' T' S' C' ns a1 c1' ok (hide hr.sz) qX enc (by omega) (by rw [enc] at hown;exact hown))
   rw [hnx.fr.tb] at mD
   have c0:=aa zJ wr hr.nd
   have Mc:=hide hnx
   have hI:¬ (ns.length:Int)<(aL.length:Int):=by omega
   clear hr HR HI0 c1 hwb HI qX hnx hown HF
   rw [<-enc] at mD
   rw [en] at mD hI ⊢
   clear en enc
   go_wp2_with (go_at_call 79;refine (aa mD).mono ?_;clear mD;rintro e w4 HH;have Db:=hide HH;obtain ⟨r4,t4,T4,S4,C4,rfl,-⟩:=HH)
   go_ret
   exact BO.then (aa Mc) (aa Db)
set_option maxRecDepth 100000 in
set_option maxHeartbeats 4000000 in
theorem XK {m:Nd} {aL:List Nd} {p:Pt} {ts:List Pt} {c:Pt->Nat} {g0:Nat} (h1:m.sh=2) (h2:jG W F m.pv aL) (hlen:aL.length=ts.length) (hz:ts.length<=1000) (HI:∀ (i:Nat) (h:i<aL.length) (h':i<ts.length),Mi B W F aL[i] ts[i] (c ts[i])) (HF:Ou B 77 p ts g0):Mi B W F m p (bC (ts.map c)+g0):=by
 intro X t T S C ok hst h hl
 have hp:=gD h2 (aa hst)
 obtain ⟨ao,cap,epv,hv⟩:=aO hp
 obtain ⟨e1,e2,e3⟩:m.pa=ao/\m.pn=aL.length/\m.pc=cap:=by injection epv with e1 e2 e3;exact ⟨e1,e2,e3⟩
 have HPS:Hid (∀ (wr:World) (k:Nat) (hk:k<aL.length),mF W wr F->∃ g,ao=some ⟨g,0,none⟩/\ou wr g (k*7) aL[k]):=fun wr k hk hs=>by
  have hp':=gD h2 hs
  obtain ⟨ao',cap',e',hv'⟩:=aO hp'
  obtain ⟨g',e4,_,_,hgc,_⟩:=hv' (by omega)
  have:ao=ao':=by rw [epv] at e';injection e'
  exact ⟨g',this.trans e4,qi hgc k hk⟩
 have HN:=hide (ax.new X m)
 have HB:Hid (Below X.heap.size X (X.alloc (aB m))):=(Below.refl _ _).alloc (Nat.le_refl _) _
 have HI0:Hid (TH B X t T S c ok ts m W F (.slice none 0 0) (X.alloc (aB m)) [] T t S C):=⟨World.ownsRow_nil _ _ _ _,aa (Sz.alloc h _),.nil,Nx.world (bq.below (aa HB)),(aa hst).below (aa HB),aa HN⟩
 have hmv:gJ m=.agg #[.int .i64 2,.slice ao aL.length cap,.string m.ss,.int .i64 m.le,.int .i64 m.mo,.int .i64 m.fa,.int .i64 m.sz]:=by unfold gJ;rw [h1,e1,e2,e3]
 have Qw:aB m=.cells #[.int .i64 2,.slice ao aL.length cap,.string m.ss,.int .i64 m.le,.int .i64 m.mo,.int .i64 m.fa,.int .i64 m.sz] 65:=by unfold aB;rw [h1,e1,e2,e3]
 rw [hmv]
 rw [Qw] at HI0
 have zJ:Hid (∀ wr,ax wr X.heap.size m->wr.cell? ⟨X.heap.size,0,none⟩=some (.int .i64 2)):=fun wr hn=>by obtain ⟨a0,a1,a2,a3,a4,a5,a6⟩:=ax.cells hn;rw [h1] at a0;exact a0
 have Qx:=hide hlen
 have hnz:aL.length<=1000:=by omega
 have hh0:True:=trivial
 clear hmv Qw HN HB hst h epv hp hv h2 e1 e2 e3 h1 hlen
 generalize m.ss=xs at *
 generalize m.le=xl at *
 generalize m.mo=xm at *
 generalize m.fa=xa at *
 generalize m.sz=xz at *
 obtain ⟨wb,hwb⟩:∃ wb,X.alloc (.cells #[.int .i64 2,.slice ao aL.length cap,.string xs,.int .i64 xl,.int .i64 xm,.int .i64 xa,.int .i64 xz] 65)=wb:=⟨_,rfl⟩
 have c1:wb.cell? ⟨X.heap.size,1,none⟩=some (.slice ao aL.length cap):=by rw [<-hwb];exact aA rfl 1 rfl
 rw [hwb] at HI0
 go_enter Tryz.func52,Tryz.ntmps52
 go_wp2_with fail
 go_loopw [5,11] (fun v i wr=>∃ (ns:List Nat) (T':List Te) (t':TB) (S' C':List (Value×Value)),ns.length<=aL.length/\i=.int .i64 (ns.length:Int)/\(∃ a1 c1,v=.slice a1 ns.length c1)/\Hid (TH B X t T S c ok ts m W F v wr ns T' t' S' C')) (fun _ i _=>aL.length - (intOf i).toNat)
 case atStart=>exact ⟨[],T,t,S,C,Nat.zero_le _,rfl,⟨none,0,rfl⟩,HI0⟩
 case round=>
  obtain ⟨ns,T',t',S',C',hle,rfl,⟨a1,c1',rfl⟩,HR⟩:=hrel
  have hr:=aa HR
  by_cases hlt:ns.length<aL.length
  ·obtain ⟨g,rfl,d0,d1,d2,d3,d4,d5,d6⟩:=aa HPS wr ns.length hlt hr.stay
   have hlc:ns.length<ts.length:=by have:=aa Qx;omega
   have hcg:ts[ns.length]? = some ts[ns.length]:=List.getElem?_eq_getElem hlc
   have Qy:=HI ns.length hlt hlc
   have hs1:=nE c ts ns.length _ hcg
   have hs2:=hr.nx.len
   generalize ts[ns.length]=pp at *
   have ql:=hide (Qy (wr.alloc (aB aL[ns.length])) t' T' S' C' ok (hide (hr.stay.below ((Below.refl _ _).alloc (Nat.le_refl _) _))) (Sz.alloc (hide hr.sz) _) (by omega))
   rw [hr.nx.fr.tb] at ql
   have CZ:=hide (fun (n:Nat) (T2:List Te) (t2:TB) (S2 C2:List (Value×Value)) (w2 w3:World) (g3 gB:Nat) (x1:Rp T2 n (dL pp)) (x2:Sz B w2 t2 T2 S2 C2) (x3:Nx [] [] ok (c pp) (wr.alloc (aB aL[ns.length])) t' T' S' w2 t2 T2 S2) (x4:w3.ownsRow X.heap.size 3 1 (.slice (some ⟨g3,0,none⟩) (ay ns++[(n:Int)]).length gB) (ay ns++[(n:Int)]).length (ints (ay ns++[(n:Int)]))) (x5:Mh w2 w3 (.slice a1 ns.length c1'))=>hr.next (o:=aB aL[ns.length]) hcg x1 x2 x3 x4 x5)
   have HOW:=hide (fun (w2:World) (t2:TB) (x3:bq t' t2 (wr.alloc (aB aL[ns.length])) w2)=>nD (hr.own.alloc (aB aL[ns.length])) (aa (bf.alloc (hide hr.sz.tab) _)) x3 (by decide) (by decide))
   have hXs:X.heap.size<=wr.heap.size:=hr.nx.fr.size
   have hI:(ns.length:Int)<(aL.length:Int):=by omega
   have hI0:(0:Int)<=(ns.length:Int):=by omega
   generalize aL[ns.length]=m1 at *
   obtain ⟨Qz,QB,QC,QD,QE,QF,QG,fa1,QH⟩:=m1
   dsimp only [gJ,aB] at ql CZ HOW
   dsimp only at d0 d1 d2 d3 d4 d5 d6
   obtain ⟨w1,hw1⟩:∃ w1,wr.alloc (.cells #[.int .i64 Qz,.slice QB QC QD,.string QE,.int .i64 QF,.int .i64 QG,.int .i64 fa1,.int .i64 QH] 65)=w1:=⟨_,rfl⟩
   have b0:w1.cell? ⟨wr.heap.size,0,none⟩=some (.int .i64 Qz):=by rw [<-hw1];exact aA rfl 0 rfl
   have b1:w1.cell? ⟨wr.heap.size,1,none⟩=some (.slice QB QC QD):=by rw [<-hw1];exact aA rfl 1 rfl
   have b2:w1.cell? ⟨wr.heap.size,2,none⟩=some (.string QE):=by rw [<-hw1];exact aA rfl 2 rfl
   have b3:w1.cell? ⟨wr.heap.size,3,none⟩=some (.int .i64 QF):=by rw [<-hw1];exact aA rfl 3 rfl
   have b4:w1.cell? ⟨wr.heap.size,4,none⟩=some (.int .i64 QG):=by rw [<-hw1];exact aA rfl 4 rfl
   have b5:w1.cell? ⟨wr.heap.size,5,none⟩=some (.int .i64 fa1):=by rw [<-hw1];exact aA rfl 5 rfl
   have b6:w1.cell? ⟨wr.heap.size,6,none⟩=some (.int .i64 QH):=by rw [<-hw1];exact aA rfl 6 rfl
   have hs1':wr.heap.size<=w1.heap.size:=by rw [<-hw1];simp
   rw [hw1] at ql CZ HOW
   clear hr Qy hcg HR HI0 c1 hwb HI hs1 hs2
   go_wp2_with (first
    | (go_at_call 52;refine (aa ql).mono ?_;clear ql;rintro e w2 ⟨n,t2,T2,S2,C2,rfl,HR2,xQ,iI⟩;have jJ:=hide (aa HOW w2 t2 (aa iI).fr);have hs2:X.heap.size<=w2.heap.size:=Nat.le_trans (Nat.le_trans hXs hs1') (aa iI).fr.size)
    | (at_builtin;refine xH X.heap.size w2 (ay ns) (.slice a1 ns.length c1') (n:Int) (.tmp 15) (.tmp 19) rfl rfl rfl rfl jJ hs2 (by rw [aM];omega) ?_;intro g3 gB w3 qw HG3))
   go_roundw
   case rel=>
    have HX:=hide (aa CZ n T2 t2 S2 C2 w2 w3 g3 gB HR2 (aa xQ) (aa iI) (aa qw) (aa HG3))
    have el:(ay (ns++[n])).length=ns.length+1:=by rw [aM,List.length_append];rfl
    rw [el] at HX
    have hle':(ns++[n]).length<=aL.length:=by rw [List.length_append];exact hlt
    have QI:(ns++[n]).length=ns.length+1:=by simp
    exact ⟨ns++[n],T2,t2,S2,C2,hle',by rw [QI];rfl,⟨some ⟨g3,0,none⟩,gB,by rw [QI,aM]⟩,by rw [aM];exact HX⟩
   case measure=>simp [intOf];omega
  ·have en:ns.length=aL.length:=by omega
   have enc:ns.length=ts.length:=by have:=aa Qx;omega
   have qX:=hr.rp
   have hnx:=hr.nx
   rw [enc,List.take_length] at qX hnx
   have hln:=hnx.len
   have hown:=hr.own
   rw [aM] at hown
   have mD:=hide (HF wr X t' T' S' C' ns a1 c1' ok (hide hr.sz) qX enc (by omega) (by rw [enc] at hown;exact hown))
   rw [hnx.fr.tb] at mD
   have c0:=aa zJ wr hr.nd
   have Mc:=hide hnx
   have hI:¬ (ns.length:Int)<(aL.length:Int):=by omega
   clear hr HR HI0 c1 hwb HI qX hnx hown HF
   rw [<-enc] at mD
   rw [en] at mD hI ⊢
   clear en enc
   go_wp2_with (go_at_call 77;refine (aa mD).mono ?_;clear mD;rintro e w4 HH;have Db:=hide HH;obtain ⟨r4,t4,T4,S4,C4,rfl,-⟩:=HH)
   go_ret
   exact BO.then (aa Mc) (aa Db)
set_option maxRecDepth 100000 in
set_option maxHeartbeats 4000000 in
theorem XL {m:Nd} {aL:List Nd} {p:Pt} {ts:List Pt} {c:Pt->Nat} {g0:Nat} (h1:m.sh=3) (h2:jG W F m.pv aL) (hlen:aL.length=ts.length) (hz:ts.length<=1000) (HI:∀ (i:Nat) (h:i<aL.length) (h':i<ts.length),Mi B W F aL[i] ts[i] (c ts[i])) (HF:Ou B 80 p ts g0):Mi B W F m p (bC (ts.map c)+g0):=by
 intro X t T S C ok hst h hl
 have hp:=gD h2 (aa hst)
 obtain ⟨ao,cap,epv,hv⟩:=aO hp
 obtain ⟨e1,e2,e3⟩:m.pa=ao/\m.pn=aL.length/\m.pc=cap:=by injection epv with e1 e2 e3;exact ⟨e1,e2,e3⟩
 have HPS:Hid (∀ (wr:World) (k:Nat) (hk:k<aL.length),mF W wr F->∃ g,ao=some ⟨g,0,none⟩/\ou wr g (k*7) aL[k]):=fun wr k hk hs=>by
  have hp':=gD h2 hs
  obtain ⟨ao',cap',e',hv'⟩:=aO hp'
  obtain ⟨g',e4,_,_,hgc,_⟩:=hv' (by omega)
  have:ao=ao':=by rw [epv] at e';injection e'
  exact ⟨g',this.trans e4,qi hgc k hk⟩
 have HN:=hide (ax.new X m)
 have HB:Hid (Below X.heap.size X (X.alloc (aB m))):=(Below.refl _ _).alloc (Nat.le_refl _) _
 have HI0:Hid (TH B X t T S c ok ts m W F (.slice none 0 0) (X.alloc (aB m)) [] T t S C):=⟨World.ownsRow_nil _ _ _ _,aa (Sz.alloc h _),.nil,Nx.world (bq.below (aa HB)),(aa hst).below (aa HB),aa HN⟩
 have hmv:gJ m=.agg #[.int .i64 3,.slice ao aL.length cap,.string m.ss,.int .i64 m.le,.int .i64 m.mo,.int .i64 m.fa,.int .i64 m.sz]:=by unfold gJ;rw [h1,e1,e2,e3]
 have Qw:aB m=.cells #[.int .i64 3,.slice ao aL.length cap,.string m.ss,.int .i64 m.le,.int .i64 m.mo,.int .i64 m.fa,.int .i64 m.sz] 65:=by unfold aB;rw [h1,e1,e2,e3]
 rw [hmv]
 rw [Qw] at HI0
 have zJ:Hid (∀ wr,ax wr X.heap.size m->wr.cell? ⟨X.heap.size,0,none⟩=some (.int .i64 3)):=fun wr hn=>by obtain ⟨a0,a1,a2,a3,a4,a5,a6⟩:=ax.cells hn;rw [h1] at a0;exact a0
 have Qx:=hide hlen
 have hnz:aL.length<=1000:=by omega
 have hh0:True:=trivial
 clear hmv Qw HN HB hst h epv hp hv h2 e1 e2 e3 h1 hlen
 generalize m.ss=xs at *
 generalize m.le=xl at *
 generalize m.mo=xm at *
 generalize m.fa=xa at *
 generalize m.sz=xz at *
 obtain ⟨wb,hwb⟩:∃ wb,X.alloc (.cells #[.int .i64 3,.slice ao aL.length cap,.string xs,.int .i64 xl,.int .i64 xm,.int .i64 xa,.int .i64 xz] 65)=wb:=⟨_,rfl⟩
 have c1:wb.cell? ⟨X.heap.size,1,none⟩=some (.slice ao aL.length cap):=by rw [<-hwb];exact aA rfl 1 rfl
 rw [hwb] at HI0
 go_enter Tryz.func52,Tryz.ntmps52
 go_wp2_with fail
 go_loopw [5,11] (fun v i wr=>∃ (ns:List Nat) (T':List Te) (t':TB) (S' C':List (Value×Value)),ns.length<=aL.length/\i=.int .i64 (ns.length:Int)/\(∃ a1 c1,v=.slice a1 ns.length c1)/\Hid (TH B X t T S c ok ts m W F v wr ns T' t' S' C')) (fun _ i _=>aL.length - (intOf i).toNat)
 case atStart=>exact ⟨[],T,t,S,C,Nat.zero_le _,rfl,⟨none,0,rfl⟩,HI0⟩
 case round=>
  obtain ⟨ns,T',t',S',C',hle,rfl,⟨a1,c1',rfl⟩,HR⟩:=hrel
  have hr:=aa HR
  by_cases hlt:ns.length<aL.length
  ·obtain ⟨g,rfl,d0,d1,d2,d3,d4,d5,d6⟩:=aa HPS wr ns.length hlt hr.stay
   have hlc:ns.length<ts.length:=by have:=aa Qx;omega
   have hcg:ts[ns.length]? = some ts[ns.length]:=List.getElem?_eq_getElem hlc
   have Qy:=HI ns.length hlt hlc
   have hs1:=nE c ts ns.length _ hcg
   have hs2:=hr.nx.len
   generalize ts[ns.length]=pp at *
   have ql:=hide (Qy (wr.alloc (aB aL[ns.length])) t' T' S' C' ok (hide (hr.stay.below ((Below.refl _ _).alloc (Nat.le_refl _) _))) (Sz.alloc (hide hr.sz) _) (by omega))
   rw [hr.nx.fr.tb] at ql
   have CZ:=hide (fun (n:Nat) (T2:List Te) (t2:TB) (S2 C2:List (Value×Value)) (w2 w3:World) (g3 gB:Nat) (x1:Rp T2 n (dL pp)) (x2:Sz B w2 t2 T2 S2 C2) (x3:Nx [] [] ok (c pp) (wr.alloc (aB aL[ns.length])) t' T' S' w2 t2 T2 S2) (x4:w3.ownsRow X.heap.size 3 1 (.slice (some ⟨g3,0,none⟩) (ay ns++[(n:Int)]).length gB) (ay ns++[(n:Int)]).length (ints (ay ns++[(n:Int)]))) (x5:Mh w2 w3 (.slice a1 ns.length c1'))=>hr.next (o:=aB aL[ns.length]) hcg x1 x2 x3 x4 x5)
   have HOW:=hide (fun (w2:World) (t2:TB) (x3:bq t' t2 (wr.alloc (aB aL[ns.length])) w2)=>nD (hr.own.alloc (aB aL[ns.length])) (aa (bf.alloc (hide hr.sz.tab) _)) x3 (by decide) (by decide))
   have hXs:X.heap.size<=wr.heap.size:=hr.nx.fr.size
   have hI:(ns.length:Int)<(aL.length:Int):=by omega
   have hI0:(0:Int)<=(ns.length:Int):=by omega
   generalize aL[ns.length]=m1 at *
   obtain ⟨Qz,QB,QC,QD,QE,QF,QG,fa1,QH⟩:=m1
   dsimp only [gJ,aB] at ql CZ HOW
   dsimp only at d0 d1 d2 d3 d4 d5 d6
   obtain ⟨w1,hw1⟩:∃ w1,wr.alloc (.cells #[.int .i64 Qz,.slice QB QC QD,.string QE,.int .i64 QF,.int .i64 QG,.int .i64 fa1,.int .i64 QH] 65)=w1:=⟨_,rfl⟩
   have b0:w1.cell? ⟨wr.heap.size,0,none⟩=some (.int .i64 Qz):=by rw [<-hw1];exact aA rfl 0 rfl
   have b1:w1.cell? ⟨wr.heap.size,1,none⟩=some (.slice QB QC QD):=by rw [<-hw1];exact aA rfl 1 rfl
   have b2:w1.cell? ⟨wr.heap.size,2,none⟩=some (.string QE):=by rw [<-hw1];exact aA rfl 2 rfl
   have b3:w1.cell? ⟨wr.heap.size,3,none⟩=some (.int .i64 QF):=by rw [<-hw1];exact aA rfl 3 rfl
   have b4:w1.cell? ⟨wr.heap.size,4,none⟩=some (.int .i64 QG):=by rw [<-hw1];exact aA rfl 4 rfl
   have b5:w1.cell? ⟨wr.heap.size,5,none⟩=some (.int .i64 fa1):=by rw [<-hw1];exact aA rfl 5 rfl
   have b6:w1.cell? ⟨wr.heap.size,6,none⟩=some (.int .i64 QH):=by rw [<-hw1];exact aA rfl 6 rfl
   have hs1':wr.heap.size<=w1.heap.size:=by rw [<-hw1];simp
   rw [hw1] at ql CZ HOW
   clear hr Qy hcg HR HI0 c1 hwb HI hs1 hs2
   go_wp2_with (first
    | (go_at_call 52;refine (aa ql).mono ?_;clear ql;rintro e w2 ⟨n,t2,T2,S2,C2,rfl,HR2,xQ,iI⟩;have jJ:=hide (aa HOW w2 t2 (aa iI).fr);have hs2:X.heap.size<=w2.heap.size:=Nat.le_trans (Nat.le_trans hXs hs1') (aa iI).fr.size)
    | (at_builtin;refine xH X.heap.size w2 (ay ns) (.slice a1 ns.length c1') (n:Int) (.tmp 15) (.tmp 19) rfl rfl rfl rfl jJ hs2 (by rw [aM];omega) ?_;intro g3 gB w3 qw HG3))
   go_roundw
   case rel=>
    have HX:=hide (aa CZ n T2 t2 S2 C2 w2 w3 g3 gB HR2 (aa xQ) (aa iI) (aa qw) (aa HG3))
    have el:(ay (ns++[n])).length=ns.length+1:=by rw [aM,List.length_append];rfl
    rw [el] at HX
    have hle':(ns++[n]).length<=aL.length:=by rw [List.length_append];exact hlt
    have QI:(ns++[n]).length=ns.length+1:=by simp
    exact ⟨ns++[n],T2,t2,S2,C2,hle',by rw [QI];rfl,⟨some ⟨g3,0,none⟩,gB,by rw [QI,aM]⟩,by rw [aM];exact HX⟩
   case measure=>simp [intOf];omega
  ·have en:ns.length=aL.length:=by omega
   have enc:ns.length=ts.length:=by have:=aa Qx;omega
   have qX:=hr.rp
   have hnx:=hr.nx
   rw [enc,List.take_length] at qX hnx
   have hln:=hnx.len
   have hown:=hr.own
   rw [aM] at hown
   have mD:=hide (HF wr X t' T' S' C' ns a1 c1' ok (hide hr.sz) qX enc (by omega) (by rw [enc] at hown;exact hown))
   rw [hnx.fr.tb] at mD
   have c0:=aa zJ wr hr.nd
   have Mc:=hide hnx
   have hI:¬ (ns.length:Int)<(aL.length:Int):=by omega
   clear hr HR HI0 c1 hwb HI qX hnx hown HF
   rw [<-enc] at mD
   rw [en] at mD hI ⊢
   clear en enc
   go_wp2_with (go_at_call 80;refine (aa mD).mono ?_;clear mD;rintro e w4 HH;have Db:=hide HH;obtain ⟨r4,t4,T4,S4,C4,rfl,-⟩:=HH)
   go_ret
   exact BO.then (aa Mc) (aa Db)
end
end Go.Proofs.YtfolanohokflkaaGreatDoor
namespace Go.Proofs.YtfolanohokflkaaGreatDoor
open Go.RowKit
open Tm (eps)
section
variable {B:List Int} {W:World} {F:Nat->Prop}
set_option maxRecDepth 100000 in
set_option maxHeartbeats 4000000 in
theorem acS {m:Nd} {aL:List Nd} {p:Pt} {ts:List Pt} {c:Pt->Nat} {g0:Nat} (h1:m.sh=4) (h2:jG W F m.pv aL) (hlen:aL.length=ts.length) (hz:ts.length<=1000) (HI:∀ (i:Nat) (h:i<aL.length) (h':i<ts.length),Mi B W F aL[i] ts[i] (c ts[i])) {p1:Pt} (hts:ts=[p1]) (HF:∀ (w3:World) (t3:TB) (T3:List Te) (S3 C3:List (Value×Value)) (r:Nat) (ok:Nat->Prop),Hid (Sz B w3 t3 T3 S3 C3)->Rp T3 r (dL p1)->T3.length+g0+100000<=gH->Calls Tryz.prog 78 #[.pointer (some ⟨t3.tb,0,none⟩),.int .i64 (r:Int)] w3 (BO B [] [] ok g0 (dL p) w3 t3 T3 S3)):Mi B W F m p (bC (ts.map c)+g0):=by
 intro X t T S C ok hst h hl
 have hp:=gD h2 (aa hst)
 obtain ⟨ao,cap,epv,hv⟩:=aO hp
 obtain ⟨e1,e2,e3⟩:m.pa=ao/\m.pn=aL.length/\m.pc=cap:=by injection epv with e1 e2 e3;exact ⟨e1,e2,e3⟩
 have HPS:Hid (∀ (wr:World) (k:Nat) (hk:k<aL.length),mF W wr F->∃ g,ao=some ⟨g,0,none⟩/\ou wr g (k*7) aL[k]):=fun wr k hk hs=>by
  have hp':=gD h2 hs
  obtain ⟨ao',cap',e',hv'⟩:=aO hp'
  obtain ⟨g',e4,_,_,hgc,_⟩:=hv' (by omega)
  have:ao=ao':=by rw [epv] at e';injection e'
  exact ⟨g',this.trans e4,qi hgc k hk⟩
 have HN:=hide (ax.new X m)
 have HB:Hid (Below X.heap.size X (X.alloc (aB m))):=(Below.refl _ _).alloc (Nat.le_refl _) _
 have HI0:Hid (TH B X t T S c ok ts m W F (.slice none 0 0) (X.alloc (aB m)) [] T t S C):=⟨World.ownsRow_nil _ _ _ _,aa (Sz.alloc h _),.nil,Nx.world (bq.below (aa HB)),(aa hst).below (aa HB),aa HN⟩
 have hmv:gJ m=.agg #[.int .i64 4,.slice ao aL.length cap,.string m.ss,.int .i64 m.le,.int .i64 m.mo,.int .i64 m.fa,.int .i64 m.sz]:=by unfold gJ;rw [h1,e1,e2,e3]
 have Qw:aB m=.cells #[.int .i64 4,.slice ao aL.length cap,.string m.ss,.int .i64 m.le,.int .i64 m.mo,.int .i64 m.fa,.int .i64 m.sz] 65:=by unfold aB;rw [h1,e1,e2,e3]
 rw [hmv]
 rw [Qw] at HI0
 have zJ:Hid (∀ wr,ax wr X.heap.size m->wr.cell? ⟨X.heap.size,0,none⟩=some (.int .i64 4)):=fun wr hn=>by obtain ⟨a0,a1,a2,a3,a4,a5,a6⟩:=ax.cells hn;rw [h1] at a0;exact a0
 have Qx:=hide hlen
 have hnz:aL.length<=1000:=by omega
 have hh0:True:=trivial
 clear hmv Qw HN HB hst h epv hp hv h2 e1 e2 e3 h1 hlen
 generalize m.ss=xs at *
 generalize m.le=xl at *
 generalize m.mo=xm at *
 generalize m.fa=xa at *
 generalize m.sz=xz at *
 obtain ⟨wb,hwb⟩:∃ wb,X.alloc (.cells #[.int .i64 4,.slice ao aL.length cap,.string xs,.int .i64 xl,.int .i64 xm,.int .i64 xa,.int .i64 xz] 65)=wb:=⟨_,rfl⟩
 have c1:wb.cell? ⟨X.heap.size,1,none⟩=some (.slice ao aL.length cap):=by rw [<-hwb];exact aA rfl 1 rfl
 rw [hwb] at HI0
 go_enter Tryz.func52,Tryz.ntmps52
 go_wp2_with fail
 go_loopw [5,11] (fun v i wr=>∃ (ns:List Nat) (T':List Te) (t':TB) (S' C':List (Value×Value)),ns.length<=aL.length/\i=.int .i64 (ns.length:Int)/\(∃ a1 c1,v=.slice a1 ns.length c1)/\Hid (TH B X t T S c ok ts m W F v wr ns T' t' S' C')) (fun _ i _=>aL.length - (intOf i).toNat)
 case atStart=>exact ⟨[],T,t,S,C,Nat.zero_le _,rfl,⟨none,0,rfl⟩,HI0⟩
 case round=>
  obtain ⟨ns,T',t',S',C',hle,rfl,⟨a1,c1',rfl⟩,HR⟩:=hrel
  have hr:=aa HR
  by_cases hlt:ns.length<aL.length
  ·obtain ⟨g,rfl,d0,d1,d2,d3,d4,d5,d6⟩:=aa HPS wr ns.length hlt hr.stay
   have hlc:ns.length<ts.length:=by have:=aa Qx;omega
   have hcg:ts[ns.length]? = some ts[ns.length]:=List.getElem?_eq_getElem hlc
   have Qy:=HI ns.length hlt hlc
   have hs1:=nE c ts ns.length _ hcg
   have hs2:=hr.nx.len
   generalize ts[ns.length]=pp at *
   have ql:=hide (Qy (wr.alloc (aB aL[ns.length])) t' T' S' C' ok (hide (hr.stay.below ((Below.refl _ _).alloc (Nat.le_refl _) _))) (Sz.alloc (hide hr.sz) _) (by omega))
   rw [hr.nx.fr.tb] at ql
   have CZ:=hide (fun (n:Nat) (T2:List Te) (t2:TB) (S2 C2:List (Value×Value)) (w2 w3:World) (g3 gB:Nat) (x1:Rp T2 n (dL pp)) (x2:Sz B w2 t2 T2 S2 C2) (x3:Nx [] [] ok (c pp) (wr.alloc (aB aL[ns.length])) t' T' S' w2 t2 T2 S2) (x4:w3.ownsRow X.heap.size 3 1 (.slice (some ⟨g3,0,none⟩) (ay ns++[(n:Int)]).length gB) (ay ns++[(n:Int)]).length (ints (ay ns++[(n:Int)]))) (x5:Mh w2 w3 (.slice a1 ns.length c1'))=>hr.next (o:=aB aL[ns.length]) hcg x1 x2 x3 x4 x5)
   have HOW:=hide (fun (w2:World) (t2:TB) (x3:bq t' t2 (wr.alloc (aB aL[ns.length])) w2)=>nD (hr.own.alloc (aB aL[ns.length])) (aa (bf.alloc (hide hr.sz.tab) _)) x3 (by decide) (by decide))
   have hXs:X.heap.size<=wr.heap.size:=hr.nx.fr.size
   have hI:(ns.length:Int)<(aL.length:Int):=by omega
   have hI0:(0:Int)<=(ns.length:Int):=by omega
   generalize aL[ns.length]=m1 at *
   obtain ⟨Qz,QB,QC,QD,QE,QF,QG,fa1,QH⟩:=m1
   dsimp only [gJ,aB] at ql CZ HOW
   dsimp only at d0 d1 d2 d3 d4 d5 d6
   obtain ⟨w1,hw1⟩:∃ w1,wr.alloc (.cells #[.int .i64 Qz,.slice QB QC QD,.string QE,.int .i64 QF,.int .i64 QG,.int .i64 fa1,.int .i64 QH] 65)=w1:=⟨_,rfl⟩
   have b0:w1.cell? ⟨wr.heap.size,0,none⟩=some (.int .i64 Qz):=by rw [<-hw1];exact aA rfl 0 rfl
   have b1:w1.cell? ⟨wr.heap.size,1,none⟩=some (.slice QB QC QD):=by rw [<-hw1];exact aA rfl 1 rfl
   have b2:w1.cell? ⟨wr.heap.size,2,none⟩=some (.string QE):=by rw [<-hw1];exact aA rfl 2 rfl
   have b3:w1.cell? ⟨wr.heap.size,3,none⟩=some (.int .i64 QF):=by rw [<-hw1];exact aA rfl 3 rfl
   have b4:w1.cell? ⟨wr.heap.size,4,none⟩=some (.int .i64 QG):=by rw [<-hw1];exact aA rfl 4 rfl
   have b5:w1.cell? ⟨wr.heap.size,5,none⟩=some (.int .i64 fa1):=by rw [<-hw1];exact aA rfl 5 rfl
   have b6:w1.cell? ⟨wr.heap.size,6,none⟩=some (.int .i64 QH):=by rw [<-hw1];exact aA rfl 6 rfl
   have hs1':wr.heap.size<=w1.heap.size:=by rw [<-hw1];simp
   rw [hw1] at ql CZ HOW
   clear hr Qy hcg HR HI0 c1 hwb HI hs1 hs2
   go_wp2_with (first
    | (go_at_call 52;refine (aa ql).mono ?_;clear ql;rintro e w2 ⟨n,t2,T2,S2,C2,rfl,HR2,xQ,iI⟩;have jJ:=hide (aa HOW w2 t2 (aa iI).fr);have hs2:X.heap.size<=w2.heap.size:=Nat.le_trans (Nat.le_trans hXs hs1') (aa iI).fr.size)
    | (at_builtin;refine xH X.heap.size w2 (ay ns) (.slice a1 ns.length c1') (n:Int) (.tmp 15) (.tmp 19) rfl rfl rfl rfl jJ hs2 (by rw [aM];omega) ?_;intro g3 gB w3 qw HG3))
   go_roundw
   case rel=>
    have HX:=hide (aa CZ n T2 t2 S2 C2 w2 w3 g3 gB HR2 (aa xQ) (aa iI) (aa qw) (aa HG3))
    have el:(ay (ns++[n])).length=ns.length+1:=by rw [aM,List.length_append];rfl
    rw [el] at HX
    have hle':(ns++[n]).length<=aL.length:=by rw [List.length_append];exact hlt
    have QI:(ns++[n]).length=ns.length+1:=by simp
    exact ⟨ns++[n],T2,t2,S2,C2,hle',by rw [QI];rfl,⟨some ⟨g3,0,none⟩,gB,by rw [QI,aM]⟩,by rw [aM];exact HX⟩
   case measure=>simp [intOf];omega
  ·have en:ns.length=aL.length:=by omega
   have enc:ns.length=ts.length:=by have:=aa Qx;omega
   have qX:=hr.rp
   have hnx:=hr.nx
   rw [enc,List.take_length] at qX hnx
   have hln:=hnx.len
   have hown:=hr.own
   rw [aM] at hown
   obtain ⟨r,rfl⟩:∃ r,ns=[r]:=by
    rw [hts] at enc
    match ns,enc with
    | [r],_=>exact ⟨r,rfl⟩
   have hr1:Rp T' r (dL p1):=by
    rw [hts] at qX
    cases qX with
    | cons q _=>exact q
   obtain ⟨ao5,cap5,e5,hv5⟩:=aO hown
   obtain ⟨g5,e6,-⟩:=hv5 (by simp)
   injection e5 with e7 e8 e9
   subst e7
   subst e9
   subst e6
   have cr:wr.cell? ⟨g5,0,none⟩=some (.int .i64 (r:Int)):=by
    rw [hown.cellAt 0 (by simp)];rfl
   have mD:=hide (HF wr t' T' S' C' r ok (hide hr.sz) hr1 (by omega))
   rw [hnx.fr.tb] at mD
   have c0:=aa zJ wr hr.nd
   have Mc:=hide hnx
   have hnl:aL.length=1:=by rw [<-en];rfl
   have hI:¬ ((1:Nat):Int)<(aL.length:Int):=by omega
   clear hr HR HI0 c1 hwb HI qX hnx hown HF hv5 hr1
   simp only [List.length_cons,List.length_nil,Nat.zero_add] at hI ⊢
   rw [hnl] at hI ⊢
   clear en enc
   go_wp2_with (go_at_call 78;refine (aa mD).mono ?_;clear mD;rintro e w4 HH;have Db:=hide HH;obtain ⟨r4,t4,T4,S4,C4,rfl,-⟩:=HH)
   go_ret
   exact BO.then (aa Mc) (aa Db)
set_option maxRecDepth 100000 in
set_option maxHeartbeats 4000000 in
theorem acT {m:Nd} {aL:List Nd} {p:Pt} {ts:List Pt} {c:Pt->Nat} {g0:Nat} (h1:m.sh=5) (h2:jG W F m.pv aL) (hlen:aL.length=ts.length) (hz:ts.length<=1000) (HI:∀ (i:Nat) (h:i<aL.length) (h':i<ts.length),Mi B W F aL[i] ts[i] (c ts[i])) {p1:Pt} (hts:ts=[p1]) (HF:∀ (w3:World) (t3:TB) (T3:List Te) (S3 C3:List (Value×Value)) (r:Nat) (ok:Nat->Prop),Hid (Sz B w3 t3 T3 S3 C3)->Rp T3 r (dL p1)->T3.length+g0+100000<=gH->Calls Tryz.prog 81 #[.pointer (some ⟨t3.tb,0,none⟩),.int .i64 (r:Int),.int .i64 m.le,.int .i64 m.mo] w3 (BO B [] [] ok g0 (dL p) w3 t3 T3 S3)):Mi B W F m p (bC (ts.map c)+g0):=by
 intro X t T S C ok hst h hl
 have hp:=gD h2 (aa hst)
 obtain ⟨ao,cap,epv,hv⟩:=aO hp
 obtain ⟨e1,e2,e3⟩:m.pa=ao/\m.pn=aL.length/\m.pc=cap:=by injection epv with e1 e2 e3;exact ⟨e1,e2,e3⟩
 have HPS:Hid (∀ (wr:World) (k:Nat) (hk:k<aL.length),mF W wr F->∃ g,ao=some ⟨g,0,none⟩/\ou wr g (k*7) aL[k]):=fun wr k hk hs=>by
  have hp':=gD h2 hs
  obtain ⟨ao',cap',e',hv'⟩:=aO hp'
  obtain ⟨g',e4,_,_,hgc,_⟩:=hv' (by omega)
  have:ao=ao':=by rw [epv] at e';injection e'
  exact ⟨g',this.trans e4,qi hgc k hk⟩
 have HN:=hide (ax.new X m)
 have HB:Hid (Below X.heap.size X (X.alloc (aB m))):=(Below.refl _ _).alloc (Nat.le_refl _) _
 have HI0:Hid (TH B X t T S c ok ts m W F (.slice none 0 0) (X.alloc (aB m)) [] T t S C):=⟨World.ownsRow_nil _ _ _ _,aa (Sz.alloc h _),.nil,Nx.world (bq.below (aa HB)),(aa hst).below (aa HB),aa HN⟩
 have hmv:gJ m=.agg #[.int .i64 5,.slice ao aL.length cap,.string m.ss,.int .i64 m.le,.int .i64 m.mo,.int .i64 m.fa,.int .i64 m.sz]:=by unfold gJ;rw [h1,e1,e2,e3]
 have Qw:aB m=.cells #[.int .i64 5,.slice ao aL.length cap,.string m.ss,.int .i64 m.le,.int .i64 m.mo,.int .i64 m.fa,.int .i64 m.sz] 65:=by unfold aB;rw [h1,e1,e2,e3]
 rw [hmv]
 rw [Qw] at HI0
 have zJ:Hid (∀ wr,ax wr X.heap.size m->wr.cell? ⟨X.heap.size,0,none⟩=some (.int .i64 5)/\wr.cell? ⟨X.heap.size,3,none⟩=some (.int .i64 m.le)/\wr.cell? ⟨X.heap.size,4,none⟩=some (.int .i64 m.mo)):=fun wr hn=>by obtain ⟨a0,a1,a2,a3,a4,a5,a6⟩:=ax.cells hn;rw [h1] at a0;exact ⟨a0,a3,a4⟩
 have Qx:=hide hlen
 have hnz:aL.length<=1000:=by omega
 have hh0:True:=trivial
 clear hmv Qw HN HB hst h epv hp hv h2 e1 e2 e3 h1 hlen
 generalize m.ss=xs at *
 obtain ⟨xl,hxl⟩:∃ xl,m.le=xl:=⟨_,rfl⟩
 obtain ⟨xm,hxm⟩:∃ xm,m.mo=xm:=⟨_,rfl⟩
 have HMM:Hid (m.le=xl/\m.mo=xm):=⟨hxl,hxm⟩
 simp only [hxl,hxm] at HI0 zJ HF ⊢
 clear hxl hxm
 generalize m.fa=xa at *
 generalize m.sz=xz at *
 obtain ⟨wb,hwb⟩:∃ wb,X.alloc (.cells #[.int .i64 5,.slice ao aL.length cap,.string xs,.int .i64 xl,.int .i64 xm,.int .i64 xa,.int .i64 xz] 65)=wb:=⟨_,rfl⟩
 have c1:wb.cell? ⟨X.heap.size,1,none⟩=some (.slice ao aL.length cap):=by rw [<-hwb];exact aA rfl 1 rfl
 rw [hwb] at HI0
 go_enter Tryz.func52,Tryz.ntmps52
 go_wp2_with fail
 go_loopw [5,11] (fun v i wr=>∃ (ns:List Nat) (T':List Te) (t':TB) (S' C':List (Value×Value)),ns.length<=aL.length/\i=.int .i64 (ns.length:Int)/\(∃ a1 c1,v=.slice a1 ns.length c1)/\Hid (TH B X t T S c ok ts m W F v wr ns T' t' S' C')) (fun _ i _=>aL.length - (intOf i).toNat)
 case atStart=>exact ⟨[],T,t,S,C,Nat.zero_le _,rfl,⟨none,0,rfl⟩,HI0⟩
 case round=>
  obtain ⟨ns,T',t',S',C',hle,rfl,⟨a1,c1',rfl⟩,HR⟩:=hrel
  have hr:=aa HR
  by_cases hlt:ns.length<aL.length
  ·obtain ⟨g,rfl,d0,d1,d2,d3,d4,d5,d6⟩:=aa HPS wr ns.length hlt hr.stay
   have hlc:ns.length<ts.length:=by have:=aa Qx;omega
   have hcg:ts[ns.length]? = some ts[ns.length]:=List.getElem?_eq_getElem hlc
   have Qy:=HI ns.length hlt hlc
   have hs1:=nE c ts ns.length _ hcg
   have hs2:=hr.nx.len
   generalize ts[ns.length]=pp at *
   have ql:=hide (Qy (wr.alloc (aB aL[ns.length])) t' T' S' C' ok (hide (hr.stay.below ((Below.refl _ _).alloc (Nat.le_refl _) _))) (Sz.alloc (hide hr.sz) _) (by omega))
   rw [hr.nx.fr.tb] at ql
   have CZ:=hide (fun (n:Nat) (T2:List Te) (t2:TB) (S2 C2:List (Value×Value)) (w2 w3:World) (g3 gB:Nat) (x1:Rp T2 n (dL pp)) (x2:Sz B w2 t2 T2 S2 C2) (x3:Nx [] [] ok (c pp) (wr.alloc (aB aL[ns.length])) t' T' S' w2 t2 T2 S2) (x4:w3.ownsRow X.heap.size 3 1 (.slice (some ⟨g3,0,none⟩) (ay ns++[(n:Int)]).length gB) (ay ns++[(n:Int)]).length (ints (ay ns++[(n:Int)]))) (x5:Mh w2 w3 (.slice a1 ns.length c1'))=>hr.next (o:=aB aL[ns.length]) hcg x1 x2 x3 x4 x5)
   have HOW:=hide (fun (w2:World) (t2:TB) (x3:bq t' t2 (wr.alloc (aB aL[ns.length])) w2)=>nD (hr.own.alloc (aB aL[ns.length])) (aa (bf.alloc (hide hr.sz.tab) _)) x3 (by decide) (by decide))
   have hXs:X.heap.size<=wr.heap.size:=hr.nx.fr.size
   have hI:(ns.length:Int)<(aL.length:Int):=by omega
   have hI0:(0:Int)<=(ns.length:Int):=by omega
   generalize aL[ns.length]=m1 at *
   obtain ⟨Qz,QB,QC,QD,QE,QF,QG,fa1,QH⟩:=m1
   dsimp only [gJ,aB] at ql CZ HOW
   dsimp only at d0 d1 d2 d3 d4 d5 d6
   obtain ⟨w1,hw1⟩:∃ w1,wr.alloc (.cells #[.int .i64 Qz,.slice QB QC QD,.string QE,.int .i64 QF,.int .i64 QG,.int .i64 fa1,.int .i64 QH] 65)=w1:=⟨_,rfl⟩
   have b0:w1.cell? ⟨wr.heap.size,0,none⟩=some (.int .i64 Qz):=by rw [<-hw1];exact aA rfl 0 rfl
   have b1:w1.cell? ⟨wr.heap.size,1,none⟩=some (.slice QB QC QD):=by rw [<-hw1];exact aA rfl 1 rfl
   have b2:w1.cell? ⟨wr.heap.size,2,none⟩=some (.string QE):=by rw [<-hw1];exact aA rfl 2 rfl
   have b3:w1.cell? ⟨wr.heap.size,3,none⟩=some (.int .i64 QF):=by rw [<-hw1];exact aA rfl 3 rfl
   have b4:w1.cell? ⟨wr.heap.size,4,none⟩=some (.int .i64 QG):=by rw [<-hw1];exact aA rfl 4 rfl
   have b5:w1.cell? ⟨wr.heap.size,5,none⟩=some (.int .i64 fa1):=by rw [<-hw1];exact aA rfl 5 rfl
   have b6:w1.cell? ⟨wr.heap.size,6,none⟩=some (.int .i64 QH):=by rw [<-hw1];exact aA rfl 6 rfl
   have hs1':wr.heap.size<=w1.heap.size:=by rw [<-hw1];simp
   rw [hw1] at ql CZ HOW
   clear hr Qy hcg HR HI0 c1 hwb HI hs1 hs2
   go_wp2_with (first
    | (go_at_call 52;refine (aa ql).mono ?_;clear ql;rintro e w2 ⟨n,t2,T2,S2,C2,rfl,HR2,xQ,iI⟩;have jJ:=hide (aa HOW w2 t2 (aa iI).fr);have hs2:X.heap.size<=w2.heap.size:=Nat.le_trans (Nat.le_trans hXs hs1') (aa iI).fr.size)
    | (at_builtin;refine xH X.heap.size w2 (ay ns) (.slice a1 ns.length c1') (n:Int) (.tmp 15) (.tmp 19) rfl rfl rfl rfl jJ hs2 (by rw [aM];omega) ?_;intro g3 gB w3 qw HG3))
   go_roundw
   case rel=>
    have HX:=hide (aa CZ n T2 t2 S2 C2 w2 w3 g3 gB HR2 (aa xQ) (aa iI) (aa qw) (aa HG3))
    have el:(ay (ns++[n])).length=ns.length+1:=by rw [aM,List.length_append];rfl
    rw [el] at HX
    have hle':(ns++[n]).length<=aL.length:=by rw [List.length_append];exact hlt
    have QI:(ns++[n]).length=ns.length+1:=by simp
    exact ⟨ns++[n],T2,t2,S2,C2,hle',by rw [QI];rfl,⟨some ⟨g3,0,none⟩,gB,by rw [QI,aM]⟩,by rw [aM];exact HX⟩
   case measure=>simp [intOf];omega
  ·have en:ns.length=aL.length:=by omega
   have enc:ns.length=ts.length:=by have:=aa Qx;omega
   have qX:=hr.rp
   have hnx:=hr.nx
   rw [enc,List.take_length] at qX hnx
   have hln:=hnx.len
   have hown:=hr.own
   rw [aM] at hown
   obtain ⟨r,rfl⟩:∃ r,ns=[r]:=by
    rw [hts] at enc
    match ns,enc with
    | [r],_=>exact ⟨r,rfl⟩
   have hr1:Rp T' r (dL p1):=by
    rw [hts] at qX
    cases qX with
    | cons q _=>exact q
   obtain ⟨ao5,cap5,e5,hv5⟩:=aO hown
   obtain ⟨g5,e6,-⟩:=hv5 (by simp)
   injection e5 with e7 e8 e9
   subst e7
   subst e9
   subst e6
   have cr:wr.cell? ⟨g5,0,none⟩=some (.int .i64 (r:Int)):=by
    rw [hown.cellAt 0 (by simp)];rfl
   have mD:=hide (fun q=>HF (wr.drewN q) t' T' S' C' r ok (Sz.drewN (hide hr.sz) q) hr1 (by omega))
   have aei:Hid (bf (wr.drewN 1) t' T' (ak T') S' C'):=(aa (Sz.drewN (hide hr.sz) 1)).tab
   have aeZ:Hid (ax (wr.drewN 1) X.heap.size m):=hr.nd
   have HOWN:Hid ((wr.drewN 1).ownsRow X.heap.size 3 1 (.slice (some ⟨g5,0,none⟩) 1 c1') 1 (ints (ay [r]))):=hown
   rw [hnx.fr.tb] at mD
   obtain ⟨c0,c3,c4⟩:=aa zJ wr hr.nd
   have Mc:=hide hnx
   have hnl:aL.length=1:=by rw [<-en];rfl
   have hI:¬ ((1:Nat):Int)<(aL.length:Int):=by omega
   clear hr HR HI0 c1 hwb HI qX hnx hown HF hv5 hr1
   simp only [List.length_cons,List.length_nil,Nat.zero_add] at hI ⊢
   rw [hnl] at hI ⊢
   clear en enc
   have HME:Hid (m.le=xl/\m.mo=xm):=HMM
   go_wp2_with fail
   go_region_held3 (fun w'=>w'.cell? ⟨g5,0,none⟩=some (.int .i64 (r:Int))/\w'.cell? ⟨X.heap.size,3,none⟩=some (.int .i64 xl)/\w'.cell? ⟨X.heap.size,4,none⟩=some (.int .i64 xm)) (go_keep)
    ((go_at_call 81;refine (aa mD 1).mono ?_;clear mD;rintro e w4 HH;have Db:=hide HH;obtain ⟨r4,t4,T4,S4,C4,rfl,-,-,Xe⟩:=HH;have hq1:w4.cell? ⟨g5,0,none⟩=some (.int .i64 (r:Int)):=(by rw [(Ao (aa aei) (aa HOWN) (aa Xe).fr).cellAt 0 (by simp)];rfl);have hnd:=ax.cells (aa (LJ aeZ aei (hide (aa Xe).fr)));have hq3:=hnd.2.2.2.1;have hq4:=hnd.2.2.2.2.1;rw [(aa HME).1] at hq3;rw [(aa HME).2] at hq4;clear hnd))
   go_wp2_with fail
   go_ret
   exact (BO.then ((aa Mc).trans (Nx.world (bq.drewN (bq.refl _ _) 1))) (aa Db)).less (by omega)
end
end Go.Proofs.YtfolanohokflkaaGreatDoor
namespace Go.Proofs.YtfolanohokflkaaGreatDoor
open Go.RowKit
open Tm (eps)
theorem qP:∀ t:Tm,dZ t<=bJ t+1
 | .chain a b=>by have:=qP a;have:=qP b;simp only [dZ,bJ];omega
 | .set _=>by simp [dZ]
 | .eps=>by simp [dZ]
 | .star _=>by simp [dZ]
 | .not _=>by simp [dZ]
 | .aW _ _ _=>by simp [dZ]
theorem QJ:∀ (l:List Tm),l.length<=bC (l.map fun m=>bJ m+1)
 | []=>by simp
 | a::l=>by have:=QJ l;simp only [List.length_cons,List.map_cons,bC];omega
theorem Dr (k:Bool) (t:Tm):(memT k t).length<=bJ t+1:=by rw [<-Vk k t];exact QJ _
inductive Fit (B:List Int):Pt->Prop where
 | set {l:ah}:Tidy l->cu B l->l.length<=1000->Fit B (.set l)
 | row {l:List Pt}:(∀ p∈l,Fit B p)->bJ (dL (.row l))<=10000->l.length<=1000->Fit B (.row l)
 | aW {k:Bool} {l:List Pt}:(∀ p∈l,Fit B p)->bJ (dL (.aW k l))<=10000->l≠[]->l.length<=1000->Fit B (.aW k l)
 | not {a:Pt}:Fit B a->bJ (dL (.not a))<=10000->Fit B (.not a)
 | rep {a:Pt} {n:Nat} {m:Option Nat}:Fit B a->bJ (dL (.rep a n m))<=10000->n<=1000->(∀ m',m=some m'->n<=m'/\m'<=1000)->Fit B (.rep a n m)
theorem Fit.nz {B:List Int} {p:Pt} (h:Fit B p):bJ (dL p)<=10000:=by
 cases h with
 | set _ _ _=>exact Nat.zero_le _
 | row _ h _=>exact h
 | aW _ h _ _=>exact h
 | not _ h=>exact h
 | rep _ h _ _=>exact h
mutual
def cP:Pt->Nat
 | .set _=>30000000
 | .row l=>cPs l+30000000
 | .aW _ l=>cPs l+30000000
 | .not a=>cP a+30000000
 | .rep a _ _=>cP a+30000000
def cPs:List Pt->Nat
 | []=>0
 | p::r=>cP p+cPs r
end
theorem Hu:∀ l:List Pt,cPs l=bC (l.map cP)
 | []=>rfl
 | p::r=>by rw [cPs,Hu r];rfl
section
variable {B:List Int} {W:World} {F:Nat->Prop}
set_option maxRecDepth 100000 in
set_option maxHeartbeats 4000000 in
theorem acU {m:Nd} {l:ah} (h1:m.sh=0) (h2:m.ss=encS l) (h3:m.pn=0) (ht:Tidy l) (hb:cu B l) (hz:l.length<=1000):Mi B W F m (.set l) 1:=by
 intro X t T S C ok hst h hl
 obtain ⟨sh,pa,pn,pc,ss,le,mo,fa,sz⟩:=m
 dsimp only at h1 h2 h3
 subst h1 h2 h3
 have hs:(encS l).size<=maxLen:=by
  have:=yH l
  unfold maxLen
  omega
 have HST:=hide (fun (X':World) (hbl:Below X.heap.size X X')=>FY (S:=S) (C:=C) (s:=encS l) (hide (aa (Sz.below h hbl)).tab) hs (by have:=(Op.set (aa h).ti ht hb).len;omega))
 have mD:=hide (Op.set (aa h).ti ht hb)
 clear hs hst hl ht hb hz
 generalize hR:fO T (encS l)=R at *
 generalize encS l=s at *
 unfold gJ
 dsimp only
 obtain ⟨wb,hwb⟩:∃ wb,X.alloc (.cells #[.int .i64 0,.slice pa 0 pc,.string s,.int .i64 le,.int .i64 mo,.int .i64 fa,.int .i64 sz] 65)=wb:=⟨_,rfl⟩
 have HB:Hid (Below X.heap.size X wb):=by rw [<-hwb];exact (Below.refl _ _).alloc (Nat.le_refl _) _
 have c0:wb.cell? ⟨X.heap.size,0,none⟩=some (.int .i64 0):=by rw [<-hwb];exact aA rfl 0 rfl
 have c1:wb.cell? ⟨X.heap.size,1,none⟩=some (.slice pa 0 pc):=by rw [<-hwb];exact aA rfl 1 rfl
 have c2:wb.cell? ⟨X.heap.size,2,none⟩=some (.string s):=by rw [<-hwb];exact aA rfl 2 rfl
 have aej:=hide (aa HST wb (aa HB))
 clear HST
 go_enter Tryz.func52,Tryz.ntmps52
 go_wp2_with fail
 go_loopw [5,11] (fun v i wr=>v=.slice none 0 0/\i=.int .i64 0/\Hid (wr=wb)) (fun _ _ _=>0)
 case atStart=>exact ⟨rfl,rfl,rfl⟩
 case round=>
  obtain ⟨rfl,rfl,HW⟩:=hrel
  obtain rfl:wr=wb:=aa HW
  go_wp2_with (go_at_call 82;refine (aa aej).mono ?_;clear aej;rintro e w4 ⟨rfl,t4,zi,WI⟩)
  go_ret
  have h5:=BO.of (G:=[]) (V:=[]) (ok:=ok) (Sz.below h (aa HB)) (aa mD) ⟨rfl,t4,zi,WI⟩
  exact h5.lift (bq.below (aa HB)) (fun _ h=>h)
theorem QK {w3 X:World} {ns:List Nat} {ao:Option Addr} {n cap:Nat} (h0:0<n) (hn:ns.length=n) (ho:w3.ownsRow X.heap.size 3 1 (.slice ao n cap) n (ints (ay ns))):∃ g,ao=some ⟨g,0,none⟩/\g<w3.heap.size/\∀ j x,(ay ns)[j]? = some x->w3.cell? ⟨g,j,none⟩=some (.int .i64 x):=by
 obtain ⟨ao',cap',e,hv⟩:=aO ho
 injection e with e1 e2 e3
 obtain ⟨g,e4,-⟩:=hv h0
 rw [e4] at e1
 subst e1
 refine ⟨g,rfl,(ho.lt g rfl).2,fun j x hj=>?_⟩
 have hjl:j<ns.length:=by
  have:=(List.getElem?_eq_some_iff.1 hj).1
  rwa [aM] at this
 rw [ho.cellAt j (by omega)]
 unfold ints
 rw [List.getElem?_map,hj];rfl
theorem QM (l:List Pt):wy l=l.map dL:=wB l
theorem aaF {k:Bool} {ts:List Pt} (hB:B.length<=480) (hf:∀ p∈ts,Fit B p) (hn:bJ (dL (.aW k ts))<=10000) (hne:ts≠[]) (hz:ts.length<=1000):Ou B (kG k) (.aW k ts) ts 20000:=by
 intro w3 X t3 T3 S3 C3 ns ao cap ok h hr hl hlim ho
 have h0:0<ts.length:=by cases ts with
  | nil=>exact absurd rfl hne
  | cons _ _=>simp
 obtain ⟨g,rfl,hg,hc⟩:=QK h0 hl ho
 have e:dL (.aW k ts)=aj k (ts.map dL):=by rw [dL,QM]
 have hmm:=Dr k (dL (.aW k ts))
 rw [e] at hmm hn ⊢
 have:=Xg (G:=[]) (V:=[]) (ok:=ok) (cap0:=cap) k h hB hr (by intro q;rw [q] at hl;simp at hl;omega) (by omega) (fun t ht=>by
  obtain ⟨p,hp,rfl⟩:=List.mem_map.1 ht
  have:=Dr k (dL p)
  have:=(hf p hp).nz
  omega) (by omega) (by omega) hc hg
 rw [hl] at this
 exact this.mono fun _ _ q=>q.less (by omega)
theorem aaG {ts:List Pt} (hf:∀ p∈ts,Fit B p) (hz:ts.length<=1000):Ou B 80 (.row ts) ts 20000000:=by
 intro w3 X t3 T3 S3 C3 ns ao cap ok h hr hl hlim ho
 have e:dL (.row ts)=kP (ts.map dL):=by rw [dL,QM]
 rw [e]
 have hm:ns.length*10001<=1000*10001:=Nat.mul_le_mul_right _ (by omega)
 exact (Ot (G:=[]) (V:=[]) (ok:=ok) (M:=10001) (w0:=X) h hr (by omega) (fun y hy=>by
  obtain ⟨p,hp,rfl⟩:=List.mem_map.1 hy
  have:=qP (dL p)
  have:=(hf p hp).nz
  omega) (by omega) (by rw [hl];exact ho)).mono fun _ _ q=>q.less (by omega)
theorem zw {k:Bool} {p:Pt} (hB:B.length<=480) (hf:Fit B p):Ou B (kG k) p [p] 0:=by
 intro w3 X t3 T3 S3 C3 ns ao cap ok h hr hl hlim ho
 obtain ⟨g,rfl,hg,hc⟩:=QK (by simp) hl ho
 obtain ⟨r,rfl⟩:∃ r,ns=[r]:=by
  match ns,hl with
  | [r],_=>exact ⟨r,rfl⟩
 cases hr with
 | cons h1 h2=>
  have hcn:=(aa h).ti.cn h1
  have hnz:=hf.nz
  have hm:=Dr k (dL p)
  have eg:aj k [dL p]=dL p:=group_one' hcn
  have hrl:iA T3 [r] [dL p]:=.cons h1 .nil
  have hT:=(aa h).ti
  have ng:∀ t∈[dL p],(memT k t).length<=200000:=fun t ht=>by rw [List.mem_singleton.1 ht];omega
  have Tc:(memT k (aj k [dL p])).length<=200000:=by rw [eg];omega
  have hlm:T3.length+(memT k (aj k [dL p])).length+2<=gH:=by rw [eg];omega
  have fin:∀ e w',(∃ R,Op B T3 R (aj k [dL p]) ((memT k (aj k [dL p])).length+1)/\(∀ r',[r]=[r']->R=(T3,r'))/\FX R w3 t3 S3 C3 e w')->BO B [] [] ok 0 (dL p) w3 t3 T3 S3 e w':=by
   rintro e w' ⟨R,-,h4,h5⟩
   rw [h4 r rfl] at h5
   exact BO.of h (Op.same hT h1) h5
  cases k
  ·exact (WC (cap0:=cap) (hide (aa h).tab) hT hB hrl (by simp) (by simp) ng Tc hlm hc hg).mono fin
  ·exact (Xb (cap0:=cap) (hide (aa h).tab) hT hB hrl (by simp) (by simp) ng Tc hlm hc hg).mono fin
theorem XM (T:List Te) (n:Nat):zM T [n]=(T,n):=by
 by_cases h0:n=0
 ·subst h0
  unfold zM sU dH
  simp
 ·exact NH h0
theorem LK {p:Pt} (hf:Fit B p):Ou B 80 p [p] 0:=by
 intro w3 X t3 T3 S3 C3 ns ao cap ok h hr hl hlim ho
 obtain ⟨r,rfl⟩:∃ r,ns=[r]:=by
  match ns,hl with
  | [r],_=>exact ⟨r,rfl⟩
 have hr':=hr
 cases hr with
 | cons h1 h2=>
  have hT:=(aa h).ti
  have hnz:=hf.nz
  have hlc:=qP (dL p)
  have:=KN (hide (aa h).tab) (hide (XH (aa h).tab ho)) (hide (FN (M:=10001) hT hr' (by simp;omega) (fun y hy=>by rw [List.mem_singleton.1 hy];omega))) hT.r1.lt (by simp)
  rw [XM] at this
  exact this.mono fun _ _ q=>BO.of h (Op.same hT h1) q
set_option maxRecDepth 100000 in
theorem acV (hB:B.length<=480) {m:Nd} {p:Pt} (h:iN W F m p):Fit B p->Mi B W F m p (cP p):=by
 have up:∀ {m:Nd} {p:Pt} {g g':Nat},Mi B W F m p g->g<=g'->Mi B W F m p g':=fun h hg X t T S C ok h1 h2 h3=>(h X t T S C ok h1 h2 (by omega)).mono fun _ _ q=>q.less hg
 induction h with
 | @set n l h1 h2 h3=>
  intro hf
  cases hf with
  | set a1 a2 a3=>exact up (acU h1 h2 h3 a1 a2 a3) (by rw [cP];omega)
 | @aW n k aL ts h1 h2 h3 h4 ih=>
  intro hf
  cases hf with
  | aW a1 a2 a3 a4=>
   have hI:∀ (i:Nat) (h:i<aL.length) (h':i<ts.length),Mi B W F aL[i] ts[i] (cP ts[i]):=fun i hi hi'=>ih i hi hi' (a1 _ (List.getElem_mem _))
   have hF:=aaF hB a1 a2 a3 a4
   have hc:bC (ts.map cP)+20000<=cP (.aW k ts):=by rw [cP,Hu];omega
   cases k
   ·exact up (XJ h1 h2 h3 a4 hI hF) hc
   ·exact up (XK h1 h2 h3 a4 hI hF) hc
 | @row n aL ts h1 h2 h3 h4 ih=>
  intro hf
  cases hf with
  | row a1 a2 a4=>exact up (XL h1 h2 h3 a4 (fun i hi hi'=>ih i hi hi' (a1 _ (List.getElem_mem _))) (aaG a1 a4)) (by rw [cP,Hu];omega)
 | @not n m a h1 h2 h3 ih=>
  intro hf
  cases hf with
  | not a1 a2=>exact up (acS (ts:=[a]) (p1:=a) (c:=cP) (g0:=1) h1 h2 rfl (by simp) (fun i hi hi'=>by
    have:i=0:=by simpa using hi'
    subst this
    exact ih a1) rfl fun w3 t3 T3 S3 C3 r ok hs hr hl=>by rw [dL];exact WZ hs hr (by omega)) (by rw [cP];simp only [List.map_cons,List.map_nil,bC];omega)
 | @rep n m a least most h1 h2 h3 h4 h5 ih=>
  intro hf
  cases hf with
  | rep a1 a2 a3 a4=>
   have hna:=a1.nz
   have l1:=qP (dL a)
   refine up (acT (ts:=[a]) (p1:=a) (c:=cP) (g0:=29000000) h1 h2 rfl (by simp) (fun i hi hi'=>by
    have:i=0:=by simpa using hi'
    subst this
    exact ih a1) rfl fun w3 t3 T3 S3 C3 r ok hs hr hl=>?_) (by rw [cP];simp only [List.map_cons,List.map_nil,bC];omega)
   rw [dL,h4,h5]
   have hcn:=(aa hs).ti.cn hr
   cases most with
   | none=>
    have l2:=qP (gN (dL a))
    have l3:=Pk (dL a)
    have hm:(least+1)*10003<=1001*10003:=Nat.mul_le_mul_right _ (by omega)
    exact LG (M:=10003) hs hr a3 (by omega) (by omega) (by omega) (by omega)
   | some m'=>
    obtain ⟨b1,b2⟩:=a4 m' rfl
    have l2:=qP (mW (dL a))
    have l3:=Vn hcn
    have l4:=Dr false (dL a)
    have l5:=Dr false (mW (dL a))
    have hm:m'*10003<=1000*10003:=Nat.mul_le_mul_right _ b2
    have hm2:(m' - least)*10004<=1000*10004:=Nat.mul_le_mul_right _ (by omega)
    exact LH (M:=10003) (K:=10003) hB hs hr b1 b2 (by omega) (by omega) (by omega) (by omega) (by omega) (by omega) (by omega)
 | @one n m p h1 h2 h3 ih=>
  intro hf
  have hI:∀ (i:Nat) (h:i < [m].length) (h':i < [p].length),Mi B W F [m][i] [p][i] (cP [p][i]):=fun i hi hi'=>by
   have:i=0:=by simpa using hi'
   subst this
   exact ih hf
  have hc:bC ([p].map cP)+0<=cP p:=by simp [bC]
  rcases h1 with e | e | e
  ·exact up (XJ e h2 rfl (by simp) hI (zw (k:=false) hB hf)) hc
  ·exact up (XK e h2 rfl (by simp) hI (zw (k:=true) hB hf)) hc
  ·exact up (XL e h2 rfl (by simp) hI (LK hf)) hc
end
end Go.Proofs.YtfolanohokflkaaGreatDoor
