import Derived.Test.YtfolanohokflkaaGreatDoorNdR
import Derived.WalkKit
import Derived.WalkSpells
import Derived.WalkLawsBesides
import Derived.WalkMore
namespace Go.Proofs.YtfolanohokflkaaGreatDoor
open Go.RowKit
section
variable {w0 w:World} {b:Nat} {s:ByteArray} {d:Int} {l:List Sy}
set_option maxRecDepth 100000 in
set_option maxHeartbeats 4000000 in
theorem Ao (h:Hid (PL w0 w b s d l)) {v:Bool} (hv:Hid (kC (hd l)=v)) :
  Calls Tryz.prog 279 #[.pointer (some ⟨b,0,none⟩)] w fun x w'=>x=.returned (.bool v)/\Hid (PL w0 w' b s d l):=by
 have hge:=hd_ge' l
 by_cases hb:hd l<0\/hd l=124\/hd l=38\/hd l=41
 ·obtain rfl:v=true:=by rw [<-aa hv];simpa [kC] using hb
  have hb2:hd l=-1\/hd l=124\/hd l=38\/hd l=41:=by omega
  clear hb hge hv
  rcases hb2 with hb | hb | hb | hb
  all_goals
   have gK:=hide hb
   clear hb
   go_enter Tryz.func279,Tryz.ntmps279
   go_wp2_with (first
    | (go_at_call 251;refine (dX h gK).mono ?_;clear h;rintro x w1 ⟨rfl,HS⟩))
   go_ret
   exact ⟨rfl,HS⟩
 ·obtain rfl:v=false:=by rw [<-aa hv];simpa [kC] using hb
  obtain ⟨c,hcc⟩:∃ c,hd l=c:=⟨_,rfl⟩
  have gK:=hide hcc
  rw [hcc] at hb
  have k1:(c==124)=false:=by simp;omega
  have k2:(c==38)=false:=by simp;omega
  have k3:(c==41)=false:=by simp;omega
  have k4:(c==-1)=false:=by simp;omega
  clear hb hge hv hcc
  go_enter Tryz.func279,Tryz.ntmps279
  go_wp2_with (first
   | (go_at_call 251;refine (dX h gK).mono ?_;clear h;rintro x w1 ⟨rfl,HS⟩))
  go_ret
  exact ⟨rfl,HS⟩
def KU (n:Nat) (at_:List Sy->bn Pn) (R:bn Pn) (ps:List Pn) (l:List Sy):Prop:=
 (ps=[]/\rowP n at_ l=R)\/(ps≠[]/\∃ f,l.length<f/\oK fI (bL n at_ f ps l)=R)
theorem KU.fin {n:Nat} {at_:List Sy->bn Pn} {R:bn Pn} {ps:List Pn} {l:List Sy} (h:KU n at_ R ps l) (he:kC (hd l)=true):R=.ok (fI ps,l):=by
 rcases h with ⟨rfl,h⟩ | ⟨_,f,hf,h⟩
 ·rw [<-h,rowP,if_pos he]
 ·obtain ⟨f,rfl⟩:∃ f',f=f'+1:=⟨f - 1,by omega⟩
  rw [<-h,bL,if_pos he];rfl
theorem KU.err {n:Nat} {at_:List Sy->bn Pn} {R:bn Pn} {ps:List Pn} {l:List Sy} (h:KU n at_ R ps l) (he:¬ kC (hd l)=true) {y:Int×Int} (hi:dW n at_ (l.length+1) l=.error y):R=.error y:=by
 rcases h with ⟨rfl,h⟩ | ⟨_,f,hf,h⟩
 ·rw [<-h,rowP,if_neg he,hi]
 ·obtain ⟨f,rfl⟩:∃ f',f=f'+1:=⟨f - 1,by omega⟩
  rw [<-h,bL,if_neg he,hi];rfl
theorem KU.next {n:Nat} {at_:List Sy->bn Pn} {R:bn Pn} {ps:List Pn} {l l1:List Sy} (h:KU n at_ R ps l) (he:¬ kC (hd l)=true) {y:Pn} (hi:dW n at_ (l.length+1) l=.ok (y,l1)) (hl:l1.length<l.length):KU n at_ R (ps++[y]) l1:=by
 rcases h with ⟨rfl,h⟩ | ⟨_,f,hf,h⟩
 ·exact .inr ⟨by simp,l1.length+1,Nat.lt_succ_self _,by rw [<-h,rowP,if_neg he,hi];rfl⟩
 ·obtain ⟨f,rfl⟩:∃ f',f=f'+1:=⟨f - 1,by omega⟩
  exact .inr ⟨by simp,f,by omega,by rw [<-h,bL,if_neg he,hi]⟩
theorem NM {ops:Array Oper} {rest:List Oper} {o:Oper} {a:Act} {Q:Exit->Act->World->Prop} (B:Nat) (wr:World) (aM:List Nd) (n:Nd) (v:Value) (so xo:Operand) (hg:o.guard=none)
  (hop:o.op=.call { callee:=.builtin .append,args:=#[so,xo],argTypes:=#[60,60] }) (hs:a.eval so=v) (hx:a.eval xo=.slice (some ⟨wr.heap.size,0,none⟩) 1 1)
  (ho:Hid (wr.ownsRow B 65 7 v aM.length (dE aM))) (hB:B<=wr.heap.size) (hl:aM.length<=2000)
  (K:∀ g cap w',Hid (w'.ownsRow B 65 7 (.slice (some ⟨g,0,none⟩) (aM.length+1) cap) (aM++[n]).length (dE (aM++[n])))->Hid ((wr.alloc (aB n)).grownBy w' v.ownBlock)->Hid (v.ownBlock=some g\/g=wr.heap.size+1)->wpList Tryz.prog ops Q rest (a.put o.dst (.slice (some ⟨g,0,none⟩) (aM.length+1) cap)) w') :
  wpList Tryz.prog ops Q (o::rest) a (wr.alloc (aB n)):=by
 obtain ⟨i0,hi0,hz0,hz1,hz2⟩:=info_parts abg
 refine wpList_append_lies _ hg so xo 60 hop B 65 i0 (gm nd0) 7 80 Tryz.underlying60 hi0 hz0 hz1 hz2 rfl (by decide) _ _ _ hs ((aa ho).alloc _) ⟨wr.heap.size,0,none⟩ 1 1 (LX n) hx rfl (bz wr (LX n) _) ?_ (by decide) (by unfold maxLen;omega) (by omega) (by simp;omega) (wr.heap.size+1) (by simp) ?_
 ·intro u hu
  simp only [LX,List.mem_cons,List.not_mem_nil,or_false] at hu
  rcases hu with rfl | rfl | rfl | rfl | rfl | rfl | rfl<;>rfl
 ·intro g cap w' h1 h2 h3 _
  have e:(aM++[n]).length=aM.length+1:=by simp
  have e2:dE (aM++[n])=dE aM++LX n:=by rw [BB];simp [dE]
  exact K g cap w' (by rw [e,e2];exact h1) h2 h3
def jf (w1 wr:World) (v:Value) (aM:List Nd) (ps:List Pn):Prop:=
 wr.ownsRow w1.heap.size 65 7 v aM.length (dE aM)/\wD wr (fun j=>w1.heap.size<=j/\v.ownBlock≠some j) aM ps/\pI ps
theorem jf.up {w1 wr w2:World} {v:Value} {aM:List Nd} {ps:List Pn} (h:Hid (jf w1 wr v aM ps)) (hb:b<w1.heap.size) (hu:Up b wr w2):Hid (jf w1 w2 v aM ps):=by
 obtain ⟨h1,h2,h3⟩:=aa h
 exact ⟨UD h1 hu fun e=>by have:=(h1.lt _ e).1;omega,h2.move fun j hj hl=>⟨hu.block j hl (by omega),hj⟩,h3⟩
theorem jf.next {w1 w2 w3 w5:World} {v:Value} {aM:List Nd} {ps:List Pn} {n:Nd} {y:Pn} {g cap:Nat} (h2:Hid (jf w1 w2 v aM ps)) (h3:Hid (jf w1 w3 v aM ps)) (hn:Hid (aV w3 (fun j=>w2.heap.size<=j) n y)) (hs:w1.heap.size<=w2.heap.size) (hy0:0<=y.2) (yH:y.2<=61)
  (ho:Hid (w5.ownsRow w1.heap.size 65 7 (.slice (some ⟨g,0,none⟩) (aM.length+1) cap) (aM++[n]).length (dE (aM++[n])))) (hg:Hid ((w3.alloc (aB n)).grownBy w5 v.ownBlock)) (hat:Hid (v.ownBlock=some g\/g=w3.heap.size+1)) :
  Hid (jf w1 w5 (.slice (some ⟨g,0,none⟩) (aM.length+1) cap) (aM++[n]) (ps++[y])):=by
 obtain ⟨a1,a2,a3⟩:=aa h3
 obtain ⟨b1,-,-⟩:=aa h2
 have hat':=aa hat
 have hbl:∀ j,j<w3.heap.size->v.ownBlock≠some j->w5.heap[j]? = w3.heap[j]? := fun j hj hne=>((aa hg).block j (by simp;omega) (fun e=>hne e.symm)).trans (Below.heap_alloc w3 _ j hj)
 have hgj:∀ j,j<w3.heap.size->v.ownBlock≠some j->(Value.slice (some ⟨g,0,none⟩) (aM.length+1) cap).ownBlock≠some j:=by
  intro j hj hne e
  have e':g=j:=by simpa [Value.ownBlock] using e
  subst e'
  rcases hat' with h | h
  ·exact hne h
  ·omega
 refine ⟨ho,wD.snoc (a2.move fun j hj hl=>⟨hbl j hl hj.2,hj.1,hgj j hl hj.2⟩) (aa (aV.move hn fun j hj hl=>?_)),a3.snoc hy0 yH⟩
 have hne:v.ownBlock≠some j:=fun e=>by have:=(b1.lt j e).2;omega
 exact ⟨hbl j hl hne,by omega,hgj j hl hne⟩
end
section
variable {w0 w:World} {b:Nat} {s:ByteArray} {d:Int} {l:List Sy}
theorem Fp {w1 W:World} {ao:Option Addr} {n cap:Nat} {aM:List Nd} {ps:List Pn} (h:jf w1 W (.slice ao n cap) aM ps):jo W (fun j=>w1.heap.size<=j) (.slice ao n cap) aM:=
 ⟨h.1.mono (Nat.zero_le _),fun k hk=>(h.1.lt k hk).1⟩
theorem PN {w1 W:World} {v:Value} {aM:List Nd} {ps:List Pn} (h:jf w1 W v aM ps):wD W (fun j=>w1.heap.size<=j) aM ps:=h.2.1.move fun _ hj _=>⟨rfl,hj.1⟩
theorem ZG {w1 W:World} {ao:Option Addr} {n cap:Nat} {aM:List Nd} {ps:List Pn} (h:jf w1 W (.slice ao n cap) aM ps) (hne:ps≠[]):aV W (fun j=>w1.heap.size<=j) ⟨3,ao,n,cap,⟨#[]⟩,0,0,0,vG ps⟩ (fI ps):=by
 have hA:=PN h
 have hP:=Fp h
 refine ⟨(uW h.2.2 hne).symm,?_⟩
 unfold fI
 split
 ·rename_i p
  obtain ⟨m,rfl⟩:∃ m,aM=[m]:=List.length_eq_one_iff.1 hA.1
  exact .one (.inr (.inr rfl)) hP (hA.2 0 (by simp) (by simp)).2
 ·refine .row rfl hP (by simp [hA.1]) fun i h1 h2=>?_
  rw [List.getElem_map]
  exact (hA.2 i h1 (by simpa using h2)).2
theorem PO {w1 W:World} {ao:Option Addr} {n cap:Nat} {aM:List Nd} {ps:List Pn} (k:Bool) (h:jf w1 W (.slice ao n cap) aM ps):aV W (fun j=>w1.heap.size<=j) ⟨if k=true then 2 else 1,ao,n,cap,⟨#[]⟩,0,0,0,vG ps⟩ (jg k ps):=by
 have hA:=PN h
 have hP:=Fp h
 refine ⟨(uX h.2.2).symm,?_⟩
 generalize hsh:(if k=true then (2:Int) else 1)=sh
 unfold jg
 split
 ·rename_i p
  obtain ⟨m,rfl⟩:∃ m,aM=[m]:=List.length_eq_one_iff.1 hA.1
  exact .one (by subst hsh;cases k<;>simp) hP (hA.2 0 (by simp) (by simp)).2
 ·refine .aZ hsh.symm hP (by simp [hA.1]) fun i h1 h2=>?_
  rw [List.getElem_map]
  exact (hA.2 i h1 (by simpa using h2)).2
theorem jf.below {w1 wr w2:World} {v:Value} {aM:List Nd} {ps:List Pn} (h:Hid (jf w1 wr v aM ps)) (hb:Below wr.heap.size wr w2):Hid (jf w1 w2 v aM ps):=by
 obtain ⟨h1,h2,h3⟩:=aa h
 exact ⟨BC h1 fun k _ hl=>hb.block k hl,h2.move fun j hj hl=>⟨hb.block j hl,hj⟩,h3⟩
def adS (R:bn Pn) (at_:List Sy->bn Pn) (w1 wr:World) (b:Nat) (s:ByteArray) (d:Int) (v:Value) (n:Nat):Prop:=
 ∃ l aM ps,KU s.size at_ R ps l/\n=aM.length/\ps.length+l.length<=60/\Hid (jf w1 wr v aM ps)/\Hid (PL w1 wr b s d l)
abbrev adT (n:Nat) (at_:List Sy->bn Pn):Prop:=∀ l v l',dW n at_ (l.length+1) l=.ok (v,l')->l'.length<l.length/\0<=v.2/\v.2<=61
set_option maxRecDepth 100000 in
set_option maxHeartbeats 8000000 in
theorem aeE {at_:List Sy->bn Pn} (HI:Hid (oF 280 (fun l=>dW s.size at_ (l.length+1) l) b s d)) (SG:Hid (adT s.size at_)):oF 250 (rowP s.size at_) b s d:=by
 intro w l h
 obtain ⟨R,hR⟩:∃ R,rowP s.size at_ l=R:=⟨_,rfl⟩
 rw [hR]
 have hbw:=PL.lt h
 have zW:Hid (∀ w',Hid (Up b (w.alloc (aB nd0)) w')->Hid (Up b w w')):=fun w' hu=>jA h hu
 have BG:Hid (∀ w' l' n,Hid (PL (w.alloc (aB nd0)) w' b s d l')->Hid (PL w (bH w' w.heap.size n) b s d l')):=fun w' l' n h'=>nU h h' n
 have HAT:=hide (au.new w nd0)
 have hsz1:(w.alloc (aB nd0)).heap.size=w.heap.size+1:=by simp
 have HP:Hid (adS R at_ (w.alloc (aB nd0)) (w.alloc (aB nd0)) b s d (.slice none 0 0) 0):=⟨l,[],[],.inl ⟨rfl,hR⟩,rfl,by have:=PL.len h;simpa using this,⟨World.ownsRow_nil _ _ _ _,⟨rfl,fun i h=>absurd h (by simp)⟩,fun p hp=>absurd hp (by simp)⟩,jB h (aB nd0)⟩
 clear hR h
 go_enter Tryz.func250,Tryz.ntmps250
 go_wp2_with fail
 go_loopw [3] (fun v wr=>∃ ao n cap,v=.slice ao n cap/\Hid (adS R at_ (w.alloc (aB nd0)) wr b s d (.slice ao n cap) n)) (fun _ wr=>left s b wr)
 case atStart=>exact ⟨none,0,0,rfl,HP⟩
 case round=>
  clear HP
  obtain ⟨ao,n,cap,rfl,HP⟩:=hrel
  obtain ⟨l',aM,ps,hri,hn,hlen,uk,HS⟩:=aa HP
  have HL:=hide (PL.left HS)
  have hs1:=(PL.up HS).size
  have hb1:b<(w.alloc (aB nd0)).heap.size:=by omega
  have hnl:aM.length=ps.length:=(aa uk).2.1.1
  clear HP
  cases he:kC (hd l') with
  | true=>
   have HX:=hide (hri.fin he)
   have HE:=hide he
   clear hri he HL
   by_cases h0:aM.length=0
   ·have hn0:n=0:=by omega
    subst hn0
    have hps:ps=[]:=List.eq_nil_of_length_eq_zero (by omega)
    subst hps
    clear h0 hn hnl hlen
    go_wp2_with (go_at_call 279;refine (Ao HS HE).mono ?_;rintro x w2 ⟨rfl,HS2⟩;have HR2:=au.up HAT (PL.up HS2) (by omega);obtain ⟨c0,c1,c2,c3,c4,c5,c6⟩:=au.cells (aa HR2);have cf:=au.fz (aa HR2))
    change bodyPost _ _ _ _ _ (bH w2 w.heap.size ⟨3,none,0,0,⟨#[]⟩,0,0,0,1⟩)
    refine jC (rb:=w.heap.size) (n:=⟨3,none,0,0,⟨#[]⟩,0,0,0,1⟩) 2 rfl rfl rfl (hide (au.set (aa HR2))) ?_
    rw [aa HX]
    exact ⟨_,rfl,⟨rfl,.row (aM:=[]) rfl ⟨World.ownsRow_nil _ _ _ _,fun k hk=>absurd hk (by simp [Value.ownBlock])⟩ rfl fun i h=>absurd h (by simp)⟩,aa BG _ _ _ HS2⟩
   ·have hne:ps≠[]:=fun e=>h0 (by rw [hnl,e];rfl)
    have hnI:((n:Int)==0)=false:=by simp;omega
    have aeF:aM.length<=62:=by omega
    have hn1:0<aM.length:=by omega
    subst hn
    clear h0 hlen
    have HNL:=hide hnl
    clear hnl
    go_wp2_with (first
     | (go_at_call 279;refine (Ao (PL.base HS) HE).mono ?_;rintro x w2 ⟨rfl,HS2⟩;have HT2:=PL.join (PL.up HS) HS2;have iU:=jf.up uk hb1 (PL.up HS2);clear uk HS2 HS)
     | (go_at_call 216;refine (vw w2 3 ao cap aM ps hn1 aeF (aa iU).1 (aa HNL) (fun i h h'=>((aa iU).2.1.2 i h h').1) (aa iU).2.2).mono ?_;simp only [gm];rintro x w3 ⟨rfl,HB3⟩;have HT3:=PL.below HT2 (aa HB3);have nS:=jf.below iU (aa HB3);clear HT2 iU HB3;have HR3:=au.up HAT (PL.up HT3) (by omega);obtain ⟨c0,c1,c2,c3,c4,c5,c6⟩:=au.cells (aa HR3);have cf:=au.fz (aa HR3)))
    change bodyPost _ _ _ _ _ (bH w3 w.heap.size ⟨3,ao,aM.length,cap,⟨#[]⟩,0,0,0,vG ps⟩)
    refine jC (rb:=w.heap.size) (n:=⟨3,ao,aM.length,cap,⟨#[]⟩,0,0,0,vG ps⟩) 2 rfl rfl rfl (hide (au.set (aa HR3))) ?_
    rw [aa HX]
    exact ⟨_,rfl,aV.move (hide (ZG (aa nS) hne)) fun j hj hl=>⟨cO (by omega),by omega⟩,aa BG _ _ _ HT3⟩
  | false=>
   have hne':¬ kC (hd l')=true:=by rw [he];decide
   have HE:=hide he
   clear he
   cases hi:dW s.size at_ (l'.length+1) l' with
   | error y=>
    have HX:=hide (hri.err hne' hi)
    have HIE:=hide hi
    clear hri hi hne' HL hn hnl hlen
    go_wp2_with (first
     | (go_at_call 279;refine (Ao HS HE).mono ?_;rintro x w2 ⟨rfl,HS2⟩)
     | (go_at_call 280;refine (kN (aa HI _ _ (PL.base HS2)) HIE).mono ?_;rintro x w3 ⟨rfl,HU⟩;have lv:=hide ((PL.up HS2).trans (aa HU))))
    rw [aa HX]
    exact ⟨rfl,rfl,aa zW _ lv⟩
   | ok y=>
    obtain ⟨y,l1⟩:=y
    obtain ⟨hll,hy0,yH⟩:=aa SG _ _ _ hi
    have HX:=hide (hri.next hne' hi hll)
    have HIE:=hide hi
    have hnd:aM.length<=2000:=by omega
    clear hri hi hne'
    subst hn
    have HNL:=hide hnl
    clear hnl
    go_wp2_with (first
     | (go_at_call 279;refine (Ao (PL.base HS) HE).mono ?_;rintro x w2 ⟨rfl,HS2⟩;have HT2:=PL.join (PL.up HS) HS2;have iU:=jf.up uk hb1 (PL.up HS2);have hs2:=(PL.up HT2).size;clear uk HS2 HS)
     | (go_at_call 280;refine (kP (aa HI _ _ (PL.base HT2)) HIE).mono ?_;simp only [gm];rintro x w3 ⟨n3,rfl,lI,mg⟩;have HT3:=PL.join (PL.up HT2) mg;have nS:=jf.up iU hb1 (PL.up mg);have hs3:=(PL.up HT3).size;clear mg)
     | (at_builtin;refine NM (w.alloc (aB nd0)).heap.size w3 aM n3 _ (.tmp 7) (.tmp 10) rfl rfl rfl rfl (aa nS).1 hs3 hnd ?_;intro g5 cap5 w5 oM PQ Ty;have WB:=jf.next iU nS lI hs2 hy0 yH oM PQ Ty;have qY:=PL.grown (PL.alloc HT3 (aB n3)) (aa PQ) (fun k hk=>by have:=((aa nS).1.lt k hk).1;omega);clear oM PQ Ty iU nS lI HT2 HT3))
    go_roundw
    case rel=>exact ⟨_,_,_,rfl,l1,aM++[n3],ps++[y],aa HX,by simp,by simp;omega,WB,qY⟩
    case measure=>
     have e1:=PL.left qY
     have e2:=aa HL
     show left s b _<left s b _
     omega
end
end Go.Proofs.YtfolanohokflkaaGreatDoor
