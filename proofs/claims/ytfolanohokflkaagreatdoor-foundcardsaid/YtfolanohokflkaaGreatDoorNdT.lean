import Derived.Test.YtfolanohokflkaaGreatDoorNdR
import Derived.WalkKit
import Derived.WalkSpells
import Derived.WalkLawsBesides
import Derived.WalkMore
namespace Go.Proofs.YtfolanohokflkaaGreatDoor
open Go.RowKit
section
variable {w0 w:World} {b:Nat} {s:ByteArray} {d:Int} {l:List Sy}
set_option maxRecDepth 100000 in
set_option maxHeartbeats 4000000 in
theorem Ac (h:Hid (PL w0 w b s d l)) {v:Bool} (hv:Hid (kr (hd l)=v)) :
  Calls Tryz.prog 279 #[.pointer (some ⟨b,0,none⟩)] w fun x w'=>x=.returned (.bool v)/\Hid (PL w0 w' b s d l):=by
 have hge:=hd_ge' l
 by_cases hb:hd l<0\/hd l=124\/hd l=38\/hd l=41
 ·obtain rfl:v=true:=by rw [<-aa hv];simpa [kr] using hb
  have hb2:hd l=-1\/hd l=124\/hd l=38\/hd l=41:=by omega
  clear hb hge hv
  rcases hb2 with hb | hb | hb | hb
  all_goals
   have gP:=hide hb
   clear hb
   go_enter Tryz.func279,Tryz.ntmps279
   go_wp2_with (first
    | (go_at_call 251;refine (d_ h gP).mono ?_;clear h;rintro x w1 ⟨rfl,HS⟩))
   go_ret
   exact ⟨rfl,HS⟩
 ·obtain rfl:v=false:=by rw [<-aa hv];simpa [kr] using hb
  obtain ⟨c,hcc⟩:∃ c,hd l=c:=⟨_,rfl⟩
  have gP:=hide hcc
  rw [hcc] at hb
  have k1:(c==124)=false:=by simp;omega
  have k2:(c==38)=false:=by simp;omega
  have k3:(c==41)=false:=by simp;omega
  have k4:(c==-1)=false:=by simp;omega
  clear hb hge hv hcc
  go_enter Tryz.func279,Tryz.ntmps279
  go_wp2_with (first
   | (go_at_call 251;refine (d_ h gP).mono ?_;clear h;rintro x w1 ⟨rfl,HS⟩))
  go_ret
  exact ⟨rfl,HS⟩
def KR (n:Nat) (at_:List Sy->bu Pn) (R:bu Pn) (ps:List Pn) (l:List Sy):Prop:=
 (ps=[]/\rowP n at_ l=R)\/(ps≠[]/\∃ f,l.length<f/\oI fM (bM n at_ f ps l)=R)
theorem KR.fin {n:Nat} {at_:List Sy->bu Pn} {R:bu Pn} {ps:List Pn} {l:List Sy} (h:KR n at_ R ps l) (he:kr (hd l)=true):R=.ok (fM ps,l):=by
 rcases h with ⟨rfl,h⟩ | ⟨_,f,hf,h⟩
 ·rw [<-h,rowP,if_pos he]
 ·obtain ⟨f,rfl⟩:∃ f',f=f'+1:=⟨f - 1,by omega⟩
  rw [<-h,bM,if_pos he];rfl
theorem KR.err {n:Nat} {at_:List Sy->bu Pn} {R:bu Pn} {ps:List Pn} {l:List Sy} (h:KR n at_ R ps l) (he:¬ kr (hd l)=true) {y:Int×Int} (hi:dZ n at_ (l.length+1) l=.error y):R=.error y:=by
 rcases h with ⟨rfl,h⟩ | ⟨_,f,hf,h⟩
 ·rw [<-h,rowP,if_neg he,hi]
 ·obtain ⟨f,rfl⟩:∃ f',f=f'+1:=⟨f - 1,by omega⟩
  rw [<-h,bM,if_neg he,hi];rfl
theorem KR.next {n:Nat} {at_:List Sy->bu Pn} {R:bu Pn} {ps:List Pn} {l l1:List Sy} (h:KR n at_ R ps l) (he:¬ kr (hd l)=true) {y:Pn} (hi:dZ n at_ (l.length+1) l=.ok (y,l1)) (hl:l1.length<l.length):KR n at_ R (ps++[y]) l1:=by
 rcases h with ⟨rfl,h⟩ | ⟨_,f,hf,h⟩
 ·exact .inr ⟨by simp,l1.length+1,Nat.lt_succ_self _,by rw [<-h,rowP,if_neg he,hi];rfl⟩
 ·obtain ⟨f,rfl⟩:∃ f',f=f'+1:=⟨f - 1,by omega⟩
  exact .inr ⟨by simp,f,by omega,by rw [<-h,bM,if_neg he,hi]⟩
theorem Nt {ops:Array Oper} {rest:List Oper} {o:Oper} {a:Act} {Q:Exit->Act->World->Prop} (B:Nat) (wr:World) (aN:List Nd) (n:Nd) (v:Value) (so xo:Operand) (hg:o.guard=none)
  (hop:o.op=.call { callee:=.builtin .append,args:=#[so,xo],argTypes:=#[60,60] }) (hs:a.eval so=v) (hx:a.eval xo=.slice (some ⟨wr.heap.size,0,none⟩) 1 1)
  (ho:Hid (wr.ownsRow B 65 7 v aN.length (dG aN))) (hB:B<=wr.heap.size) (hl:aN.length<=2000)
  (K:∀ g cap w',Hid (w'.ownsRow B 65 7 (.slice (some ⟨g,0,none⟩) (aN.length+1) cap) (aN++[n]).length (dG (aN++[n])))->Hid ((wr.alloc (aD n)).grownBy w' v.ownBlock)->Hid (v.ownBlock=some g\/g=wr.heap.size+1)->wpList Tryz.prog ops Q rest (a.put o.dst (.slice (some ⟨g,0,none⟩) (aN.length+1) cap)) w') :
  wpList Tryz.prog ops Q (o::rest) a (wr.alloc (aD n)):=by
 obtain ⟨i0,hi0,hz0,hz1,hz2⟩:=info_parts aaH
 refine wpList_append_lies _ hg so xo 60 hop B 65 i0 (gD nd0) 7 80 Tryz.underlying60 hi0 hz0 hz1 hz2 rfl (by decide) _ _ _ hs ((aa ho).alloc _) ⟨wr.heap.size,0,none⟩ 1 1 (Lu n) hx rfl (bH wr (Lu n) _) ?_ (by decide) (by unfold maxLen;omega) (by omega) (by simp;omega) (wr.heap.size+1) (by simp) ?_
 ·intro u hu
  simp only [Lu,List.mem_cons,List.not_mem_nil,or_false] at hu
  rcases hu with rfl | rfl | rfl | rfl | rfl | rfl | rfl<;>rfl
 ·intro g cap w' h1 h2 h3 _
  have e:(aN++[n]).length=aN.length+1:=by simp
  have e2:dG (aN++[n])=dG aN++Lu n:=by rw [Bp];simp [dG]
  exact K g cap w' (by rw [e,e2];exact h1) h2 h3
def ji (w1 wr:World) (v:Value) (aN:List Nd) (ps:List Pn):Prop:=
 wr.ownsRow w1.heap.size 65 7 v aN.length (dG aN)/\vW wr (fun j=>w1.heap.size<=j/\v.ownBlock≠some j) aN ps/\pz ps
theorem ji.up {w1 wr w2:World} {v:Value} {aN:List Nd} {ps:List Pn} (h:Hid (ji w1 wr v aN ps)) (hb:b<w1.heap.size) (hu:Up b wr w2):Hid (ji w1 w2 v aN ps):=by
 obtain ⟨h1,h2,h3⟩:=aa h
 exact ⟨Ue h1 hu fun e=>by have:=(h1.lt _ e).1;omega,h2.move fun j hj hl=>⟨hu.block j hl (by omega),hj⟩,h3⟩
theorem ji.next {w1 w2 w3 w5:World} {v:Value} {aN:List Nd} {ps:List Pn} {n:Nd} {y:Pn} {g cap:Nat} (h2:Hid (ji w1 w2 v aN ps)) (h3:Hid (ji w1 w3 v aN ps)) (hn:Hid (aY w3 (fun j=>w2.heap.size<=j) n y)) (hs:w1.heap.size<=w2.heap.size) (hy0:0<=y.2) (yw:y.2<=61)
  (ho:Hid (w5.ownsRow w1.heap.size 65 7 (.slice (some ⟨g,0,none⟩) (aN.length+1) cap) (aN++[n]).length (dG (aN++[n])))) (hg:Hid ((w3.alloc (aD n)).grownBy w5 v.ownBlock)) (hat:Hid (v.ownBlock=some g\/g=w3.heap.size+1)) :
  Hid (ji w1 w5 (.slice (some ⟨g,0,none⟩) (aN.length+1) cap) (aN++[n]) (ps++[y])):=by
 obtain ⟨a1,a2,a3⟩:=aa h3
 obtain ⟨b1,-,-⟩:=aa h2
 have hat':=aa hat
 have hbl:∀ j,j<w3.heap.size->v.ownBlock≠some j->w5.heap[j]? = w3.heap[j]? := fun j hj hne=>((aa hg).block j (by simp;omega) (fun e=>hne e.symm)).trans (Below.heap_alloc w3 _ j hj)
 have hgj:∀ j,j<w3.heap.size->v.ownBlock≠some j->(Value.slice (some ⟨g,0,none⟩) (aN.length+1) cap).ownBlock≠some j:=by
  intro j hj hne e
  have e':g=j:=by simpa [Value.ownBlock] using e
  subst e'
  rcases hat' with h | h
  ·exact hne h
  ·omega
 refine ⟨ho,vW.snoc (a2.move fun j hj hl=>⟨hbl j hl hj.2,hj.1,hgj j hl hj.2⟩) (aa (aY.move hn fun j hj hl=>?_)),a3.snoc hy0 yw⟩
 have hne:v.ownBlock≠some j:=fun e=>by have:=(b1.lt j e).2;omega
 exact ⟨hbl j hl hne,by omega,hgj j hl hne⟩
end
end Go.Proofs.YtfolanohokflkaaGreatDoor
namespace Go.Proofs.YtfolanohokflkaaGreatDoor
open Go.RowKit
section
variable {w0 w:World} {b:Nat} {s:ByteArray} {d:Int} {l:List Sy}
theorem Fu {w1 W:World} {ao:Option Addr} {n cap:Nat} {aN:List Nd} {ps:List Pn} (h:ji w1 W (.slice ao n cap) aN ps):jv W (fun j=>w1.heap.size<=j) (.slice ao n cap) aN:=
 ⟨h.1.mono (Nat.zero_le _),fun k hk=>(h.1.lt k hk).1⟩
theorem Pk {w1 W:World} {v:Value} {aN:List Nd} {ps:List Pn} (h:ji w1 W v aN ps):vW W (fun j=>w1.heap.size<=j) aN ps:=h.2.1.move fun _ hj _=>⟨rfl,hj.1⟩
theorem Y9 {w1 W:World} {ao:Option Addr} {n cap:Nat} {aN:List Nd} {ps:List Pn} (h:ji w1 W (.slice ao n cap) aN ps) (hne:ps≠[]):aY W (fun j=>w1.heap.size<=j) ⟨3,ao,n,cap,⟨#[]⟩,0,0,0,vo ps⟩ (fM ps):=by
 have hA:=Pk h
 have hP:=Fu h
 refine ⟨(uO h.2.2 hne).symm,?_⟩
 unfold fM
 split
 ·rename_i p
  obtain ⟨m,rfl⟩:∃ m,aN=[m]:=List.length_eq_one_iff.1 hA.1
  exact .one (.inr (.inr rfl)) hP (hA.2 0 (by simp) (by simp)).2
 ·refine .row rfl hP (by simp [hA.1]) fun i h1 h2=>?_
  rw [List.getElem_map]
  exact (hA.2 i h1 (by simpa using h2)).2
theorem Pm {w1 W:World} {ao:Option Addr} {n cap:Nat} {aN:List Nd} {ps:List Pn} (k:Bool) (h:ji w1 W (.slice ao n cap) aN ps):aY W (fun j=>w1.heap.size<=j) ⟨if k=true then 2 else 1,ao,n,cap,⟨#[]⟩,0,0,0,vo ps⟩ (jk k ps):=by
 have hA:=Pk h
 have hP:=Fu h
 refine ⟨(uP h.2.2).symm,?_⟩
 generalize hsh:(if k=true then (2:Int) else 1)=sh
 unfold jk
 split
 ·rename_i p
  obtain ⟨m,rfl⟩:∃ m,aN=[m]:=List.length_eq_one_iff.1 hA.1
  exact .one (by subst hsh;cases k<;>simp) hP (hA.2 0 (by simp) (by simp)).2
 ·refine .bf hsh.symm hP (by simp [hA.1]) fun i h1 h2=>?_
  rw [List.getElem_map]
  exact (hA.2 i h1 (by simpa using h2)).2
theorem ji.below {w1 wr w2:World} {v:Value} {aN:List Nd} {ps:List Pn} (h:Hid (ji w1 wr v aN ps)) (hb:Below wr.heap.size wr w2):Hid (ji w1 w2 v aN ps):=by
 obtain ⟨h1,h2,h3⟩:=aa h
 exact ⟨Bq h1 fun k _ hl=>hb.block k hl,h2.move fun j hj hl=>⟨hb.block j hl,hj⟩,h3⟩
def ac4 (R:bu Pn) (at_:List Sy->bu Pn) (w1 wr:World) (b:Nat) (s:ByteArray) (d:Int) (v:Value) (n:Nat):Prop:=
 ∃ l aN ps,KR s.size at_ R ps l/\n=aN.length/\ps.length+l.length<=60/\Hid (ji w1 wr v aN ps)/\Hid (PL w1 wr b s d l)
abbrev ac5 (n:Nat) (at_:List Sy->bu Pn):Prop:=∀ l v l',dZ n at_ (l.length+1) l=.ok (v,l')->l'.length<l.length/\0<=v.2/\v.2<=61
set_option maxRecDepth 100000 in
set_option maxHeartbeats 8000000 in
theorem adK {at_:List Sy->bu Pn} (HI:Hid (oC 280 (fun l=>dZ s.size at_ (l.length+1) l) b s d)) (Sb:Hid (ac5 s.size at_)):oC 250 (rowP s.size at_) b s d:=by
 intro w l h
 obtain ⟨R,hR⟩:∃ R,rowP s.size at_ l=R:=⟨_,rfl⟩
 rw [hR]
 have hbw:=PL.lt h
 have zM:Hid (∀ w',Hid (Up b (w.alloc (aD nd0)) w')->Hid (Up b w w')):=fun w' hu=>jD h hu
 have Bv:Hid (∀ w' l' n,Hid (PL (w.alloc (aD nd0)) w' b s d l')->Hid (PL w (bI w' w.heap.size n) b s d l')):=fun w' l' n h'=>nU h h' n
 have HAT:=hide (aA.new w nd0)
 have hsz1:(w.alloc (aD nd0)).heap.size=w.heap.size+1:=by simp
 have HP:Hid (ac4 R at_ (w.alloc (aD nd0)) (w.alloc (aD nd0)) b s d (.slice none 0 0) 0):=⟨l,[],[],.inl ⟨rfl,hR⟩,rfl,by have:=PL.len h;simpa using this,⟨World.ownsRow_nil _ _ _ _,⟨rfl,fun i h=>absurd h (by simp)⟩,fun p hp=>absurd hp (by simp)⟩,jE h (aD nd0)⟩
 clear hR h
 go_enter Tryz.func250,Tryz.ntmps250
 go_wp2_with fail
 go_loopw [3] (fun v wr=>∃ ao n cap,v=.slice ao n cap/\Hid (ac4 R at_ (w.alloc (aD nd0)) wr b s d (.slice ao n cap) n)) (fun _ wr=>left s b wr)
 case atStart=>exact ⟨none,0,0,rfl,HP⟩
 case round=>
  clear HP
  obtain ⟨ao,n,cap,rfl,HP⟩:=hrel
  obtain ⟨l',aN,ps,hri,hn,hlen,tQ,HS⟩:=aa HP
  have HL:=hide (PL.left HS)
  have hs1:=(PL.up HS).size
  have hb1:b<(w.alloc (aD nd0)).heap.size:=by omega
  have hnl:aN.length=ps.length:=(aa tQ).2.1.1
  clear HP
  cases he:kr (hd l') with
  | true=>
   have HX:=hide (hri.fin he)
   have HE:=hide he
   clear hri he HL
   by_cases h0:aN.length=0
   ·have hn0:n=0:=by omega
    subst hn0
    have hps:ps=[]:=List.eq_nil_of_length_eq_zero (by omega)
    subst hps
    clear h0 hn hnl hlen
    go_wp2_with (go_at_call 279;refine (Ac HS HE).mono ?_;rintro x w2 ⟨rfl,HS2⟩;have HR2:=aA.up HAT (PL.up HS2) (by omega);obtain ⟨c0,c1,c2,c3,c4,c5,c6⟩:=aA.cells (aa HR2);have cf:=aA.fz (aa HR2))
    change bodyPost _ _ _ _ _ (bI w2 w.heap.size ⟨3,none,0,0,⟨#[]⟩,0,0,0,1⟩)
    refine jF (rb:=w.heap.size) (n:=⟨3,none,0,0,⟨#[]⟩,0,0,0,1⟩) 2 rfl rfl rfl (hide (aA.set (aa HR2))) ?_
    rw [aa HX]
    exact ⟨_,rfl,⟨rfl,.row (aN:=[]) rfl ⟨World.ownsRow_nil _ _ _ _,fun k hk=>absurd hk (by simp [Value.ownBlock])⟩ rfl fun i h=>absurd h (by simp)⟩,aa Bv _ _ _ HS2⟩
   ·have hne:ps≠[]:=fun e=>h0 (by rw [hnl,e];rfl)
    have hnI:((n:Int)==0)=false:=by simp;omega
    have adL:aN.length<=62:=by omega
    have hn1:0<aN.length:=by omega
    subst hn
    clear h0 hlen
    have HNL:=hide hnl
    clear hnl
    go_wp2_with (first
     | (go_at_call 279;refine (Ac (PL.base HS) HE).mono ?_;rintro x w2 ⟨rfl,HS2⟩;have HT2:=PL.join (PL.up HS) HS2;have iW:=ji.up tQ hb1 (PL.up HS2);clear tQ HS2 HS)
     | (go_at_call 216;refine (uZ w2 3 ao cap aN ps hn1 adL (aa iW).1 (aa HNL) (fun i h h'=>((aa iW).2.1.2 i h h').1) (aa iW).2.2).mono ?_;simp only [gD];rintro x w3 ⟨rfl,HB3⟩;have HT3:=PL.below HT2 (aa HB3);have nS:=ji.below iW (aa HB3);clear HT2 iW HB3;have HR3:=aA.up HAT (PL.up HT3) (by omega);obtain ⟨c0,c1,c2,c3,c4,c5,c6⟩:=aA.cells (aa HR3);have cf:=aA.fz (aa HR3)))
    change bodyPost _ _ _ _ _ (bI w3 w.heap.size ⟨3,ao,aN.length,cap,⟨#[]⟩,0,0,0,vo ps⟩)
    refine jF (rb:=w.heap.size) (n:=⟨3,ao,aN.length,cap,⟨#[]⟩,0,0,0,vo ps⟩) 2 rfl rfl rfl (hide (aA.set (aa HR3))) ?_
    rw [aa HX]
    exact ⟨_,rfl,aY.move (hide (Y9 (aa nS) hne)) fun j hj hl=>⟨dh (by omega),by omega⟩,aa Bv _ _ _ HT3⟩
  | false=>
   have hne':¬ kr (hd l')=true:=by rw [he];decide
   have HE:=hide he
   clear he
   cases hi:dZ s.size at_ (l'.length+1) l' with
   | error y=>
    have HX:=hide (hri.err hne' hi)
    have HIE:=hide hi
    clear hri hi hne' HL hn hnl hlen
    go_wp2_with (first
     | (go_at_call 279;refine (Ac HS HE).mono ?_;rintro x w2 ⟨rfl,HS2⟩)
     | (go_at_call 280;refine (kL (aa HI _ _ (PL.base HS2)) HIE).mono ?_;rintro x w3 ⟨rfl,HU⟩;have lv:=hide ((PL.up HS2).trans (aa HU))))
    rw [aa HX]
    exact ⟨rfl,rfl,aa zM _ lv⟩
   | ok y=>
    obtain ⟨y,l1⟩:=y
    obtain ⟨hll,hy0,yw⟩:=aa Sb _ _ _ hi
    have HX:=hide (hri.next hne' hi hll)
    have HIE:=hide hi
    have hnd:aN.length<=2000:=by omega
    clear hri hi hne'
    subst hn
    have HNL:=hide hnl
    clear hnl
    go_wp2_with (first
     | (go_at_call 279;refine (Ac (PL.base HS) HE).mono ?_;rintro x w2 ⟨rfl,HS2⟩;have HT2:=PL.join (PL.up HS) HS2;have iW:=ji.up tQ hb1 (PL.up HS2);have hs2:=(PL.up HT2).size;clear tQ HS2 HS)
     | (go_at_call 280;refine (kM (aa HI _ _ (PL.base HT2)) HIE).mono ?_;simp only [gD];rintro x w3 ⟨n3,rfl,lI,mG⟩;have HT3:=PL.join (PL.up HT2) mG;have nS:=ji.up iW hb1 (PL.up mG);have hs3:=(PL.up HT3).size;clear mG)
     | (at_builtin;refine Nt (w.alloc (aD nd0)).heap.size w3 aN n3 _ (.tmp 7) (.tmp 10) rfl rfl rfl rfl (aa nS).1 hs3 hnd ?_;intro g5 cap5 w5 iC V5 SV;have V6:=ji.next iW nS lI hs2 hy0 yw iC V5 SV;have qN:=PL.grown (PL.alloc HT3 (aD n3)) (aa V5) (fun k hk=>by have:=((aa nS).1.lt k hk).1;omega);clear iC V5 SV iW nS lI HT2 HT3))
    go_roundw
    case rel=>exact ⟨_,_,_,rfl,l1,aN++[n3],ps++[y],aa HX,by simp,by simp;omega,V6,qN⟩
    case measure=>
     have e1:=PL.left qN
     have e2:=aa HL
     show left s b _<left s b _
     omega
end
end Go.Proofs.YtfolanohokflkaaGreatDoor
