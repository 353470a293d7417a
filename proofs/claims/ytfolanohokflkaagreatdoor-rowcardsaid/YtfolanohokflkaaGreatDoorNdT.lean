import Derived.Test.YtfolanohokflkaaGreatDoorNdR
import Derived.WalkKit
import Derived.WalkSpells
import Derived.WalkLawsBesides
import Derived.WalkMore
namespace Go.Proofs.YtfolanohokflkaaGreatDoor
open Go.RowKit
section
variable {w0 w:World} {b:Nat} {s:ByteArray} {d:Int} {l:List Sy}
set_option maxRecDepth 100000 in
set_option maxHeartbeats 4000000 in
theorem Aq (h:Hid (PL w0 w b s d l)) {v:Bool} (hv:Hid (iE (hd l)=v)) :
  Calls Tryz.prog 279 #[.pointer (some ⟨b,0,none⟩)] w fun x w'=>x=.returned (.bool v)/\Hid (PL w0 w' b s d l):=by
 have hge:=hd_ge' l
 by_cases hb:hd l<0\/hd l=124\/hd l=38\/hd l=41
 ·obtain rfl:v=true:=by rw [<-aa hv];simpa [iE] using hb
  have hb2:hd l=-1\/hd l=124\/hd l=38\/hd l=41:=by omega
  clear hb hge hv
  rcases hb2 with hb | hb | hb | hb
  all_goals
   have g_:=hide hb
   clear hb
   go_enter Tryz.func279,Tryz.ntmps279
   go_wp2_with (first
    | (go_at_call 251;refine (eH h g_).mono ?_;clear h;rintro x w1 ⟨rfl,HS⟩))
   go_ret
   exact ⟨rfl,HS⟩
 ·obtain rfl:v=false:=by rw [<-aa hv];simpa [iE] using hb
  obtain ⟨c,hcc⟩:∃ c,hd l=c:=⟨_,rfl⟩
  have g_:=hide hcc
  rw [hcc] at hb
  have k1:(c==124)=false:=by simp;omega
  have k2:(c==38)=false:=by simp;omega
  have k3:(c==41)=false:=by simp;omega
  have k4:(c==-1)=false:=by simp;omega
  clear hb hge hv hcc
  go_enter Tryz.func279,Tryz.ntmps279
  go_wp2_with (first
   | (go_at_call 251;refine (eH h g_).mono ?_;clear h;rintro x w1 ⟨rfl,HS⟩))
  go_ret
  exact ⟨rfl,HS⟩
def Ll (n:Nat) (at_:List Sy->bn Pn) (R:bn Pn) (ps:List Pn) (l:List Sy):Prop:=
 (ps=[]/\rowP n at_ l=R)\/(ps≠[]/\∃ f,l.length<f/\o5 eU (aR n at_ f ps l)=R)
theorem Ll.fin {n:Nat} {at_:List Sy->bn Pn} {R:bn Pn} {ps:List Pn} {l:List Sy} (h:Ll n at_ R ps l) (he:iE (hd l)=true):R=.ok (eU ps,l):=by
 rcases h with ⟨rfl,h⟩ | ⟨_,f,hf,h⟩
 ·rw [<-h,rowP,if_pos he]
 ·obtain ⟨f,rfl⟩:∃ f',f=f'+1:=⟨f - 1,by omega⟩
  rw [<-h,aR,if_pos he];rfl
theorem Ll.err {n:Nat} {at_:List Sy->bn Pn} {R:bn Pn} {ps:List Pn} {l:List Sy} (h:Ll n at_ R ps l) (he:¬ iE (hd l)=true) {y:Int×Int} (hi:cO n at_ (l.length+1) l=.error y):R=.error y:=by
 rcases h with ⟨rfl,h⟩ | ⟨_,f,hf,h⟩
 ·rw [<-h,rowP,if_neg he,hi]
 ·obtain ⟨f,rfl⟩:∃ f',f=f'+1:=⟨f - 1,by omega⟩
  rw [<-h,aR,if_neg he,hi];rfl
theorem Ll.next {n:Nat} {at_:List Sy->bn Pn} {R:bn Pn} {ps:List Pn} {l l1:List Sy} (h:Ll n at_ R ps l) (he:¬ iE (hd l)=true) {y:Pn} (hi:cO n at_ (l.length+1) l=.ok (y,l1)) (hl:l1.length<l.length):Ll n at_ R (ps++[y]) l1:=by
 rcases h with ⟨rfl,h⟩ | ⟨_,f,hf,h⟩
 ·exact .inr ⟨by simp,l1.length+1,Nat.lt_succ_self _,by rw [<-h,rowP,if_neg he,hi];rfl⟩
 ·obtain ⟨f,rfl⟩:∃ f',f=f'+1:=⟨f - 1,by omega⟩
  exact .inr ⟨by simp,f,by omega,by rw [<-h,aR,if_neg he,hi]⟩
theorem Og {ops:Array Oper} {rest:List Oper} {o:Oper} {a:Act} {Q:Exit->Act->World->Prop} (B:Nat) (wr:World) (aL:List Nd) (n:Nd) (v:Value) (so xo:Operand) (hg:o.guard=none)
  (hop:o.op=.call { callee:=.builtin .append,args:=#[so,xo],argTypes:=#[60,60] }) (hs:a.eval so=v) (hx:a.eval xo=.slice (some ⟨wr.heap.size,0,none⟩) 1 1)
  (ho:Hid (wr.ownsRow B 65 7 v aL.length (dN aL))) (hB:B<=wr.heap.size) (hl:aL.length<=2000)
  (K:∀ g cap w',Hid (w'.ownsRow B 65 7 (.slice (some ⟨g,0,none⟩) (aL.length+1) cap) (aL++[n]).length (dN (aL++[n])))->Hid ((wr.alloc (aB n)).grownBy w' v.ownBlock)->Hid (v.ownBlock=some g\/g=wr.heap.size+1)->wpList Tryz.prog ops Q rest (a.put o.dst (.slice (some ⟨g,0,none⟩) (aL.length+1) cap)) w') :
  wpList Tryz.prog ops Q (o::rest) a (wr.alloc (aB n)):=by
 obtain ⟨i0,hi0,hz0,hz1,hz2⟩:=info_parts abL
 refine wpList_append_lies _ hg so xo 60 hop B 65 i0 (gJ nd0) 7 80 Tryz.underlying60 hi0 hz0 hz1 hz2 rfl (by decide) _ _ _ hs ((aa ho).alloc _) ⟨wr.heap.size,0,none⟩ 1 1 (Md n) hx rfl (bM wr (Md n) _) ?_ (by decide) (by unfold maxLen;omega) (by omega) (by simp;omega) (wr.heap.size+1) (by simp) ?_
 ·intro u hu
  simp only [Md,List.mem_cons,List.not_mem_nil,or_false] at hu
  rcases hu with rfl | rfl | rfl | rfl | rfl | rfl | rfl<;>rfl
 ·intro g cap w' h1 h2 h3 _
  have e:(aL++[n]).length=aL.length+1:=by simp
  have e2:dN (aL++[n])=dN aL++Md n:=by rw [BD];simp [dN]
  exact K g cap w' (by rw [e,e2];exact h1) h2 h3
def jy (w1 wr:World) (v:Value) (aL:List Nd) (ps:List Pn):Prop:=
 wr.ownsRow w1.heap.size 65 7 v aL.length (dN aL)/\wG wr (fun j=>w1.heap.size<=j/\v.ownBlock≠some j) aL ps/\pX ps
theorem jy.up {w1 wr w2:World} {v:Value} {aL:List Nd} {ps:List Pn} (h:Hid (jy w1 wr v aL ps)) (hb:b<w1.heap.size) (hu:Up b wr w2):Hid (jy w1 w2 v aL ps):=by
 obtain ⟨h1,h2,h3⟩:=aa h
 exact ⟨U5 h1 hu fun e=>by have:=(h1.lt _ e).1;omega,h2.move fun j hj hl=>⟨hu.block j hl (by omega),hj⟩,h3⟩
theorem jy.next {w1 w2 w3 w5:World} {v:Value} {aL:List Nd} {ps:List Pn} {n:Nd} {y:Pn} {g cap:Nat} (h2:Hid (jy w1 w2 v aL ps)) (h3:Hid (jy w1 w3 v aL ps)) (hn:Hid (a_ w3 (fun j=>w2.heap.size<=j) n y)) (hs:w1.heap.size<=w2.heap.size) (hy0:0<=y.2) (yM:y.2<=61)
  (ho:Hid (w5.ownsRow w1.heap.size 65 7 (.slice (some ⟨g,0,none⟩) (aL.length+1) cap) (aL++[n]).length (dN (aL++[n])))) (hg:Hid ((w3.alloc (aB n)).grownBy w5 v.ownBlock)) (hat:Hid (v.ownBlock=some g\/g=w3.heap.size+1)) :
  Hid (jy w1 w5 (.slice (some ⟨g,0,none⟩) (aL.length+1) cap) (aL++[n]) (ps++[y])):=by
 obtain ⟨a1,a2,a3⟩:=aa h3
 obtain ⟨b1,-,-⟩:=aa h2
 have hat':=aa hat
 have hbl:∀ j,j<w3.heap.size->v.ownBlock≠some j->w5.heap[j]? = w3.heap[j]? := fun j hj hne=>((aa hg).block j (by simp;omega) (fun e=>hne e.symm)).trans (Below.heap_alloc w3 _ j hj)
 have hgj:∀ j,j<w3.heap.size->v.ownBlock≠some j->(Value.slice (some ⟨g,0,none⟩) (aL.length+1) cap).ownBlock≠some j:=by
  intro j hj hne e
  have e':g=j:=by simpa [Value.ownBlock] using e
  subst e'
  rcases hat' with h | h
  ·exact hne h
  ·omega
 refine ⟨ho,wG.snoc (a2.move fun j hj hl=>⟨hbl j hl hj.2,hj.1,hgj j hl hj.2⟩) (aa (a_.move hn fun j hj hl=>?_)),a3.snoc hy0 yM⟩
 have hne:v.ownBlock≠some j:=fun e=>by have:=(b1.lt j e).2;omega
 exact ⟨hbl j hl hne,by omega,hgj j hl hne⟩
end
end Go.Proofs.YtfolanohokflkaaGreatDoor
namespace Go.Proofs.YtfolanohokflkaaGreatDoor
open Go.RowKit
section
variable {w0 w:World} {b:Nat} {s:ByteArray} {d:Int} {l:List Sy}
theorem FK {w1 W:World} {ao:Option Addr} {n cap:Nat} {aL:List Nd} {ps:List Pn} (h:jy w1 W (.slice ao n cap) aL ps):jG W (fun j=>w1.heap.size<=j) (.slice ao n cap) aL:=
 ⟨h.1.mono (Nat.zero_le _),fun k hk=>(h.1.lt k hk).1⟩
theorem Qj {w1 W:World} {v:Value} {aL:List Nd} {ps:List Pn} (h:jy w1 W v aL ps):wG W (fun j=>w1.heap.size<=j) aL ps:=h.2.1.move fun _ hj _=>⟨rfl,hj.1⟩
theorem aau {w1 W:World} {ao:Option Addr} {n cap:Nat} {aL:List Nd} {ps:List Pn} (h:jy w1 W (.slice ao n cap) aL ps) (hne:ps≠[]):a_ W (fun j=>w1.heap.size<=j) ⟨3,ao,n,cap,⟨#[]⟩,0,0,0,vJ ps⟩ (eU ps):=by
 have hA:=Qj h
 have hP:=FK h
 refine ⟨(u_ h.2.2 hne).symm,?_⟩
 unfold eU
 split
 ·rename_i p
  obtain ⟨m,rfl⟩:∃ m,aL=[m]:=List.length_eq_one_iff.1 hA.1
  exact .one (.inr (.inr rfl)) hP (hA.2 0 (by simp) (by simp)).2
 ·refine .row rfl hP (by simp [hA.1]) fun i h1 h2=>?_
  rw [List.getElem_map]
  exact (hA.2 i h1 (by simpa using h2)).2
theorem Qk {w1 W:World} {ao:Option Addr} {n cap:Nat} {aL:List Nd} {ps:List Pn} (k:Bool) (h:jy w1 W (.slice ao n cap) aL ps):a_ W (fun j=>w1.heap.size<=j) ⟨if k=true then 2 else 1,ao,n,cap,⟨#[]⟩,0,0,0,vJ ps⟩ (jB k ps):=by
 have hA:=Qj h
 have hP:=FK h
 refine ⟨(ve h.2.2).symm,?_⟩
 generalize hsh:(if k=true then (2:Int) else 1)=sh
 unfold jB
 split
 ·rename_i p
  obtain ⟨m,rfl⟩:∃ m,aL=[m]:=List.length_eq_one_iff.1 hA.1
  exact .one (by subst hsh;cases k<;>simp) hP (hA.2 0 (by simp) (by simp)).2
 ·refine .aW hsh.symm hP (by simp [hA.1]) fun i h1 h2=>?_
  rw [List.getElem_map]
  exact (hA.2 i h1 (by simpa using h2)).2
theorem jy.below {w1 wr w2:World} {v:Value} {aL:List Nd} {ps:List Pn} (h:Hid (jy w1 wr v aL ps)) (hb:Below wr.heap.size wr w2):Hid (jy w1 w2 v aL ps):=by
 obtain ⟨h1,h2,h3⟩:=aa h
 exact ⟨BF h1 fun k _ hl=>hb.block k hl,h2.move fun j hj hl=>⟨hb.block j hl,hj⟩,h3⟩
def aee (R:bn Pn) (at_:List Sy->bn Pn) (w1 wr:World) (b:Nat) (s:ByteArray) (d:Int) (v:Value) (n:Nat):Prop:=
 ∃ l aL ps,Ll s.size at_ R ps l/\n=aL.length/\ps.length+l.length<=60/\Hid (jy w1 wr v aL ps)/\Hid (PL w1 wr b s d l)
abbrev aef (n:Nat) (at_:List Sy->bn Pn):Prop:=∀ l v l',cO n at_ (l.length+1) l=.ok (v,l')->l'.length<l.length/\0<=v.2/\v.2<=61
set_option maxRecDepth 100000 in
set_option maxHeartbeats 8000000 in
theorem aeU {at_:List Sy->bn Pn} (HI:Hid (oN 280 (fun l=>cO s.size at_ (l.length+1) l) b s d)) (TC:Hid (aef s.size at_)):oN 250 (rowP s.size at_) b s d:=by
 intro w l h
 obtain ⟨R,hR⟩:∃ R,rowP s.size at_ l=R:=⟨_,rfl⟩
 rw [hR]
 have hbw:=PL.lt h
 have zY:Hid (∀ w',Hid (Up b (w.alloc (aB nd0)) w')->Hid (Up b w w')):=fun w' hu=>jP h hu
 have BI:Hid (∀ w' l' n,Hid (PL (w.alloc (aB nd0)) w' b s d l')->Hid (PL w (bO w' w.heap.size n) b s d l')):=fun w' l' n h'=>oq h h' n
 have HAT:=hide (ax.new w nd0)
 have hsz1:(w.alloc (aB nd0)).heap.size=w.heap.size+1:=by simp
 have HP:Hid (aee R at_ (w.alloc (aB nd0)) (w.alloc (aB nd0)) b s d (.slice none 0 0) 0):=⟨l,[],[],.inl ⟨rfl,hR⟩,rfl,by have:=PL.len h;simpa using this,⟨World.ownsRow_nil _ _ _ _,⟨rfl,fun i h=>absurd h (by simp)⟩,fun p hp=>absurd hp (by simp)⟩,jQ h (aB nd0)⟩
 clear hR h
 go_enter Tryz.func250,Tryz.ntmps250
 go_wp2_with fail
 go_loopw [3] (fun v wr=>∃ ao n cap,v=.slice ao n cap/\Hid (aee R at_ (w.alloc (aB nd0)) wr b s d (.slice ao n cap) n)) (fun _ wr=>left s b wr)
 case atStart=>exact ⟨none,0,0,rfl,HP⟩
 case round=>
  clear HP
  obtain ⟨ao,n,cap,rfl,HP⟩:=hrel
  obtain ⟨l',aL,ps,hri,hn,hlen,uA,HS⟩:=aa HP
  have HL:=hide (PL.left HS)
  have hs1:=(PL.up HS).size
  have hb1:b<(w.alloc (aB nd0)).heap.size:=by omega
  have hnl:aL.length=ps.length:=(aa uA).2.1.1
  clear HP
  cases he:iE (hd l') with
  | true=>
   have HX:=hide (hri.fin he)
   have HE:=hide he
   clear hri he HL
   by_cases h0:aL.length=0
   ·have hn0:n=0:=by omega
    subst hn0
    have hps:ps=[]:=List.eq_nil_of_length_eq_zero (by omega)
    subst hps
    clear h0 hn hnl hlen
    go_wp2_with (go_at_call 279;refine (Aq HS HE).mono ?_;rintro x w2 ⟨rfl,HS2⟩;have HR2:=ax.up HAT (PL.up HS2) (by omega);obtain ⟨c0,c1,c2,c3,c4,c5,c6⟩:=ax.cells (aa HR2);have cf:=ax.fz (aa HR2))
    change bodyPost _ _ _ _ _ (bO w2 w.heap.size ⟨3,none,0,0,⟨#[]⟩,0,0,0,1⟩)
    refine jR (rb:=w.heap.size) (n:=⟨3,none,0,0,⟨#[]⟩,0,0,0,1⟩) 2 rfl rfl rfl (hide (ax.set (aa HR2))) ?_
    rw [aa HX]
    exact ⟨_,rfl,⟨rfl,.row (aL:=[]) rfl ⟨World.ownsRow_nil _ _ _ _,fun k hk=>absurd hk (by simp [Value.ownBlock])⟩ rfl fun i h=>absurd h (by simp)⟩,aa BI _ _ _ HS2⟩
   ·have hne:ps≠[]:=fun e=>h0 (by rw [hnl,e];rfl)
    have hnI:((n:Int)==0)=false:=by simp;omega
    have aeV:aL.length<=62:=by omega
    have hn1:0<aL.length:=by omega
    subst hn
    clear h0 hlen
    have HNL:=hide hnl
    clear hnl
    go_wp2_with (first
     | (go_at_call 279;refine (Aq (PL.base HS) HE).mono ?_;rintro x w2 ⟨rfl,HS2⟩;have HT2:=PL.join (PL.up HS) HS2;have jg:=jy.up uA hb1 (PL.up HS2);clear uA HS2 HS)
     | (go_at_call 216;refine (vF w2 3 ao cap aL ps hn1 aeV (aa jg).1 (aa HNL) (fun i h h'=>((aa jg).2.1.2 i h h').1) (aa jg).2.2).mono ?_;simp only [gJ];rintro x w3 ⟨rfl,HB3⟩;have HT3:=PL.below HT2 (aa HB3);have oh:=jy.below jg (aa HB3);clear HT2 jg HB3;have HR3:=ax.up HAT (PL.up HT3) (by omega);obtain ⟨c0,c1,c2,c3,c4,c5,c6⟩:=ax.cells (aa HR3);have cf:=ax.fz (aa HR3)))
    change bodyPost _ _ _ _ _ (bO w3 w.heap.size ⟨3,ao,aL.length,cap,⟨#[]⟩,0,0,0,vJ ps⟩)
    refine jR (rb:=w.heap.size) (n:=⟨3,ao,aL.length,cap,⟨#[]⟩,0,0,0,vJ ps⟩) 2 rfl rfl rfl (hide (ax.set (aa HR3))) ?_
    rw [aa HX]
    exact ⟨_,rfl,a_.move (hide (aau (aa oh) hne)) fun j hj hl=>⟨dm (by omega),by omega⟩,aa BI _ _ _ HT3⟩
  | false=>
   have hne':¬ iE (hd l')=true:=by rw [he];decide
   have HE:=hide he
   clear he
   cases hi:cO s.size at_ (l'.length+1) l' with
   | error y=>
    have HX:=hide (hri.err hne' hi)
    have HIE:=hide hi
    clear hri hi hne' HL hn hnl hlen
    go_wp2_with (first
     | (go_at_call 279;refine (Aq HS HE).mono ?_;rintro x w2 ⟨rfl,HS2⟩)
     | (go_at_call 280;refine (kS (aa HI _ _ (PL.base HS2)) HIE).mono ?_;rintro x w3 ⟨rfl,HU⟩;have lN:=hide ((PL.up HS2).trans (aa HU))))
    rw [aa HX]
    exact ⟨rfl,rfl,aa zY _ lN⟩
   | ok y=>
    obtain ⟨y,l1⟩:=y
    obtain ⟨hll,hy0,yM⟩:=aa TC _ _ _ hi
    have HX:=hide (hri.next hne' hi hll)
    have HIE:=hide hi
    have hnd:aL.length<=2000:=by omega
    clear hri hi hne'
    subst hn
    have HNL:=hide hnl
    clear hnl
    go_wp2_with (first
     | (go_at_call 279;refine (Aq (PL.base HS) HE).mono ?_;rintro x w2 ⟨rfl,HS2⟩;have HT2:=PL.join (PL.up HS) HS2;have jg:=jy.up uA hb1 (PL.up HS2);have hs2:=(PL.up HT2).size;clear uA HS2 HS)
     | (go_at_call 280;refine (kT (aa HI _ _ (PL.base HT2)) HIE).mono ?_;simp only [gJ];rintro x w3 ⟨n3,rfl,lQ,mR⟩;have HT3:=PL.join (PL.up HT2) mR;have oh:=jy.up jg hb1 (PL.up mR);have hs3:=(PL.up HT3).size;clear mR)
     | (at_builtin;refine Og (w.alloc (aB nd0)).heap.size w3 aL n3 _ (.tmp 7) (.tmp 10) rfl rfl rfl rfl (aa oh).1 hs3 hnd ?_;intro g5 cap5 w5 o_ Xv Uc;have Xw:=jy.next jg oh lQ hs2 hy0 yM o_ Xv Uc;have pE:=PL.grown (PL.alloc HT3 (aB n3)) (aa Xv) (fun k hk=>by have:=((aa oh).1.lt k hk).1;omega);clear o_ Xv Uc jg oh lQ HT2 HT3))
    go_roundw
    case rel=>exact ⟨_,_,_,rfl,l1,aL++[n3],ps++[y],aa HX,by simp,by simp;omega,Xw,pE⟩
    case measure=>
     have e1:=PL.left pE
     have e2:=aa HL
     show left s b _<left s b _
     omega
end
end Go.Proofs.YtfolanohokflkaaGreatDoor
