import Derived.Test.YtfolanohokflkaaGreatDoorNdI
import Derived.Test.YtfolanohokflkaaGreatDoorPSame
import Derived.Test.YtfolanohokflkaaGreatDoorSvF
import Derived.WalkKit
import Derived.WalkSpells
import Derived.WalkLawsBesides
import Derived.WalkMore
import Derived.Test.YtfolanohokflkaaGreatDoorTabC
import Derived.Test.YtfolanohokflkaaGreatDoorFnE
import Derived.Deep.QuietTactic
import Derived.BigQuiet
import Derived.BigRegion
import Derived.Test.YtfolanohokflkaaGreatDoorProC
import Derived.Deep.RegionHeld3
namespace Go.Proofs.YtfolanohokflkaaGreatDoor
open Go.RowKit
theorem wC {a c:Int} (ha:aG a=true) (hc:aG c=true) (h:a<=c):∀ p∈[(a,c)],jB p:=by intro p hp;simp at hp;subst hp;exact ⟨ha,hc,h⟩
theorem Ms {n:Nat} {l:List Sy} (h:bq l):Good (fun z=>(∀ p∈z,jB p)/\0<z.length/\z.length<=4) (kH n l):=by
 unfold kH
 split
 ·exact Good.ok ⟨bB (vV l),by unfold jO;split<;>decide⟩ h.tail.tail
 ·have g:=qc (n:=n) h
  split
  ·exact Good.err
  ·rename_i a l1 e
   obtain ⟨ha,h1⟩:=g _ _ e
   split
   ·have g2:=qc (n:=n) h1.tail
    split
    ·exact Good.err
    ·rename_i b l2 e2
     obtain ⟨hb,h2⟩:=g2 _ _ e2
     split
     ·exact Good.bad
     ·exact Good.ok ⟨wC ha hb (by omega),by simp,by simp⟩ h2
   ·exact Good.ok ⟨wC ha ha (Int.le_refl _),by simp,by simp⟩ h1
theorem Q0 {n:Nat} {l l1:List Sy} {z:af} (h:kH n l=.ok (z,l1)):l1.length<l.length:=by
 have e:=EL n l
 rw [h] at e
 exact EF (y:=((),l1)) e
theorem BH {zs p:af} (hz:∀ x∈zs,jB x) (hp:∀ x∈p,jB x):qH (iO zs) p=iO (zs++p):=by
 have h1:=lX hz
 have h2:=lX hp
 have h3:Pos (zs++p):=fun x hx=>by rcases List.mem_append.1 hx with hx | hx;exact h1 x hx;exact h2 x hx
 refine iN (ja (iP h1).pos h2) (iP h3) fun c hc=>?_
 rw [nZ (iP h1).pos h2 hc,o5 h1 hc,o5 h3 hc,ll]
theorem Mt (zs:af):(iO zs).length<=zs.length+1:=by
 have:=TD [] zs
 simpa [iO] using this
section
variable {w0 w:World} {b:Nat} {s:ByteArray} {d:Int} {l:List Sy}
theorem PL.grown {w':World} {row:Option Nat} (h:Hid (PL w0 w b s d l)) (hg:w.grownBy w' row) (hrow:∀ k,row=some k->w0.heap.size<=k/\b<k):Hid (PL w0 w' b s d l):=by
 obtain ⟨p,g,e⟩:=aa h
 have hlt:=g.lt
 have hb2:=g.b2
 have hbl:∀ k,k<w.heap.size->(k<w0.heap.size\/k<=b)->w'.heap[k]? = w.heap[k]? := fun k hk hk2=>hg.block k hk fun e'=>by have:=hrow k e'.symm;omega
 have hc:∀ i v,w.cell? ⟨b,i,none⟩=some v->w'.cell? ⟨b,i,none⟩=some v:=fun i v q=>by
  rw [World.cell?_of_block (hbl b hlt (.inr (Nat.le_refl _)))];exact q
 have hup:=g.up.size
 refine ⟨p,⟨hc _ _ g.c0,hc _ _ g.c1,hc _ _ g.c2,fun k=>by rw [World.frozen?_of_block (hbl b hlt (.inr (Nat.le_refl _)))];exact g.fz k,iE g.tabs (hbl _ (by omega) (.inr (by omega))) (hbl _ (by omega) (.inr (by omega))),g.b2,?_,g.le,g.small⟩,e⟩
 exact ⟨hg.os.trans g.up.os,hg.tape.trans g.up.tape,hg.output.trans g.up.output,Nat.le_trans hup hg.size,fun k hk hkb=>(hbl k (by omega) (.inl hk)).trans (g.up.block k hk hkb)⟩
def left (s:ByteArray) (b:Nat) (w:World):Nat:=match w.cell? ⟨b,1,none⟩ with
 | some (.int _ n)=>(ah s n.toNat).length
 | _=>0
theorem PL.left (h:Hid (PL w0 w b s d l)):left s b w=l.length:=by
 obtain ⟨p,h1,rfl⟩:=aa h
 rw [Proofs.YtfolanohokflkaaGreatDoor.left,h1.c1]
 rfl
theorem Yb {ops:Array Oper} {rest:List Oper} {o:Oper} {a:Act} {Q:Exit->Act->World->Prop} (B B':Nat) (wr:World) (zs p:List (Int×Int)) (v x:Value) (so xo:Operand) (hg:o.guard=none)
  (hop:o.op=.call { callee:=.builtin .append,args:=#[so,xo],argTypes:=#[237,237] }) (hs:a.eval so=v) (hx:a.eval xo=x)
  (ho:Hid (wr.ownsRow B 248 2 v zs.length (aK zs))) (ho2:Hid (wr.ownsRow B' 248 2 x p.length (aK p))) (hp:0<p.length) (hB:B<=wr.heap.size) (hl:zs.length+p.length<=2000000)
  (K:∀ ao n cap w',Hid (w'.ownsRow B 248 2 (.slice ao n cap) (zs++p).length (aK (zs++p)))->Hid (wr.grownBy w' v.ownBlock)->wpList Tryz.prog ops Q rest (a.put o.dst (.slice ao n cap)) w') :
  wpList Tryz.prog ops Q (o::rest) a wr:=by
 obtain ⟨i0,hi0,hz0,hz1,hz2⟩:=info_parts oU
 obtain ⟨g,cap,rfl,-,-⟩:=(aa ho2).form hp
 refine wpList_append_own _ hg so xo 237 hop B 248 i0 (.agg #[.int .i32 0,.int .i32 0]) 2 8 Tryz.underlying237 hi0 hz0 hz1 hz2 rfl (by decide) _ _ _ hs (aa ho) ⟨g,0,none⟩ p.length cap (aK p) hx (iK p) ((aa ho2).cells rfl) ?_ (by unfold maxLen;omega) (by omega) hB ?_
 ·intro u hu
  have:∀ q:List (Int×Int),∀ u∈aK q,u.oneCell'=true:=by
   intro q
   induction q with
   | nil=>intro u hu;simp [aK] at hu
   | cons y q ih=>intro u hu;simp only [aK,List.mem_cons] at hu;rcases hu with rfl | rfl | hu;rfl;rfl;exact ih u hu
  exact this p u hu
 ·intro v' w' h1 h2 _
  have h3:w'.ownsRow B 248 2 v' (zs++p).length (aK (zs++p)):=by
   rw [iL,List.length_append];exact h1
  obtain ⟨ao,cap,rfl,-⟩:=aQ h3
  exact K ao _ cap w' h3 h2
def aca (R:bu af) (w wr:World) (b:Nat) (s:ByteArray) (d:Int) (v:Value):Prop:=
 ∃ f l zs,bR s.size f (iO zs) l=R/\l.length<f/\(∀ p∈zs,jB p)/\zs.length+4*l.length<=240/\Hid (wr.ownsRow w.heap.size 248 2 v zs.length (aK zs))/\Hid (PL w wr b s d l)
theorem EO:iO []=[]:=by decide +kernel
end
end Go.Proofs.YtfolanohokflkaaGreatDoor
namespace Go.Proofs.YtfolanohokflkaaGreatDoor
open Go.RowKit
abbrev aaL (z:af):Value:=.string (encS z)
section
variable {w0 w:World} {b:Nat} {s:ByteArray} {d:Int} {l:List Sy}
theorem Gq {w wr w2:World} {b:Nat} {v:Value} {zs:af} (ho:Hid (wr.ownsRow w.heap.size 248 2 v zs.length (aK zs))) (hb:b<w.heap.size) (hu:Up b wr w2):Hid (w2.ownsRow w.heap.size 248 2 v zs.length (aK zs)):=
 Ue (aa ho) hu fun e=>by have:=((aa ho).lt _ e).1;omega
set_option maxRecDepth 100000 in
set_option maxHeartbeats 8000000 in
theorem Uk (h:Hid (PL w0 w b s d l)) (hc:Hid (hd l=91)) :
  Calls Tryz.prog 328 #[.pointer (some ⟨b,0,none⟩)] w (Br (jP s.size l.tail) aaL w0 b s d):=by
 have hbw:=PL.lt h
 have acb:=PL.len h
 have HJ:Hid (∀ w' l',Hid (PL w w' b s d l')->Hid (PL w0 w' b s d l')):=fun w' l' h'=>PL.join (PL.up h) h'
 have HJU:Hid (∀ w',Hid (Up b w w')->Hid (Up b w0 w')):=fun w' h'=>(PL.up h).trans (aa h')
 have hB:=PL.base h
 clear h
 obtain ⟨tb,R0,h94,hR⟩:∃ (tb:Bool) (R0:bu af),(tb=true↔hd l.tail=94)/\bR s.size (l.tail.length+1) [] (if tb=true then l.tail.tail else l.tail)=R0/\jP s.size l.tail=if tb=true then Be R0 else R0:=by
  by_cases e:hd l.tail=94
  ·exact ⟨true,_,by simp [e],rfl,by rw [jP,if_pos e];rfl⟩
  ·exact ⟨false,_,by simp [e],rfl,by rw [jP,if_neg e];rfl⟩
 obtain ⟨hL,hR⟩:=hR
 rw [hR]
 clear hR
 have HM:Hid (∀ w1,Hid (PL w w1 b s d l.tail)->Calls Tryz.prog 219 #[.pointer (some ⟨b,0,none⟩),.int .i32 94] w1 fun x w'=>x=.returned (.bool tb)/\Hid (aca R0 w w' b s d (.slice none 0 0))):=by
  intro w1 h1
  have t1:=eZ l
  have t2:=eZ l.tail
  cases tb with
  | true=>
   refine (dz h1 94 (h94.1 rfl)).mono ?_
   rintro x w' ⟨rfl,h2⟩
   exact ⟨rfl,_,_,[],by rw [EO];exact hL,by show l.tail.tail.length<_;omega,by simp,by show _+4*l.tail.tail.length<=_;simp only [List.length_nil];omega,World.ownsRow_nil _ _ _ _,h2⟩
  | false=>
   refine (cu h1 94 (by show ¬ _;intro e;exact absurd (h94.2 e) (by decide))).mono ?_
   rintro x w' ⟨rfl,h2⟩
   exact ⟨rfl,_,_,[],by rw [EO];exact hL,by show l.tail.length<_;omega,by simp,by show _+4*l.tail.length<=_;simp only [List.length_nil];omega,World.ownsRow_nil _ _ _ _,h2⟩
 clear hL h94
 cases tb
 all_goals
  go_enter Tryz.func328,Tryz.ntmps328
  go_wp2_with (first
   | (go_at_call 148;refine (dI hB 91 hc).mono ?_;clear hB;rintro x w1 ⟨rfl,HS⟩)
   | (go_at_call 219;refine (aa HM _ HS).mono ?_;clear HM HS;rintro x w2 ⟨rfl,HP⟩))
  go_loopw [4] (fun v wr=>∃ ao n cap,v=.slice ao n cap/\Hid (aca R0 w wr b s d v)) (fun _ wr=>left s b wr)
  case atStart=>exact ⟨_,_,_,rfl,HP⟩
  case round=>
   clear HP hc
   obtain ⟨ao,n,cap,rfl,HC⟩:=hrel
   obtain ⟨f,l',zs,hf,hlt,hgd,hzl,HO,HS⟩:=aa HC
   obtain ⟨f,rfl⟩:∃ f',f=f'+1:=⟨f - 1,by omega⟩
   have HL:=hide (PL.left HS)
   have HGD:=hide hgd
   rw [bR] at hf
   by_cases h93:hd l'=93
   ·rw [if_pos h93] at hf
    have H93:=hide h93
    have hcl:=Mt zs
    have HT:=hide (iP (lX hgd))
    clear h93 hgd HL HC
    subst hf
    go_wp2_with (first
     | (go_at_call 219;refine (dz (PL.base HS) 93 H93).mono ?_;rintro x w2 ⟨rfl,HS2⟩;have jl:=Gq HO hbw (PL.up HS2);have mG:=PL.join (PL.up HS) HS2;clear HS HS2 HO)
     | (go_at_call 160;refine (o7 w2 _ zs (by omega) (nk (aa jl)) (aa HGD)).mono ?_;rintro e w4 ⟨rfl,hb4⟩;have SI:=PL.below mG hb4;clear hb4 mG)
     | (go_at_call 156;refine (ny w4 (iO zs) (by omega) (aa HT)).mono ?_;rintro e w5 ⟨rfl,hb5⟩;have BI:=PL.below SI hb5;clear hb5 SI))
    go_ret
    first | exact ⟨rfl,aa HJ _ _ BI⟩ | exact ⟨rfl,aa HJ _ _ SI⟩
   ·rw [if_neg h93] at hf
    have H93:=hide h93
    clear h93 HC
    cases hp:kH s.size l' with
    | error y=>
     rw [hp] at hf
     have HX:Hid (R0=.error y):=hf.symm
     have tQ:=hide hp
     clear hf hp HL
     go_wp2_with (first
      | (go_at_call 219;refine (cu HS 93 H93).mono ?_;clear HS;rintro x w2 ⟨rfl,HS⟩)
      | (go_at_call 337;refine (Ui (ZX HS) tQ).mono ?_;rintro x w2 ⟨rfl,HU⟩))
     rw [aa HX]
     exact ⟨rfl,rfl,aa HJU _ HU⟩
    | ok y=>
     obtain ⟨p,l1⟩:=y
     rw [hp] at hf
     dsimp only at hf
     have hlen:=Q0 hp
     obtain ⟨hpg,hp0,hp4⟩:=(Ms (PL.Ud HS) _ _ hp).1
     rw [BH hgd hpg] at hf
     have HX:=hide hf
     have HPG:=hide hpg
     have tQ:=hide hp
     clear hf hp hgd hpg
     go_wp2_with (first
      | (go_at_call 219;refine (cu (PL.base HS) 93 H93).mono ?_;rintro x w2 ⟨rfl,HS2⟩;have jl:=Gq HO hbw (PL.up HS2);have mG:=PL.join (PL.up HS) HS2;clear HS HS2 HO)
      | (go_at_call 337;refine (Ya (ZX (PL.base mG)) tQ).mono ?_;rintro x w3 ⟨pv,rfl,HRW,SI⟩;have p8:=Gq jl hbw (PL.up SI);have BI:=PL.join (PL.up mG) SI;have hsz:=(PL.up BI).size;clear mG SI jl)
      | (at_builtin;refine Yb w.heap.size (b+1) w3 zs p _ pv (.tmp 12) (.tmp 14) rfl rfl rfl rfl p8 HRW hp0 hsz (by omega) ?_;intro ao4 n4 cap4 w4 xR Yc;have Mv:=PL.grown BI (aa Yc) (fun k hk=>by have:=((aa p8).lt k hk).1;omega);clear BI Yc p8 HRW))
     go_roundw
     case rel=>exact ⟨_,_,_,rfl,f,l1,zs++p,aa HX,by omega,fun x hx=>by rcases List.mem_append.1 hx with hx | hx;exact aa HGD x hx;exact aa HPG x hx,by rw [List.length_append];omega,xR,Mv⟩
     case measure=>
      have e1:=PL.left Mv
      have e2:=aa HL
      show left s b _<left s b _
      omega
end
end Go.Proofs.YtfolanohokflkaaGreatDoor
namespace Go.Proofs.YtfolanohokflkaaGreatDoor
open Go.RowKit
theorem Q4:encS Gj=⟨#[0,244,143,191,191]⟩:=by decide +kernel
theorem Q5 {c:Int} (h:aG c=true):iO [(c,c)]=[(c,c)]:=by
 have hg:=wC h h (Int.le_refl _)
 exact iN (iP (lX hg)) (Bj h) fun x hx=>o5 (lX hg) hx
section
variable {w0 w:World} {b:Nat} {s:ByteArray} {d:Int} {l:List Sy}
theorem Yd (w:World) (lo hi:Int):vG (w.alloc (.cells #[.int .i32 lo,.int .i32 hi] 248)).heap.size (w.alloc (.cells #[.int .i32 lo,.int .i32 hi] 248)) (.slice (some ⟨w.heap.size,0,none⟩) 1 1) [(lo,hi)]:=by
 have h:(w.alloc (.cells #[.int .i32 lo,.int .i32 hi] 248)).ownsRow w.heap.size 248 2 (.slice (some ⟨w.heap.size,0,none⟩) 1 1) [(lo,hi)].length (aK [(lo,hi)]):=
  World.ownsRow_lit w #[.int .i32 lo,.int .i32 hi] 1 (Nat.le_refl _) (by decide) rfl
 exact nk h
theorem Q6 (w:World) {c:Int} (h:aG c=true):Calls Tryz.prog 160 #[.slice (some ⟨w.heap.size,0,none⟩) 1 1] (w.alloc (.cells #[.int .i32 c,.int .i32 c] 248)) fun e w'=>e=.returned (aaL [(c,c)])/\Below w.heap.size w w':=by
 refine (o7 _ _ [(c,c)] (by simp) (Yd w c c) (wC h h (Int.le_refl _))).mono ?_
 rintro e w' ⟨rfl,hb⟩
 rw [Q5 h]
 have h1:Below w.heap.size w (w.alloc (.cells #[.int .i32 c,.int .i32 c] 248)):=(Below.refl _ w).alloc (Nat.le_refl _) _
 exact ⟨rfl,h1.trans (hb.mono (by simp))⟩
theorem Jl {n:Nat} {l:List Sy} (h1:¬ hd l=91) (h2:¬ hd l=46) (h3:isSet l=false):gp n l=QS (mM n l):=by
 unfold gp mM
 rw [if_neg h1]
 split
 ·rw [if_neg (by rw [h3];decide)]
 ·split<;>rfl
theorem Jm {n:Nat} {l:List Sy} (h:bq l):Good X7 (mM n l):=by
 unfold mM
 split
 ·exact ry h.tail
 ·split
  ·exact Good.bad
  ·rename_i hn
   exact Good.ok (h.hd fun e=>hn (.inl e)) h.tail
set_option maxRecDepth 100000 in
set_option maxHeartbeats 8000000 in
theorem Ox (h:Hid (PL w0 w b s d l)) :
  Calls Tryz.prog 321 #[.pointer (some ⟨b,0,none⟩)] w (Br (gp s.size l) aaL w0 b s d):=by
 obtain ⟨R,hR⟩:∃ R,gp s.size l=R:=⟨_,rfl⟩
 rw [hR]
 by_cases Xf:hd l=91
 ·have HC:=hide Xf
  rw [gp,if_pos Xf] at hR
  have HR:=hide hR
  clear hR Xf
  cases R with
  | error y=>
   go_enter Tryz.func321,Tryz.ntmps321
   go_wp2_with (first
    | (go_at_call 251;refine (d_ h HC).mono ?_;clear h;rintro x w1 ⟨rfl,HS⟩)
    | (go_at_call 328;refine (h_ (Uk HS HC) HR).mono ?_;rintro x w2 ⟨rfl,HU⟩))
   exact ⟨rfl,rfl,HU⟩
  | ok y=>
   obtain ⟨z,l1⟩:=y
   go_enter Tryz.func321,Tryz.ntmps321
   go_wp2_with (first
    | (go_at_call 251;refine (d_ h HC).mono ?_;clear h;rintro x w1 ⟨rfl,HS⟩)
    | (go_at_call 328;refine (dL (Uk HS HC) HR).mono ?_;clear HS;rintro x w2 ⟨rfl,HS⟩))
   go_ret
   exact ⟨rfl,HS⟩
 ·obtain ⟨c,hcc⟩:∃ c,hd l=c:=⟨_,rfl⟩
  have gP:=hide hcc
  have k1:(c==91)=false:=by rw [<-hcc];simpa using Xf
  by_cases h46:hd l=46
  ·have HD:=hide h46
   have HX:Hid (R=.ok (Gj,l.tail)):=by show _=_;rw [<-hR,gp,if_neg Xf,if_neg (by omega),if_pos h46]
   clear h46 Xf hcc hR
   go_enter Tryz.func321,Tryz.ntmps321
   go_wp2_with (first
    | (go_at_call 251;refine (d_ h gP).mono ?_;clear h;rintro x w1 ⟨rfl,HS⟩)
    | (go_at_call 219;refine (dz HS 46 HD).mono ?_;clear HS;rintro x w2 ⟨rfl,HS⟩))
   go_ret
   rw [aa HX]
   exact ⟨(by show _=Ending.returned (.string (encS Gj));rw [Q4];rfl),HS⟩
  ·have HD:=hide h46
   cases hs:isSet l with
   | true=>
    have h92':hd l=92/\(hd l.tail=100\/hd l.tail=119):=by simpa [isSet] using hs
    have zw:hd l=92:=h92'.1
    clear h92'
    have HX:Hid (R=.ok (jO l,l.tail.tail)):=by show _=_;rw [<-hR,gp,if_neg Xf,if_pos zw,if_pos hs]
    have HN:=hide hs
    clear zw h46 Xf hcc hR hs
    go_enter Tryz.func321,Tryz.ntmps321
    go_wp2_with (first
     | (go_at_call 251;refine (d_ h gP).mono ?_;clear h;rintro x w1 ⟨rfl,HS⟩)
     | (go_at_call 219;refine (cu HS 46 HD).mono ?_;clear HS;rintro x w2 ⟨rfl,HS⟩)
     | (go_at_call 329;refine (v_ HS HN).mono ?_;clear HS;rintro x w3 ⟨rfl,HS⟩))
    go_ret
    rw [aa HX]
    exact ⟨rfl,HS⟩
   | false=>
    rw [Jl Xf h46 hs] at hR
    have HN:=hide hs
    have hsy:=Jm (n:=s.size) (PL.Ud h)
    clear h46 Xf hcc hs
    cases hq:mM s.size l with
    | error y=>
     rw [hq] at hR
     have HX:Hid (R=.error y):=hR.symm
     have HQ:=hide hq
     clear hq hR hsy
     go_enter Tryz.func321,Tryz.ntmps321
     go_wp2_with (first
      | (go_at_call 251;refine (d_ h gP).mono ?_;clear h;rintro x w1 ⟨rfl,HS⟩)
      | (go_at_call 219;refine (cu HS 46 HD).mono ?_;clear HS;rintro x w2 ⟨rfl,HS⟩)
      | (go_at_call 329;refine (iU HS HN).mono ?_;clear HS;rintro x w3 ⟨rfl,HS⟩)
      | (go_at_call 330;refine (h_ (Ou HS) HQ).mono ?_;rintro x w4 ⟨rfl,HU⟩))
     rw [aa HX]
     exact ⟨rfl,rfl,HU⟩
    | ok y=>
     obtain ⟨z,l1⟩:=y
     rw [hq] at hR
     have HX:Hid (R=.ok ([(z,z)],l1)):=hR.symm
     have hz:aG z=true:=(hsy _ _ hq).1
     have HSO:=hide (fun W:World=>Q6 W hz)
     have HQ:=hide hq
     clear hq hR hsy hz
     go_enter Tryz.func321,Tryz.ntmps321
     go_wp2_with (first
      | (go_at_call 251;refine (d_ h gP).mono ?_;clear h;rintro x w1 ⟨rfl,HS⟩)
      | (go_at_call 219;refine (cu HS 46 HD).mono ?_;clear HS;rintro x w2 ⟨rfl,HS⟩)
      | (go_at_call 329;refine (iU HS HN).mono ?_;clear HS;rintro x w3 ⟨rfl,HS⟩)
      | (go_at_call 330;refine (dL (Ou HS) HQ).mono ?_;clear HS;rintro x w4 ⟨rfl,HS⟩)
      | (go_at_call 160;refine (aa HSO w4).mono ?_;rintro x w5 ⟨rfl,hb5⟩;have BI:=PL.below HS hb5;clear hb5))
     go_ret
     rw [aa HX]
     exact ⟨rfl,BI⟩
end
end Go.Proofs.YtfolanohokflkaaGreatDoor
namespace Go.Proofs.YtfolanohokflkaaGreatDoor
open Go.RowKit
theorem Mw (x:Int) (w:World):Calls Tryz.prog 253 #[.int .i32 x] w fun e w'=>e=.returned (.bool false)/\w=w':=by
 go_enter Tryz.func253,Tryz.ntmps253
 go_wp2_with fail
 go_ret
 exact ⟨rfl,rfl⟩
theorem xS (x y:Int) (w:World):Calls Tryz.prog 221 #[.int .i32 x,.int .i32 y] w fun e w'=>e=.returned (.bool (decide (x<y)))/\w=w':=by
 go_enter Tryz.func221,Tryz.ntmps221
 go_wp2_with (go_at_call 253;refine (Mw _ _).mono ?_;rintro e w1 ⟨rfl,rfl⟩)
 go_ret
 exact ⟨rfl,rfl⟩
def runeCells (l:List Int):List Value:=l.map (Value.int .i32)
structure Rn (w0 w:World) (g n cap:Nat) (l:List Int):Prop where
 own:w.ownsRow 0 21 1 (.slice (some ⟨g,0,none⟩) n cap) n (runeCells l)
 len:l.length=n
 os:w.os=w0.os
 tape:w.tape=w0.tape
 output:w.output=w0.output
 size:w.heap.size=w0.heap.size
 block:∀ k,k≠g->w.heap[k]? = w0.heap[k]?
theorem Rn.get {w0 w:World} {g n cap:Nat} {l:List Int} (h:Rn w0 w g n cap l) {j:Nat} (hj:j<n):w.cell? ⟨g,j,none⟩=some (.int .i32 (l.getD j 0))/\w.frozen? ⟨g,j,none⟩=false:=by
 obtain ⟨ao,cap',e,hh⟩:=aQ h.own
 injection e with e1 e2 e3
 obtain ⟨g',e4,_,_,hc,hf⟩:=hh (by omega)
 rw [e4] at e1
 injection e1 with e1
 injection e1 with e1
 subst e1
 refine ⟨?_,hf j⟩
 rw [hc j (by omega)]
 have hl:=h.len
 simp [runeCells,List.getElem?_eq_getElem (show j<l.length by omega),List.getD_eq_getElem?_getD]
end Go.Proofs.YtfolanohokflkaaGreatDoor
namespace Go.Proofs.YtfolanohokflkaaGreatDoor
open Go.RowKit
theorem Jn (x:Int) (w:World):Calls Tryz.prog 222 #[.int .i32 x] w fun e w'=>e=.returned (.bool false)/\w=w':=by
 go_enter Tryz.func222,Tryz.ntmps222
 go_wp2_with fail
 go_ret
 exact ⟨rfl,rfl⟩
theorem Oy {l:List Int} (hs:l.Pairwise (· < ·)) {a b:Nat} (hab:a<b) (hb:b<l.length):l.getD a 0<l.getD b 0:=by
 rw [List.getD_eq_getElem?_getD,List.getD_eq_getElem?_getD,List.getElem?_eq_getElem (by omega),List.getElem?_eq_getElem hb]
 exact List.pairwise_iff_getElem.1 hs a b (by omega) hb hab
structure Bs (l:List Int) (c:Int) (i j:Nat):Prop where
 le:i<=j
 ln:j<=l.length
 lo:∀ k,k<i->l.getD k 0<c
 hi:∀ k,j<=k->k<l.length->c<=l.getD k 0
theorem Bs.up {l:List Int} {c:Int} {i j:Nat} (hs:l.Pairwise (· < ·)) (h:Bs l c i j) {m:Nat} (h2:m<j) (hm:l.getD m 0<c):Bs l c (m+1) j:=by
 have hl:=h.ln
 refine ⟨by omega,h.ln,fun k hk=>?_,h.hi⟩
 by_cases e:k=m
 ·rw [e];exact hm
 ·exact Int.lt_trans (Oy hs (show k<m by omega) (by omega)) hm
theorem Bs.down {l:List Int} {c:Int} {i j:Nat} (hs:l.Pairwise (· < ·)) (h:Bs l c i j) {m:Nat} (h1:i<=m) (h2:m<j) (hm:¬ l.getD m 0<c):Bs l c i m:=by
 have hl:=h.ln
 refine ⟨h1,by omega,h.lo,fun k hk hkl=>?_⟩
 by_cases e:k=m
 ·rw [e];omega
 ·have:=Oy hs (show m<k by omega) hkl
  omega
set_option maxRecDepth 100000 in
set_option maxHeartbeats 4000000 in
theorem Gr (w:World) (g n cap:Nat) (l:List Int) (c:Int) (hn:n<=1000000) (h:Hid (Rn w w g n cap l)) (hs:Hid (l.Pairwise (· < ·))) :
  Calls Tryz.prog 149 #[.slice (some ⟨g,0,none⟩) n cap,.int .i32 c] w fun e w'=>∃ i:Nat,e=.returned (.tuple #[.int .i64 i,.bool (decide (i<n/\l.getD i 0=c))])/\Hid (Below w.heap.size w w')/\Hid (Bs l c i i):=by
 have hlen:=(aa h).len
 have HB0:Hid (Bs l c 0 n):=⟨Nat.zero_le _,by omega,fun k hk=>by omega,fun k h1 h2=>by omega⟩
 have HLEN:=hide hlen
 clear hlen
 go_enter Tryz.func149,Tryz.ntmps149
 go_wp2_with fail
 go_loopw [7,8] (fun a b wr=>∃ i j:Nat,a=.int .i64 (i:Int)/\b=.int .i64 (j:Int)/\i<=n/\j<=n/\Hid (Bs l c i j)/\Hid (wr=w)) (fun a b _=>(intOf b).toNat - (intOf a).toNat)
 case atStart=>exact ⟨0,n,rfl,rfl,Nat.zero_le _,Nat.le_refl _,HB0,rfl⟩
 case round=>
  obtain ⟨i,j,rfl,rfl,hi,hj,HB,HW⟩:=hrel
  obtain rfl:wr=w:=aa HW
  by_cases hij:i<j
  ·have hI:(i:Int)<(j:Int):=by omega
   obtain ⟨m,hm⟩:∃ m,(i+j) / 2=m:=⟨_,rfl⟩
   have ZP:((i:Int)+(j:Int)) / 2=(m:Int):=by omega
   have him:i<=m:=by omega
   have hmj:m<j:=by omega
   have hw1:IntKind.i64.wrap ((m:Int)+1)=((m+1:Nat):Int):=by simp [IntKind.wrap,IntKind.bits,IntKind.signed];omega
   have c1:=((aa h).get (j:=m) (by omega)).1
   obtain ⟨x,hx⟩:∃ x,l.getD m 0=x:=⟨_,rfl⟩
   rw [hx] at c1
   have HX:=hide hx
   have HM:=hide hm
   clear hm hx
   by_cases hxc:x<c
   ·have HN:=hide ((aa HB).up (aa hs) hmj (by rw [aa HX];exact hxc))
    go_wp2_with (go_at_call 221;refine (xS _ _ _).mono ?_;rintro e w1 ⟨rfl,rfl⟩)
    go_roundw
    case rel=>exact ⟨m+1,j,by go_num,rfl,by omega,hj,HN,trivial⟩
    case measure=>have:=aa HM;simp [intOf];omega
   ·have hd:decide (x<c)=false:=by simpa using hxc
    have HN:=hide ((aa HB).down (aa hs) him hmj (by rw [aa HX];exact hxc))
    go_wp2_with (go_at_call 221;refine (xS _ _ _).mono ?_;rintro e w1 ⟨rfl,rfl⟩)
    go_roundw
    case rel=>exact ⟨i,m,rfl,by go_num,hi,by omega,HN,trivial⟩
    case measure=>have:=aa HM;simp [intOf];omega
  ·have hI:¬ (i:Int)<(j:Int):=by omega
   have hle:=(aa HB).le
   obtain rfl:i=j:=by omega
   by_cases hin:i<n
   ·have hIN:(i:Int)<(n:Int):=by omega
    have hi0:(0:Int)<=(i:Int):=by omega
    have c1:=((aa h).get (j:=i) hin).1
    obtain ⟨x,hx⟩:∃ x,l.getD i 0=x:=⟨_,rfl⟩
    rw [hx] at c1
    have HX:=hide hx
    clear hx
    by_cases hxc:x=c
    ·subst hxc
     go_wp2_with fail
     go_ret2
     exact ⟨i,by show Ending.returned (.tuple #[.int .i64 (i:Int),.bool true])=_;have hx:=aa HX;rw [List.getD_eq_getElem?_getD] at hx;simp [hin,hx],Below.refl _ _,HB⟩
    ·have hd:(x==c)=false:=by simpa using hxc
     go_wp2_with (go_at_call 222;refine (Jn _ _).mono ?_;rintro e w1 ⟨rfl,rfl⟩)
     go_ret2
     exact ⟨i,by show Ending.returned (.tuple #[.int .i64 (i:Int),.bool false])=_;have hx:=aa HX;rw [List.getD_eq_getElem?_getD] at hx;simp [hx,hxc],Below.refl _ _,HB⟩
   ·have hIN:¬ (i:Int)<(n:Int):=by omega
    go_wp2_with fail
    go_ret2
    exact ⟨i,by show Ending.returned (.tuple #[.int .i64 (i:Int),.bool false])=_;simp [hin],Below.refl _ _,HB⟩
end Go.Proofs.YtfolanohokflkaaGreatDoor
namespace Go.Proofs.YtfolanohokflkaaGreatDoor
open Go.RowKit
theorem Ul {l:af} {c:Int} {k:Nat} (h:k<l.length) (h0:dw (l.take k) c=false):dw (l.take (k+1)) c=decide (l[k].1<=c/\c<=l[k].2):=by
 rw [List.take_succ_eq_append_getElem h]
 unfold dw at *
 rw [List.any_append,h0]
 simp
theorem Um {l:af} {c:Int} {k:Nat} (h:k<l.length) (h0:l[k].1<=c/\c<=l[k].2):dw l c=true:=by
 unfold dw
 exact List.any_eq_true.2 ⟨l[k],List.getElem_mem h,by simp [h0.1,h0.2]⟩
set_option maxRecDepth 100000 in
set_option maxHeartbeats 4000000 in
theorem Ye (w:World) (l:af) (c:Int) (hl:l.length<=900) (ht:Tidy l) :
  Calls Tryz.prog 165 #[.string (encS l),.int .i32 c] w fun e w'=>e=.returned (.bool (dw l c))/\Below w.heap.size w w':=by
 have hP:=jN w l (by omega) (bB ht)
 have HP:=hide hP
 clear hP ht
 generalize encS l=s at HP
 go_enter Tryz.func165,Tryz.ntmps165
 go_wp2_with (go_at_call 161;refine (aa HP).mono ?_;clear HP;rintro e w1 ⟨v,rfl,hrow,hb⟩;have HB1:=hide hb;obtain ⟨av,cv,rfl,hvw⟩:=aQ hrow;have Mc:=hide hvw;clear hrow hb hvw)
 go_loopw [10] (fun i wr=>∃ k:Nat,k<=l.length/\i=.int .i64 k/\Hid (dw (l.take k) c=false)/\Hid (Below w1.heap.size w1 wr)) (fun i _=>l.length - (intOf i).toNat)
 case atStart=>exact ⟨0,Nat.zero_le _,rfl,rfl,Below.refl _ _⟩
 case round=>
  obtain ⟨k,hk,rfl,HI,HB⟩:=hrel
  by_cases hlt:k<l.length
  ·obtain ⟨g,rfl,-,hg,hc,-⟩:=aa Mc (by omega)
   have hget:=iQ l k hlt
   have c1:=hc (k*2) (by omega)
   have c2:=hc (k*2+1) (by omega)
   rw [hget.1,<-(aa HB).cell (p:=⟨g,k*2,none⟩) hg] at c1
   rw [hget.2,<-(aa HB).cell (p:=⟨g,k*2+1,none⟩) hg] at c2
   have HT:=hide (Ul (c:=c) hlt (aa HI))
   have HW:=hide (fun h0=>Um (c:=c) hlt h0)
   have HB2:=hide ((aa HB).alloc (aa HB).size (.cells #[.int .i32 l[k].1,.int .i32 l[k].2] 248))
   clear hget hc Mc HI HB
   generalize l[k].1=lo at *
   generalize l[k].2=hi at *
   by_cases h1:lo<=c
   ·by_cases h2:c<=hi
    ·go_wp2_with fail
     go_ret
     exact ⟨by rw [aa HW ⟨h1,h2⟩];rfl,(aa HB1).trans ((aa HB2).mono (aa HB1).size)⟩
    ·have d2:decide (c<=hi)=false:=by simpa using h2
     go_wp2_with fail
     go_roundw
     case rel=>exact ⟨k+1,by omega,by go_num,(by show _=_;rw [aa HT];simp [h2]),HB2⟩
     case measure=>simp [intOf];omega
   ·have d1:decide (lo<=c)=false:=by simpa using h1
    go_wp2_with fail
    go_roundw
    case rel=>exact ⟨k+1,by omega,by go_num,(by show _=_;rw [aa HT];simp [h1]),HB2⟩
    case measure=>simp [intOf];omega
  ·have hkl:k=l.length:=by omega
   subst hkl
   rw [List.take_length] at HI
   go_wp2_with fail
   go_ret
   exact ⟨by rw [aa HI];rfl,(aa HB1).trans ((aa HB).mono (aa HB1).size)⟩
end Go.Proofs.YtfolanohokflkaaGreatDoor
namespace Go.Proofs.YtfolanohokflkaaGreatDoor
open Go.RowKit
theorem Un {ops:Array Oper} {rest:List Oper} {o:Oper} {a:Act} {Q:Exit->Act->World->Prop} (w wr:World) (zs:List Int) (v:Value) (c:Int) (s x:Operand) (hg:o.guard=none)
  (hop:o.op=.call { callee:=.builtin .append,args:=#[s,x],argTypes:=#[107,107] }) (hs:a.eval s=v) (H:Nat) (hH:wr.heap.size=H) (hx:a.eval x=.slice (some ⟨H,0,none⟩) 1 1)
  (ho:Hid (wr.ownsRow w.heap.size 21 1 v zs.length (runeCells zs))) (hb:Hid (Below w.heap.size w wr)) (hl:zs.length<=2000000)
  (K:∀ ao cap w',Hid (w'.ownsRow w.heap.size 21 1 (.slice ao (zs.length+1) cap) (zs.length+1) (runeCells (zs++[c])))->Hid (Below w.heap.size w w')->wpList Tryz.prog ops Q rest (a.put o.dst (.slice ao (zs.length+1) cap)) w') :
  wpList Tryz.prog ops Q (o::rest) a (wr.alloc (.cells #[.int .i32 c] 21)):=by
 obtain ⟨i0,hi0,hz0,hz1,hz2⟩:=info_parts IE
 subst hH
 have hown:=aa ho
 have hb':Below w.heap.size w wr:=hb
 have:=hb'.size
 refine wpList_append_own _ hg s x 107 hop w.heap.size 21 i0 (.int .i32 0) 1 4 Tryz.underlying107 hi0 hz0 hz1 hz2 rfl (by decide) _ _ _ hs (hown.alloc _) ⟨wr.heap.size,0,none⟩ 1 1 [.int .i32 c] hx rfl (bH wr [.int .i32 c] _) (by intro u hu;simp at hu;rw [hu];rfl) (by unfold maxLen;omega) (by omega) (by simp;omega) ?_
 intro v' w' h1 h2 _
 have h3:w'.ownsRow w.heap.size 21 1 v' (zs.length+1) (runeCells (zs++[c])):=by
  rw [show runeCells (zs++[c])=runeCells zs++[.int .i32 c] from by simp [runeCells]]
  exact h1
 obtain ⟨ao,cap,rfl,-⟩:=aQ h3
 exact K ao cap w' h3 (iY hb' hown h2 hb'.size)
theorem below_grown {B:Nat} {w wr w1:World} {e size n:Nat} {v:Value} {xs:List Value} (hb:Below B w wr) (ho:wr.ownsRow B e size v n xs) (hg:wr.grownBy w1 v.ownBlock) (hB:B<=wr.heap.size):Below B w w1:=
 ⟨hg.os.trans hb.os,hg.tape.trans hb.tape,hg.output.trans hb.output,Nat.le_trans hb.size hg.size,fun k hk=>(hg.block k (by omega) (fun e=>by have:=(ho.lt k e.symm).1;omega)).trans (hb.block k hk)⟩
theorem Mx {w:World} {B e size g n cap:Nat} {xs:List Value} (h:w.ownsRow 0 e size (.slice (some ⟨g,0,none⟩) n cap) n xs) (hB:B<=g):w.ownsRow B e size (.slice (some ⟨g,0,none⟩) n cap) n xs:=by
 obtain ⟨hl,⟨hv,_⟩ | ⟨g',cap',cur,hv,_,rest⟩⟩:=h
 ·cases hv
 ·have e:g'=g:=by injection hv with e;injection e with e;injection e with e;exact e.symm
  subst e
  exact ⟨hl,.inr ⟨g',cap',cur,hv,hB,rest⟩⟩
end Go.Proofs.YtfolanohokflkaaGreatDoor
namespace Go.Proofs.YtfolanohokflkaaGreatDoor
open Go.RowKit
structure kU (w:World) (t:TB) (g cap:Nat) (dn:List Int):Prop where
 own:w.ownsRow 0 21 1 (.slice (some ⟨g,0,none⟩) dn.length cap) dn.length (runeCells dn)
 apart:¬ TF t g
theorem kU.lt {w:World} {t:TB} {g cap:Nat} {dn:List Int} (h:kU w t g cap dn):g<w.heap.size:=(h.own.lt g rfl).2
theorem kU.move {w w':World} {t:TB} {g cap:Nat} {dn:List Int} (h:kU w t g cap dn) (e:w'.heap[g]? = w.heap[g]?):kU w' t g cap dn:=by
 refine ⟨?_,h.apart⟩
 obtain ⟨hl,hx | ⟨g',cap',cur,hv,hb',hg,rest⟩⟩:=h.own
 ·exact ⟨hl,.inl hx⟩
 ·have e':g'=g:=by injection hv with e;injection e with e;injection e with e;exact e.symm
  subst e'
  exact ⟨hl,.inr ⟨g',cap',cur,hv,hb',e.trans hg,rest⟩⟩
section
variable {w:World} {t:TB} {T:List Te} {S C:List (Value×Value)} {k:Ky}
end
end Go.Proofs.YtfolanohokflkaaGreatDoor
namespace Go.Proofs.YtfolanohokflkaaGreatDoor
open Go.RowKit
section
variable {w:World} {t:TB} {T:List Te} {N S C:List (Value×Value)} {k:Ky}
theorem aZ.Yf (h:aZ w t T N S C) (C':List (Value×Value)):aZ (ChangeMaps.setBlock w t.cb (mkMap C')) t T N S C':=by
 obtain ⟨n1,n2,n3,n4,n5,n6⟩:=h.ne
 refine ⟨(bQ n3).trans h.tb,(bQ n5).trans h.nb,(bQ n6).trans h.sb,vD (h.foot (.inr (.inr (.inr (.inl rfl))))),?_,h.ne,h.nr,h.ok,h.nd⟩
 obtain ⟨hl,hx | ⟨g,cap,cur,hv,hb',hg,rest⟩⟩:=h.row
 ·exact ⟨hl,.inl hx⟩
 ·refine ⟨hl,.inr ⟨g,cap,cur,hv,hb',?_,rest⟩⟩
  have hne:g≠t.cb:=by injection hv with e;exact (h.nr _ e).2.2.2
  exact (bQ hne).trans hg
end
end Go.Proofs.YtfolanohokflkaaGreatDoor
