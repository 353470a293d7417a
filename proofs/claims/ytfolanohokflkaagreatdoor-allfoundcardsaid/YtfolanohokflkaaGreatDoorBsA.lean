import Derived.Test.YtfolanohokflkaaGreatDoorNdI
import Derived.Test.YtfolanohokflkaaGreatDoorPSame
import Derived.Test.YtfolanohokflkaaGreatDoorSvF
import Derived.WalkKit
import Derived.WalkSpells
import Derived.WalkLawsBesides
import Derived.WalkMore
import Derived.Test.YtfolanohokflkaaGreatDoorTabC
import Derived.Test.YtfolanohokflkaaGreatDoorAfE
import Derived.Deep.QuietTactic
import Derived.BigQuiet
import Derived.BigRegion
namespace Go.Proofs.YtfolanohokflkaaGreatDoor
open Go.RowKit
theorem wN {a c:Int} (ha:aF a=true) (hc:aF c=true) (h:a<=c):∀ p∈[(a,c)],jw p:=by intro p hp;simp at hp;subst hp;exact ⟨ha,hc,h⟩
theorem MP {n:Nat} {l:List Sy} (h:bg l):Good (fun z=>(∀ p∈z,jw p)/\0<z.length/\z.length<=4) (kJ n l):=by
 unfold kJ
 split
 ·exact Good.ok ⟨bA (wB l),by unfold jN;split<;>decide⟩ h.tail.tail
 ·have g:=qm (n:=n) h
  split
  ·exact Good.err
  ·rename_i a l1 e
   obtain ⟨ha,h1⟩:=g _ _ e
   split
   ·have g2:=qm (n:=n) h1.tail
    split
    ·exact Good.err
    ·rename_i b l2 e2
     obtain ⟨hb,h2⟩:=g2 _ _ e2
     split
     ·exact Good.bad
     ·exact Good.ok ⟨wN ha hb (by omega),by simp,by simp⟩ h2
   ·exact Good.ok ⟨wN ha ha (Int.le_refl _),by simp,by simp⟩ h1
theorem Rl {n:Nat} {l l1:List Sy} {z:af} (h:kJ n l=.ok (z,l1)):l1.length<l.length:=by
 have e:=EL n l
 rw [h] at e
 exact EF (y:=((),l1)) e
theorem BQ {zs p:af} (hz:∀ x∈zs,jw x) (hp:∀ x∈p,jw x):qR (iM zs) p=iM (zs++p):=by
 have h1:=lY hz
 have h2:=lY hp
 have h3:Pos (zs++p):=fun x hx=>by rcases List.mem_append.1 hx with hx | hx;exact h1 x hx;exact h2 x hx
 refine iL (iY (iN h1).pos h2) (iN h3) fun c hc=>?_
 rw [og (iN h1).pos h2 hc,o8 h1 hc,o8 h3 hc,ll]
theorem MQ (zs:af):(iM zs).length<=zs.length+1:=by
 have:=Uf [] zs
 simpa [iM] using this
section
variable {w0 w:World} {b:Nat} {s:ByteArray} {d:Int} {l:List Sy}
theorem PL.grown {w':World} {row:Option Nat} (h:Hid (PL w0 w b s d l)) (hg:w.grownBy w' row) (hrow:∀ k,row=some k->w0.heap.size<=k/\b<k):Hid (PL w0 w' b s d l):=by
 obtain ⟨p,g,e⟩:=aa h
 have hlt:=g.lt
 have hb2:=g.b2
 have hbl:∀ k,k<w.heap.size->(k<w0.heap.size\/k<=b)->w'.heap[k]? = w.heap[k]? := fun k hk hk2=>hg.block k hk fun e'=>by have:=hrow k e'.symm;omega
 have hc:∀ i v,w.cell? ⟨b,i,none⟩=some v->w'.cell? ⟨b,i,none⟩=some v:=fun i v q=>by
  rw [World.cell?_of_block (hbl b hlt (.inr (Nat.le_refl _)))];exact q
 have hup:=g.up.size
 refine ⟨p,⟨hc _ _ g.c0,hc _ _ g.c1,hc _ _ g.c2,fun k=>by rw [World.frozen?_of_block (hbl b hlt (.inr (Nat.le_refl _)))];exact g.fz k,iE g.tabs (hbl _ (by omega) (.inr (by omega))) (hbl _ (by omega) (.inr (by omega))),g.b2,?_,g.le,g.small⟩,e⟩
 exact ⟨hg.os.trans g.up.os,hg.tape.trans g.up.tape,hg.output.trans g.up.output,Nat.le_trans hup hg.size,fun k hk hkb=>(hbl k (by omega) (.inl hk)).trans (g.up.block k hk hkb)⟩
def left (s:ByteArray) (b:Nat) (w:World):Nat:=match w.cell? ⟨b,1,none⟩ with
 | some (.int _ n)=>(ai s n.toNat).length
 | _=>0
theorem PL.left (h:Hid (PL w0 w b s d l)):left s b w=l.length:=by
 obtain ⟨p,h1,rfl⟩:=aa h
 rw [Proofs.YtfolanohokflkaaGreatDoor.left,h1.c1]
 rfl
theorem YI {ops:Array Oper} {rest:List Oper} {o:Oper} {a:Act} {Q:Exit->Act->World->Prop} (B B':Nat) (wr:World) (zs p:List (Int×Int)) (v x:Value) (so xo:Operand) (hg:o.guard=none)
  (hop:o.op=.call { callee:=.builtin .append,args:=#[so,xo],argTypes:=#[237,237] }) (hs:a.eval so=v) (hx:a.eval xo=x)
  (ho:Hid (wr.ownsRow B 248 2 v zs.length (aJ zs))) (ho2:Hid (wr.ownsRow B' 248 2 x p.length (aJ p))) (hp:0<p.length) (hB:B<=wr.heap.size) (hl:zs.length+p.length<=2000000)
  (K:∀ ao n cap w',Hid (w'.ownsRow B 248 2 (.slice ao n cap) (zs++p).length (aJ (zs++p)))->Hid (wr.grownBy w' v.ownBlock)->wpList Tryz.prog ops Q rest (a.put o.dst (.slice ao n cap)) w') :
  wpList Tryz.prog ops Q (o::rest) a wr:=by
 obtain ⟨i0,hi0,hz0,hz1,hz2⟩:=info_parts oZ
 obtain ⟨g,cap,rfl,-,-⟩:=(aa ho2).form hp
 refine wpList_append_own _ hg so xo 237 hop B 248 i0 (.agg #[.int .i32 0,.int .i32 0]) 2 8 Tryz.underlying237 hi0 hz0 hz1 hz2 rfl (by decide) _ _ _ hs (aa ho) ⟨g,0,none⟩ p.length cap (aJ p) hx (iI p) ((aa ho2).cells rfl) ?_ (by unfold maxLen;omega) (by omega) hB ?_
 ·intro u hu
  have:∀ q:List (Int×Int),∀ u∈aJ q,u.oneCell'=true:=by
   intro q
   induction q with
   | nil=>intro u hu;simp [aJ] at hu
   | cons y q ih=>intro u hu;simp only [aJ,List.mem_cons] at hu;rcases hu with rfl | rfl | hu;rfl;rfl;exact ih u hu
  exact this p u hu
 ·intro v' w' h1 h2 _
  have h3:w'.ownsRow B 248 2 v' (zs++p).length (aJ (zs++p)):=by
   rw [iJ,List.length_append];exact h1
  obtain ⟨ao,cap,rfl,-⟩:=aN h3
  exact K ao _ cap w' h3 h2
def ac1 (R:bn af) (w wr:World) (b:Nat) (s:ByteArray) (d:Int) (v:Value):Prop:=
 ∃ f l zs,bP s.size f (iM zs) l=R/\l.length<f/\(∀ p∈zs,jw p)/\zs.length+4*l.length<=240/\Hid (wr.ownsRow w.heap.size 248 2 v zs.length (aJ zs))/\Hid (PL w wr b s d l)
theorem EO:iM []=[]:=by decide +kernel
end
abbrev abl (z:af):Value:=.string (encS z)
section
variable {w0 w:World} {b:Nat} {s:ByteArray} {d:Int} {l:List Sy}
theorem Gn {w wr w2:World} {b:Nat} {v:Value} {zs:af} (ho:Hid (wr.ownsRow w.heap.size 248 2 v zs.length (aJ zs))) (hb:b<w.heap.size) (hu:Up b wr w2):Hid (w2.ownsRow w.heap.size 248 2 v zs.length (aJ zs)):=
 UD (aa ho) hu fun e=>by have:=((aa ho).lt _ e).1;omega
set_option maxRecDepth 100000 in
set_option maxHeartbeats 8000000 in
theorem UJ (h:Hid (PL w0 w b s d l)) (hc:Hid (hd l=91)) :
  Calls Tryz.prog 328 #[.pointer (some ⟨b,0,none⟩)] w (BD (jO s.size l.tail) abl w0 b s d):=by
 have hbw:=PL.lt h
 have ac2:=PL.len h
 have HJ:Hid (∀ w' l',Hid (PL w w' b s d l')->Hid (PL w0 w' b s d l')):=fun w' l' h'=>PL.join (PL.up h) h'
 have HJU:Hid (∀ w',Hid (Up b w w')->Hid (Up b w0 w')):=fun w' h'=>(PL.up h).trans (aa h')
 have hB:=PL.base h
 clear h
 obtain ⟨tb,R0,h94,hR⟩:∃ (tb:Bool) (R0:bn af),(tb=true↔hd l.tail=94)/\bP s.size (l.tail.length+1) [] (if tb=true then l.tail.tail else l.tail)=R0/\jO s.size l.tail=if tb=true then Br R0 else R0:=by
  by_cases e:hd l.tail=94
  ·exact ⟨true,_,by simp [e],rfl,by rw [jO,if_pos e];rfl⟩
  ·exact ⟨false,_,by simp [e],rfl,by rw [jO,if_neg e];rfl⟩
 obtain ⟨hL,hR⟩:=hR
 rw [hR]
 clear hR
 have HM:Hid (∀ w1,Hid (PL w w1 b s d l.tail)->Calls Tryz.prog 219 #[.pointer (some ⟨b,0,none⟩),.int .i32 94] w1 fun x w'=>x=.returned (.bool tb)/\Hid (ac1 R0 w w' b s d (.slice none 0 0))):=by
  intro w1 h1
  have t1:=eT l
  have t2:=eT l.tail
  cases tb with
  | true=>
   refine (dz h1 94 (h94.1 rfl)).mono ?_
   rintro x w' ⟨rfl,h2⟩
   exact ⟨rfl,_,_,[],by rw [EO];exact hL,by show l.tail.tail.length<_;omega,by simp,by show _+4*l.tail.tail.length<=_;simp only [List.length_nil];omega,World.ownsRow_nil _ _ _ _,h2⟩
  | false=>
   refine (bZ h1 94 (by show ¬ _;intro e;exact absurd (h94.2 e) (by decide))).mono ?_
   rintro x w' ⟨rfl,h2⟩
   exact ⟨rfl,_,_,[],by rw [EO];exact hL,by show l.tail.length<_;omega,by simp,by show _+4*l.tail.length<=_;simp only [List.length_nil];omega,World.ownsRow_nil _ _ _ _,h2⟩
 clear hL h94
 cases tb
 all_goals
  go_enter Tryz.func328,Tryz.ntmps328
  go_wp2_with (first
   | (go_at_call 148;refine (dG hB 91 hc).mono ?_;clear hB;rintro x w1 ⟨rfl,HS⟩)
   | (go_at_call 219;refine (aa HM _ HS).mono ?_;clear HM HS;rintro x w2 ⟨rfl,HP⟩))
  go_loopw [4] (fun v wr=>∃ ao n cap,v=.slice ao n cap/\Hid (ac1 R0 w wr b s d v)) (fun _ wr=>left s b wr)
  case atStart=>exact ⟨_,_,_,rfl,HP⟩
  case round=>
   clear HP hc
   obtain ⟨ao,n,cap,rfl,HC⟩:=hrel
   obtain ⟨f,l',zs,hf,hlt,hgd,hzl,HO,HS⟩:=aa HC
   obtain ⟨f,rfl⟩:∃ f',f=f'+1:=⟨f - 1,by omega⟩
   have HL:=hide (PL.left HS)
   have HGD:=hide hgd
   rw [bP] at hf
   by_cases h93:hd l'=93
   ·rw [if_pos h93] at hf
    have H93:=hide h93
    have hcl:=MQ zs
    have HT:=hide (iN (lY hgd))
    clear h93 hgd HL HC
    subst hf
    go_wp2_with (first
     | (go_at_call 219;refine (dz (PL.base HS) 93 H93).mono ?_;rintro x w2 ⟨rfl,HS2⟩;have jh:=Gn HO hbw (PL.up HS2);have mg:=PL.join (PL.up HS) HS2;clear HS HS2 HO)
     | (go_at_call 160;refine (o_ w2 _ zs (by omega) (ni (aa jh)) (aa HGD)).mono ?_;rintro e w4 ⟨rfl,hb4⟩;have Tv:=PL.below mg hb4;clear hb4 mg)
     | (go_at_call 156;refine (nk w4 (iM zs) (by omega) (aa HT)).mono ?_;rintro e w5 ⟨rfl,hb5⟩;have xE:=PL.below Tv hb5;clear hb5 Tv))
    go_ret
    first | exact ⟨rfl,aa HJ _ _ xE⟩ | exact ⟨rfl,aa HJ _ _ Tv⟩
   ·rw [if_neg h93] at hf
    have H93:=hide h93
    clear h93 HC
    cases hp:kJ s.size l' with
    | error y=>
     rw [hp] at hf
     have HX:Hid (R0=.error y):=hf.symm
     have uk:=hide hp
     clear hf hp HL
     go_wp2_with (first
      | (go_at_call 219;refine (bZ HS 93 H93).mono ?_;clear HS;rintro x w2 ⟨rfl,HS⟩)
      | (go_at_call 337;refine (UH (aaC HS) uk).mono ?_;rintro x w2 ⟨rfl,HU⟩))
     rw [aa HX]
     exact ⟨rfl,rfl,aa HJU _ HU⟩
    | ok y=>
     obtain ⟨p,l1⟩:=y
     rw [hp] at hf
     dsimp only at hf
     have hlen:=Rl hp
     obtain ⟨hpg,hp0,hp4⟩:=(MP (PL.UC HS) _ _ hp).1
     rw [BQ hgd hpg] at hf
     have HX:=hide hf
     have HPG:=hide hpg
     have uk:=hide hp
     clear hf hp hgd hpg
     go_wp2_with (first
      | (go_at_call 219;refine (bZ (PL.base HS) 93 H93).mono ?_;rintro x w2 ⟨rfl,HS2⟩;have jh:=Gn HO hbw (PL.up HS2);have mg:=PL.join (PL.up HS) HS2;clear HS HS2 HO)
      | (go_at_call 337;refine (YH (aaC (PL.base mg)) uk).mono ?_;rintro x w3 ⟨pv,rfl,HRW,Tv⟩;have qg:=Gn jh hbw (PL.up Tv);have xE:=PL.join (PL.up mg) Tv;have hsz:=(PL.up xE).size;clear mg Tv jh)
      | (at_builtin;refine YI w.heap.size (b+1) w3 zs p _ pv (.tmp 12) (.tmp 14) rfl rfl rfl rfl qg HRW hp0 hsz (by omega) ?_;intro ao4 n4 cap4 w4 z8 YJ;have Jk:=PL.grown xE (aa YJ) (fun k hk=>by have:=((aa qg).lt k hk).1;omega);clear xE YJ qg HRW))
     go_roundw
     case rel=>exact ⟨_,_,_,rfl,f,l1,zs++p,aa HX,by omega,fun x hx=>by rcases List.mem_append.1 hx with hx | hx;exact aa HGD x hx;exact aa HPG x hx,by rw [List.length_append];omega,z8,Jk⟩
     case measure=>
      have e1:=PL.left Jk
      have e2:=aa HL
      show left s b _<left s b _
      omega
end
theorem Rm:encS Gh=⟨#[0,244,143,191,191]⟩:=by decide +kernel
theorem Ro {c:Int} (h:aF c=true):iM [(c,c)]=[(c,c)]:=by
 have hg:=wN h h (Int.le_refl _)
 exact iL (iN (lY hg)) (Bz h) fun x hx=>o8 (lY hg) hx
section
variable {w0 w:World} {b:Nat} {s:ByteArray} {d:Int} {l:List Sy}
theorem YK (w:World) (lo hi:Int):vQ (w.alloc (.cells #[.int .i32 lo,.int .i32 hi] 248)).heap.size (w.alloc (.cells #[.int .i32 lo,.int .i32 hi] 248)) (.slice (some ⟨w.heap.size,0,none⟩) 1 1) [(lo,hi)]:=by
 have h:(w.alloc (.cells #[.int .i32 lo,.int .i32 hi] 248)).ownsRow w.heap.size 248 2 (.slice (some ⟨w.heap.size,0,none⟩) 1 1) [(lo,hi)].length (aJ [(lo,hi)]):=
  World.ownsRow_lit w #[.int .i32 lo,.int .i32 hi] 1 (Nat.le_refl _) (by decide) rfl
 exact ni h
theorem Rq (w:World) {c:Int} (h:aF c=true):Calls Tryz.prog 160 #[.slice (some ⟨w.heap.size,0,none⟩) 1 1] (w.alloc (.cells #[.int .i32 c,.int .i32 c] 248)) fun e w'=>e=.returned (abl [(c,c)])/\Below w.heap.size w w':=by
 refine (o_ _ _ [(c,c)] (by simp) (YK w c c) (wN h h (Int.le_refl _))).mono ?_
 rintro e w' ⟨rfl,hb⟩
 rw [Ro h]
 have h1:Below w.heap.size w (w.alloc (.cells #[.int .i32 c,.int .i32 c] 248)):=(Below.refl _ w).alloc (Nat.le_refl _) _
 exact ⟨rfl,h1.trans (hb.mono (by simp))⟩
theorem Jl {n:Nat} {l:List Sy} (h1:¬ hd l=91) (h2:¬ hd l=46) (h3:isSet l=false):fZ n l=Rb (mM n l):=by
 unfold fZ mM
 rw [if_neg h1]
 split
 ·rw [if_neg (by rw [h3];decide)]
 ·split<;>rfl
theorem Jm {n:Nat} {l:List Sy} (h:bg l):Good YD (mM n l):=by
 unfold mM
 split
 ·exact rJ h.tail
 ·split
  ·exact Good.bad
  ·rename_i hn
   exact Good.ok (h.hd fun e=>hn (.inl e)) h.tail
set_option maxRecDepth 100000 in
set_option maxHeartbeats 8000000 in
theorem OX (h:Hid (PL w0 w b s d l)) :
  Calls Tryz.prog 321 #[.pointer (some ⟨b,0,none⟩)] w (BD (fZ s.size l) abl w0 b s d):=by
 obtain ⟨R,hR⟩:∃ R,fZ s.size l=R:=⟨_,rfl⟩
 rw [hR]
 by_cases XP:hd l=91
 ·have HC:=hide XP
  rw [fZ,if_pos XP] at hR
  have HR:=hide hR
  clear hR XP
  cases R with
  | error y=>
   go_enter Tryz.func321,Tryz.ntmps321
   go_wp2_with (first
    | (go_at_call 251;refine (dX h HC).mono ?_;clear h;rintro x w1 ⟨rfl,HS⟩)
    | (go_at_call 328;refine (gY (UJ HS HC) HR).mono ?_;rintro x w2 ⟨rfl,HU⟩))
   exact ⟨rfl,rfl,HU⟩
  | ok y=>
   obtain ⟨z,l1⟩:=y
   go_enter Tryz.func321,Tryz.ntmps321
   go_wp2_with (first
    | (go_at_call 251;refine (dX h HC).mono ?_;clear h;rintro x w1 ⟨rfl,HS⟩)
    | (go_at_call 328;refine (dJ (UJ HS HC) HR).mono ?_;clear HS;rintro x w2 ⟨rfl,HS⟩))
   go_ret
   exact ⟨rfl,HS⟩
 ·obtain ⟨c,hcc⟩:∃ c,hd l=c:=⟨_,rfl⟩
  have gK:=hide hcc
  have k1:(c==91)=false:=by rw [<-hcc];simpa using XP
  by_cases h46:hd l=46
  ·have HD:=hide h46
   have HX:Hid (R=.ok (Gh,l.tail)):=by show _=_;rw [<-hR,fZ,if_neg XP,if_neg (by omega),if_pos h46]
   clear h46 XP hcc hR
   go_enter Tryz.func321,Tryz.ntmps321
   go_wp2_with (first
    | (go_at_call 251;refine (dX h gK).mono ?_;clear h;rintro x w1 ⟨rfl,HS⟩)
    | (go_at_call 219;refine (dz HS 46 HD).mono ?_;clear HS;rintro x w2 ⟨rfl,HS⟩))
   go_ret
   rw [aa HX]
   exact ⟨(by show _=Ending.returned (.string (encS Gh));rw [Rm];rfl),HS⟩
  ·have HD:=hide h46
   cases hs:isSet l with
   | true=>
    have h92':hd l=92/\(hd l.tail=100\/hd l.tail=119):=by simpa [isSet] using hs
    have zG:hd l=92:=h92'.1
    clear h92'
    have HX:Hid (R=.ok (jN l,l.tail.tail)):=by show _=_;rw [<-hR,fZ,if_neg XP,if_pos zG,if_pos hs]
    have HN:=hide hs
    clear zG h46 XP hcc hR hs
    go_enter Tryz.func321,Tryz.ntmps321
    go_wp2_with (first
     | (go_at_call 251;refine (dX h gK).mono ?_;clear h;rintro x w1 ⟨rfl,HS⟩)
     | (go_at_call 219;refine (bZ HS 46 HD).mono ?_;clear HS;rintro x w2 ⟨rfl,HS⟩)
     | (go_at_call 329;refine (wH HS HN).mono ?_;clear HS;rintro x w3 ⟨rfl,HS⟩))
    go_ret
    rw [aa HX]
    exact ⟨rfl,HS⟩
   | false=>
    rw [Jl XP h46 hs] at hR
    have HN:=hide hs
    have hsy:=Jm (n:=s.size) (PL.UC h)
    clear h46 XP hcc hs
    cases hq:mM s.size l with
    | error y=>
     rw [hq] at hR
     have HX:Hid (R=.error y):=hR.symm
     have HQ:=hide hq
     clear hq hR hsy
     go_enter Tryz.func321,Tryz.ntmps321
     go_wp2_with (first
      | (go_at_call 251;refine (dX h gK).mono ?_;clear h;rintro x w1 ⟨rfl,HS⟩)
      | (go_at_call 219;refine (bZ HS 46 HD).mono ?_;clear HS;rintro x w2 ⟨rfl,HS⟩)
      | (go_at_call 329;refine (iR HS HN).mono ?_;clear HS;rintro x w3 ⟨rfl,HS⟩)
      | (go_at_call 330;refine (gY (OU HS) HQ).mono ?_;rintro x w4 ⟨rfl,HU⟩))
     rw [aa HX]
     exact ⟨rfl,rfl,HU⟩
    | ok y=>
     obtain ⟨z,l1⟩:=y
     rw [hq] at hR
     have HX:Hid (R=.ok ([(z,z)],l1)):=hR.symm
     have hz:aF z=true:=(hsy _ _ hq).1
     have HSO:=hide (fun W:World=>Rq W hz)
     have HQ:=hide hq
     clear hq hR hsy hz
     go_enter Tryz.func321,Tryz.ntmps321
     go_wp2_with (first
      | (go_at_call 251;refine (dX h gK).mono ?_;clear h;rintro x w1 ⟨rfl,HS⟩)
      | (go_at_call 219;refine (bZ HS 46 HD).mono ?_;clear HS;rintro x w2 ⟨rfl,HS⟩)
      | (go_at_call 329;refine (iR HS HN).mono ?_;clear HS;rintro x w3 ⟨rfl,HS⟩)
      | (go_at_call 330;refine (dJ (OU HS) HQ).mono ?_;clear HS;rintro x w4 ⟨rfl,HS⟩)
      | (go_at_call 160;refine (aa HSO w4).mono ?_;rintro x w5 ⟨rfl,hb5⟩;have xE:=PL.below HS hb5;clear hb5))
     go_ret
     rw [aa HX]
     exact ⟨rfl,xE⟩
end
theorem MR (x:Int) (w:World):Calls Tryz.prog 253 #[.int .i32 x] w fun e w'=>e=.returned (.bool false)/\w=w':=by
 go_enter Tryz.func253,Tryz.ntmps253
 go_wp2_with fail
 go_ret
 exact ⟨rfl,rfl⟩
theorem x9 (x y:Int) (w:World):Calls Tryz.prog 221 #[.int .i32 x,.int .i32 y] w fun e w'=>e=.returned (.bool (decide (x<y)))/\w=w':=by
 go_enter Tryz.func221,Tryz.ntmps221
 go_wp2_with (go_at_call 253;refine (MR _ _).mono ?_;rintro e w1 ⟨rfl,rfl⟩)
 go_ret
 exact ⟨rfl,rfl⟩
def runeCells (l:List Int):List Value:=l.map (Value.int .i32)
structure Rn (w0 w:World) (g n cap:Nat) (l:List Int):Prop where
 own:w.ownsRow 0 21 1 (.slice (some ⟨g,0,none⟩) n cap) n (runeCells l)
 len:l.length=n
 os:w.os=w0.os
 tape:w.tape=w0.tape
 output:w.output=w0.output
 size:w.heap.size=w0.heap.size
 block:∀ k,k≠g->w.heap[k]? = w0.heap[k]?
theorem Rn.get {w0 w:World} {g n cap:Nat} {l:List Int} (h:Rn w0 w g n cap l) {j:Nat} (hj:j<n):w.cell? ⟨g,j,none⟩=some (.int .i32 (l.getD j 0))/\w.frozen? ⟨g,j,none⟩=false:=by
 obtain ⟨ao,cap',e,hh⟩:=aN h.own
 injection e with e1 e2 e3
 obtain ⟨g',e4,_,_,hc,hf⟩:=hh (by omega)
 rw [e4] at e1
 injection e1 with e1
 injection e1 with e1
 subst e1
 refine ⟨?_,hf j⟩
 rw [hc j (by omega)]
 have hl:=h.len
 simp [runeCells,List.getElem?_eq_getElem (show j<l.length by omega),List.getD_eq_getElem?_getD]
theorem Jn (x:Int) (w:World):Calls Tryz.prog 222 #[.int .i32 x] w fun e w'=>e=.returned (.bool false)/\w=w':=by
 go_enter Tryz.func222,Tryz.ntmps222
 go_wp2_with fail
 go_ret
 exact ⟨rfl,rfl⟩
theorem OY {l:List Int} (hs:l.Pairwise (· < ·)) {a b:Nat} (hab:a<b) (hb:b<l.length):l.getD a 0<l.getD b 0:=by
 rw [List.getD_eq_getElem?_getD,List.getD_eq_getElem?_getD,List.getElem?_eq_getElem (by omega),List.getElem?_eq_getElem hb]
 exact List.pairwise_iff_getElem.1 hs a b (by omega) hb hab
structure Bs (l:List Int) (c:Int) (i j:Nat):Prop where
 le:i<=j
 ln:j<=l.length
 lo:∀ k,k<i->l.getD k 0<c
 hi:∀ k,j<=k->k<l.length->c<=l.getD k 0
theorem Bs.up {l:List Int} {c:Int} {i j:Nat} (hs:l.Pairwise (· < ·)) (h:Bs l c i j) {m:Nat} (h2:m<j) (hm:l.getD m 0<c):Bs l c (m+1) j:=by
 have hl:=h.ln
 refine ⟨by omega,h.ln,fun k hk=>?_,h.hi⟩
 by_cases e:k=m
 ·rw [e];exact hm
 ·exact Int.lt_trans (OY hs (show k<m by omega) (by omega)) hm
theorem Bs.down {l:List Int} {c:Int} {i j:Nat} (hs:l.Pairwise (· < ·)) (h:Bs l c i j) {m:Nat} (h1:i<=m) (h2:m<j) (hm:¬ l.getD m 0<c):Bs l c i m:=by
 have hl:=h.ln
 refine ⟨h1,by omega,h.lo,fun k hk hkl=>?_⟩
 by_cases e:k=m
 ·rw [e];omega
 ·have:=OY hs (show m<k by omega) hkl
  omega
set_option maxRecDepth 100000 in
set_option maxHeartbeats 4000000 in
theorem Gp (w:World) (g n cap:Nat) (l:List Int) (c:Int) (hn:n<=1000000) (h:Hid (Rn w w g n cap l)) (hs:Hid (l.Pairwise (· < ·))) :
  Calls Tryz.prog 149 #[.slice (some ⟨g,0,none⟩) n cap,.int .i32 c] w fun e w'=>∃ i:Nat,e=.returned (.tuple #[.int .i64 i,.bool (decide (i<n/\l.getD i 0=c))])/\Hid (Below w.heap.size w w')/\Hid (Bs l c i i):=by
 have hlen:=(aa h).len
 have HB0:Hid (Bs l c 0 n):=⟨Nat.zero_le _,by omega,fun k hk=>by omega,fun k h1 h2=>by omega⟩
 have HLEN:=hide hlen
 clear hlen
 go_enter Tryz.func149,Tryz.ntmps149
 go_wp2_with fail
 go_loopw [7,8] (fun a b wr=>∃ i j:Nat,a=.int .i64 (i:Int)/\b=.int .i64 (j:Int)/\i<=n/\j<=n/\Hid (Bs l c i j)/\Hid (wr=w)) (fun a b _=>(intOf b).toNat - (intOf a).toNat)
 case atStart=>exact ⟨0,n,rfl,rfl,Nat.zero_le _,Nat.le_refl _,HB0,rfl⟩
 case round=>
  obtain ⟨i,j,rfl,rfl,hi,hj,HB,HW⟩:=hrel
  obtain rfl:wr=w:=aa HW
  by_cases hij:i<j
  ·have hI:(i:Int)<(j:Int):=by omega
   obtain ⟨m,hm⟩:∃ m,(i+j) / 2=m:=⟨_,rfl⟩
   have hmI:((i:Int)+(j:Int)) / 2=(m:Int):=by omega
   have him:i<=m:=by omega
   have hmj:m<j:=by omega
   have hw1:IntKind.i64.wrap ((m:Int)+1)=((m+1:Nat):Int):=by simp [IntKind.wrap,IntKind.bits,IntKind.signed];omega
   have c1:=((aa h).get (j:=m) (by omega)).1
   obtain ⟨x,hx⟩:∃ x,l.getD m 0=x:=⟨_,rfl⟩
   rw [hx] at c1
   have HX:=hide hx
   have HM:=hide hm
   clear hm hx
   by_cases hxc:x<c
   ·have HN:=hide ((aa HB).up (aa hs) hmj (by rw [aa HX];exact hxc))
    go_wp2_with (go_at_call 221;refine (x9 _ _ _).mono ?_;rintro e w1 ⟨rfl,rfl⟩)
    go_roundw
    case rel=>exact ⟨m+1,j,by go_num,rfl,by omega,hj,HN,trivial⟩
    case measure=>have:=aa HM;simp [intOf];omega
   ·have hd:decide (x<c)=false:=by simpa using hxc
    have HN:=hide ((aa HB).down (aa hs) him hmj (by rw [aa HX];exact hxc))
    go_wp2_with (go_at_call 221;refine (x9 _ _ _).mono ?_;rintro e w1 ⟨rfl,rfl⟩)
    go_roundw
    case rel=>exact ⟨i,m,rfl,by go_num,hi,by omega,HN,trivial⟩
    case measure=>have:=aa HM;simp [intOf];omega
  ·have hI:¬ (i:Int)<(j:Int):=by omega
   have hle:=(aa HB).le
   obtain rfl:i=j:=by omega
   by_cases hin:i<n
   ·have hIN:(i:Int)<(n:Int):=by omega
    have hi0:(0:Int)<=(i:Int):=by omega
    have c1:=((aa h).get (j:=i) hin).1
    obtain ⟨x,hx⟩:∃ x,l.getD i 0=x:=⟨_,rfl⟩
    rw [hx] at c1
    have HX:=hide hx
    clear hx
    by_cases hxc:x=c
    ·subst hxc
     go_wp2_with fail
     go_ret2
     exact ⟨i,by show Ending.returned (.tuple #[.int .i64 (i:Int),.bool true])=_;have hx:=aa HX;rw [List.getD_eq_getElem?_getD] at hx;simp [hin,hx],Below.refl _ _,HB⟩
    ·have hd:(x==c)=false:=by simpa using hxc
     go_wp2_with (go_at_call 222;refine (Jn _ _).mono ?_;rintro e w1 ⟨rfl,rfl⟩)
     go_ret2
     exact ⟨i,by show Ending.returned (.tuple #[.int .i64 (i:Int),.bool false])=_;have hx:=aa HX;rw [List.getD_eq_getElem?_getD] at hx;simp [hx,hxc],Below.refl _ _,HB⟩
   ·have hIN:¬ (i:Int)<(n:Int):=by omega
    go_wp2_with fail
    go_ret2
    exact ⟨i,by show Ending.returned (.tuple #[.int .i64 (i:Int),.bool false])=_;simp [hin],Below.refl _ _,HB⟩
end Go.Proofs.YtfolanohokflkaaGreatDoor
