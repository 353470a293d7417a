import Derived.Test.YtfolanohokflkaaGreatDoorNdT
import Derived.WalkKit
import Derived.WalkSpells
import Derived.WalkLawsBesides
import Derived.WalkMore
namespace Go.Proofs.YtfolanohokflkaaGreatDoor
open Go.RowKit
section
variable {w0 w:World} {b:Nat} {s:ByteArray} {d:Int} {l:List Sy}
def uh (n:Nat) (sub:List Sy->bu Pn) (sign:Int) (l:List Sy):bu (List Pn):=
 match sub l with
 | .error x=>.error x
 | .ok (y,l1)=>bO n sub sign (l1.length+1) [y] l1
theorem KS (n:Nat) (sub:List Sy->bu Pn) (sign:Int) (g:List Pn->Pn) (l:List Sy):qI n sub sign g l=oI g (uh n sub sign l):=by
 unfold qI uh
 cases sub l with
 | error x=>rfl
 | ok y=>obtain ⟨y,l1⟩:=y;rfl
def Y_ (R:bu (List Pn)) (w0:World) (b:Nat) (s:ByteArray) (d:Int) (x:Ending) (w':World):Prop:=
 match R with
 | .ok y=>∃ ao cap aN,x=.returned (.slice ao aN.length cap)/\Hid (ji w0 w' (.slice ao aN.length cap) aN y.1)/\0<aN.length/\aN.length<=61/\Hid (PL w0 w' b s d y.2)
 | .error y=>x=zg y.1 y.2/\Hid (Up b w0 w')
theorem KT {R:bu (List Pn)} {f:Nat} {args:Array Value} (H:Calls Tryz.prog f args w (Y_ R w0 b s d)) {y:Int×Int} (hR:Hid (R=.error y)) :
  Calls Tryz.prog f args w fun x w'=>x=zg y.1 y.2/\Hid (Up b w0 w'):=by
 rw [aa hR] at H;exact H
theorem Po {R:bu (List Pn)} {f:Nat} {args:Array Value} (H:Calls Tryz.prog f args w (Y_ R w0 b s d)) {z:List Pn} {l1:List Sy} (hR:Hid (R=.ok (z,l1))) :
  Calls Tryz.prog f args w fun x w'=>∃ ao cap aN,x=.returned (.slice ao aN.length cap)/\Hid (ji w0 w' (.slice ao aN.length cap) aN z)/\0<aN.length/\aN.length<=61/\Hid (PL w0 w' b s d l1):=by
 rw [aa hR] at H;exact H
abbrev V7 (sub:List Sy->bu Pn):Prop:=∀ l v l',sub l=.ok (v,l')->l'.length<=l.length/\0<=v.2/\v.2<=61
theorem Pp {w2:World} {n:Nd} {y:Pn} (hn:Hid (aY w2 (fun j=>w.heap.size<=j) n y)) (hs:w.heap.size<=w2.heap.size) (h0:0<=y.2) (h61:y.2<=61):Hid (ji w (w2.alloc (aD n)) (.slice (some ⟨w2.heap.size,0,none⟩) 1 1) [n] [y]):=by
 refine ⟨?_,⟨rfl,fun i h h'=>?_⟩,fun p hp=>by simp at hp;subst hp;exact ⟨h0,h61⟩⟩
 ·have h:=World.ownsRow_lit (base:=w.heap.size) (e:=65) (size:=7) w2 #[.int .i64 n.sh,.slice n.pa n.pn n.pc,.string n.ss,.int .i64 n.le,.int .i64 n.mo,.int .i64 n.fa,.int .i64 n.sz] 1 hs (by decide) rfl
  have e:dG [n]=Lu n:=by simp [dG]
  rw [e]
  exact h
 ·have hi:i=0:=by simpa using h
  subst hi
  exact aa (aY.move hn fun j hj hl=>⟨Below.heap_alloc w2 _ j hl,hj,fun e=>absurd (show w2.heap.size=j from by simpa [Value.ownBlock] using e) (by omega)⟩)
def Za (R:bu (List Pn)) (sub:List Sy->bu Pn) (mark:Int) (w1 wr:World) (b:Nat) (s:ByteArray) (d:Int) (v:Value) (n:Nat):Prop:=
 ∃ f l aN ps,bO s.size sub mark f ps l=R/\l.length<f/\n=aN.length/\0<ps.length/\ps.length+l.length<=61/\Hid (ji w1 wr v aN ps)/\Hid (PL w1 wr b s d l)
set_option maxRecDepth 100000 in
set_option maxHeartbeats 8000000 in
theorem yY {sub:List Sy->bu Pn} {mark:Int} (hmk:0<=mark) (HA:Hid (oC 250 sub b s d)) (Sb:Hid (V7 sub)) (h:Hid (PL w w b s d l)) :
  Calls Tryz.prog 217 #[.pointer (some ⟨b,0,none⟩),.int .i32 mark,.func (.func 250) #[.pointer (some ⟨b,0,none⟩)] #[]] w (Y_ (uh s.size sub mark l) w b s d):=by
 obtain ⟨R,hR⟩:∃ R,uh s.size sub mark l=R:=⟨_,rfl⟩
 rw [hR]
 have hbw:=PL.lt h
 have acb:=PL.len h
 unfold uh at hR
 cases hi:sub l with
 | error y=>
  rw [hi] at hR
  have HX:Hid (R=.error y):=hR.symm
  have HI:=hide hi
  clear hi hR
  go_enter Tryz.func217,Tryz.ntmps217
  go_wp2_with (go_at_call 250;refine (kL (aa HA _ _ h) HI).mono ?_;rintro x w3 ⟨rfl,HU⟩)
  rw [aa HX]
  exact ⟨rfl,rfl,HU⟩
 | ok y=>
  obtain ⟨y,l1⟩:=y
  rw [hi] at hR
  dsimp only at hR
  obtain ⟨hll,hy0,yw⟩:=aa Sb _ _ _ hi
  have HX:=hide hR
  have HI:=hide hi
  clear hi hR
  go_enter Tryz.func217,Tryz.ntmps217
  go_wp2_with (go_at_call 250;refine (kM (aa HA _ _ h) HI).mono ?_;simp only [gD];rintro x w2 ⟨n,rfl,HN,HS⟩;have hs2:=(PL.up HS).size)
  have HP:Hid (Za R sub mark w (w2.alloc (aD n)) b s d (.slice (some ⟨w2.heap.size,0,none⟩) 1 1) 1):=⟨_,l1,[n],[y],aa HX,Nat.lt_succ_self _,rfl,by simp,by simp;omega,Pp HN hs2 hy0 yw,PL.alloc HS _⟩
  clear HX HI HN HS h hy0 yw
  go_loopw [7] (fun v wr=>∃ ao n cap,v=.slice ao n cap/\Hid (Za R sub mark w wr b s d (.slice ao n cap) n)) (fun _ wr=>left s b wr)
  case atStart=>exact ⟨_,_,_,rfl,HP⟩
  case round=>
   clear HP
   obtain ⟨ao,n,cap,rfl,HP⟩:=hrel
   obtain ⟨f,l',aN,ps,hf,hlt,hn,hps,hlen,tQ,HS⟩:=aa HP
   obtain ⟨f,rfl⟩:∃ f',f=f'+1:=⟨f - 1,by omega⟩
   have HL:=hide (PL.left HS)
   have hnl:aN.length=ps.length:=(aa tQ).2.1.1
   subst hn
   clear HP
   rw [bO] at hf
   by_cases hm:hd l'=mark
   ·rw [if_pos hm] at hf
    have hp:=mq (l:=l') (by omega)
    have HM:=hide hm
    clear hm
    cases hi:sub l'.tail with
    | error y=>
     rw [hi] at hf
     have HX:Hid (R=.error y):=hf.symm
     have HI:=hide hi
     clear hi hf HL hnl hlen hps
     go_wp2_with (first
      | (go_at_call 219;refine (dz HS mark HM).mono ?_;rintro x w3 ⟨rfl,HS2⟩)
      | (go_at_call 250;refine (kL (aa HA _ _ (PL.base HS2)) HI).mono ?_;rintro x w4 ⟨rfl,HU⟩;have lv:=hide ((PL.up HS2).trans (aa HU))))
     rw [aa HX]
     exact ⟨rfl,rfl,lv⟩
    | ok y=>
     obtain ⟨y,l2⟩:=y
     rw [hi] at hf
     dsimp only at hf
     obtain ⟨adM,hy0,yw⟩:=aa Sb _ _ _ hi
     have HX:=hide hf
     have HI:=hide hi
     have hnd:aN.length<=2000:=by omega
     have HNL:=hide hnl
     clear hi hf hnl
     go_wp2_with (first
      | (go_at_call 219;refine (dz (PL.base HS) mark HM).mono ?_;rintro x w3 ⟨rfl,HS2⟩;have HT2:=PL.join (PL.up HS) HS2;have iW:=ji.up tQ hbw (PL.up HS2);have hs3:=(PL.up HT2).size;clear tQ HS2 HS)
      | (go_at_call 250;refine (kM (aa HA _ _ (PL.base HT2)) HI).mono ?_;simp only [gD];rintro x w4 ⟨n4,rfl,VK,mG⟩;have HT3:=PL.join (PL.up HT2) mG;have nS:=ji.up iW hbw (PL.up mG);have hs4:=(PL.up HT3).size;clear mG)
      | (at_builtin;refine Nt w.heap.size w4 aN n4 _ (.tmp 14) (.tmp 17) rfl rfl rfl rfl (aa nS).1 hs4 hnd ?_;intro g5 cap5 w5 iC V5 SV;have V6:=ji.next iW nS VK hs3 hy0 yw iC V5 SV;have qN:=PL.grown (PL.alloc HT3 (aD n4)) (aa V5) (fun k hk=>by have:=((aa nS).1.lt k hk).1;omega);clear iC V5 SV iW nS VK HT2 HT3))
     go_roundw
     case rel=>exact ⟨_,_,_,rfl,f,l2,aN++[n4],ps++[y],aa HX,by omega,by simp,by simp,by simp;omega,V6,qN⟩
     case measure=>
      have e1:=PL.left qN
      have e2:=aa HL
      show left s b _<left s b _
      omega
   ·rw [if_neg hm] at hf
    have HX:Hid (R=.ok (ps,l')):=hf.symm
    have HM:=hide hm
    have h1:0<aN.length:=by omega
    have h2:aN.length<=61:=by omega
    clear hm hf HL hnl
    go_wp2_with (go_at_call 219;refine (cu (PL.base HS) mark HM).mono ?_;rintro x w3 ⟨rfl,HS2⟩;have HT2:=PL.join (PL.up HS) HS2;have iW:=ji.up tQ hbw (PL.up HS2);clear tQ HS2 HS)
    go_ret
    rw [aa HX]
    exact ⟨ao,cap,aN,rfl,iW,h1,h2,HT2⟩
set_option maxRecDepth 100000 in
set_option maxHeartbeats 8000000 in
theorem wV {sub:List Sy->bu Pn} {mark:Int} (hmk:0<=mark) (HA:Hid (oC 218 sub b s d)) (Sb:Hid (V7 sub)) (h:Hid (PL w w b s d l)) :
  Calls Tryz.prog 217 #[.pointer (some ⟨b,0,none⟩),.int .i32 mark,.func (.func 218) #[.pointer (some ⟨b,0,none⟩)] #[]] w (Y_ (uh s.size sub mark l) w b s d):=by
 obtain ⟨R,hR⟩:∃ R,uh s.size sub mark l=R:=⟨_,rfl⟩
 rw [hR]
 have hbw:=PL.lt h
 have acb:=PL.len h
 unfold uh at hR
 cases hi:sub l with
 | error y=>
  rw [hi] at hR
  have HX:Hid (R=.error y):=hR.symm
  have HI:=hide hi
  clear hi hR
  go_enter Tryz.func217,Tryz.ntmps217
  go_wp2_with (go_at_call 218;refine (kL (aa HA _ _ h) HI).mono ?_;rintro x w3 ⟨rfl,HU⟩)
  rw [aa HX]
  exact ⟨rfl,rfl,HU⟩
 | ok y=>
  obtain ⟨y,l1⟩:=y
  rw [hi] at hR
  dsimp only at hR
  obtain ⟨hll,hy0,yw⟩:=aa Sb _ _ _ hi
  have HX:=hide hR
  have HI:=hide hi
  clear hi hR
  go_enter Tryz.func217,Tryz.ntmps217
  go_wp2_with (go_at_call 218;refine (kM (aa HA _ _ h) HI).mono ?_;simp only [gD];rintro x w2 ⟨n,rfl,HN,HS⟩;have hs2:=(PL.up HS).size)
  have HP:Hid (Za R sub mark w (w2.alloc (aD n)) b s d (.slice (some ⟨w2.heap.size,0,none⟩) 1 1) 1):=⟨_,l1,[n],[y],aa HX,Nat.lt_succ_self _,rfl,by simp,by simp;omega,Pp HN hs2 hy0 yw,PL.alloc HS _⟩
  clear HX HI HN HS h hy0 yw
  go_loopw [7] (fun v wr=>∃ ao n cap,v=.slice ao n cap/\Hid (Za R sub mark w wr b s d (.slice ao n cap) n)) (fun _ wr=>left s b wr)
  case atStart=>exact ⟨_,_,_,rfl,HP⟩
  case round=>
   clear HP
   obtain ⟨ao,n,cap,rfl,HP⟩:=hrel
   obtain ⟨f,l',aN,ps,hf,hlt,hn,hps,hlen,tQ,HS⟩:=aa HP
   obtain ⟨f,rfl⟩:∃ f',f=f'+1:=⟨f - 1,by omega⟩
   have HL:=hide (PL.left HS)
   have hnl:aN.length=ps.length:=(aa tQ).2.1.1
   subst hn
   clear HP
   rw [bO] at hf
   by_cases hm:hd l'=mark
   ·rw [if_pos hm] at hf
    have hp:=mq (l:=l') (by omega)
    have HM:=hide hm
    clear hm
    cases hi:sub l'.tail with
    | error y=>
     rw [hi] at hf
     have HX:Hid (R=.error y):=hf.symm
     have HI:=hide hi
     clear hi hf HL hnl hlen hps
     go_wp2_with (first
      | (go_at_call 219;refine (dz HS mark HM).mono ?_;rintro x w3 ⟨rfl,HS2⟩)
      | (go_at_call 218;refine (kL (aa HA _ _ (PL.base HS2)) HI).mono ?_;rintro x w4 ⟨rfl,HU⟩;have lv:=hide ((PL.up HS2).trans (aa HU))))
     rw [aa HX]
     exact ⟨rfl,rfl,lv⟩
    | ok y=>
     obtain ⟨y,l2⟩:=y
     rw [hi] at hf
     dsimp only at hf
     obtain ⟨adM,hy0,yw⟩:=aa Sb _ _ _ hi
     have HX:=hide hf
     have HI:=hide hi
     have hnd:aN.length<=2000:=by omega
     have HNL:=hide hnl
     clear hi hf hnl
     go_wp2_with (first
      | (go_at_call 219;refine (dz (PL.base HS) mark HM).mono ?_;rintro x w3 ⟨rfl,HS2⟩;have HT2:=PL.join (PL.up HS) HS2;have iW:=ji.up tQ hbw (PL.up HS2);have hs3:=(PL.up HT2).size;clear tQ HS2 HS)
      | (go_at_call 218;refine (kM (aa HA _ _ (PL.base HT2)) HI).mono ?_;simp only [gD];rintro x w4 ⟨n4,rfl,VK,mG⟩;have HT3:=PL.join (PL.up HT2) mG;have nS:=ji.up iW hbw (PL.up mG);have hs4:=(PL.up HT3).size;clear mG)
      | (at_builtin;refine Nt w.heap.size w4 aN n4 _ (.tmp 14) (.tmp 17) rfl rfl rfl rfl (aa nS).1 hs4 hnd ?_;intro g5 cap5 w5 iC V5 SV;have V6:=ji.next iW nS VK hs3 hy0 yw iC V5 SV;have qN:=PL.grown (PL.alloc HT3 (aD n4)) (aa V5) (fun k hk=>by have:=((aa nS).1.lt k hk).1;omega);clear iC V5 SV iW nS VK HT2 HT3))
     go_roundw
     case rel=>exact ⟨_,_,_,rfl,f,l2,aN++[n4],ps++[y],aa HX,by omega,by simp,by simp,by simp;omega,V6,qN⟩
     case measure=>
      have e1:=PL.left qN
      have e2:=aa HL
      show left s b _<left s b _
      omega
   ·rw [if_neg hm] at hf
    have HX:Hid (R=.ok (ps,l')):=hf.symm
    have HM:=hide hm
    have h1:0<aN.length:=by omega
    have h2:aN.length<=61:=by omega
    clear hm hf HL hnl
    go_wp2_with (go_at_call 219;refine (cu (PL.base HS) mark HM).mono ?_;rintro x w3 ⟨rfl,HS2⟩;have HT2:=PL.join (PL.up HS) HS2;have iW:=ji.up tQ hbw (PL.up HS2);clear tQ HS2 HS)
    go_ret
    rw [aa HX]
    exact ⟨ao,cap,aN,rfl,iW,h1,h2,HT2⟩
end
end Go.Proofs.YtfolanohokflkaaGreatDoor
