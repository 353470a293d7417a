import Derived.Test.YtfolanohokflkaaGreatDoorNdT
import Derived.WalkKit
import Derived.WalkSpells
import Derived.WalkLawsBesides
import Derived.WalkMore
namespace Go.Proofs.YtfolanohokflkaaGreatDoor
open Go.RowKit
section
variable {w0 w:World} {b:Nat} {s:ByteArray} {d:Int} {l:List Sy}
def uz (n:Nat) (sub:List Sy->bn Pn) (sign:Int) (l:List Sy):bn (List Pn):=
 match sub l with
 | .error x=>.error x
 | .ok (y,l1)=>bM n sub sign (l1.length+1) [y] l1
theorem KV (n:Nat) (sub:List Sy->bn Pn) (sign:Int) (g:List Pn->Pn) (l:List Sy):qU n sub sign g l=oK g (uz n sub sign l):=by
 unfold qU uz
 cases sub l with
 | error x=>rfl
 | ok y=>obtain ⟨y,l1⟩:=y;rfl
def ZH (R:bn (List Pn)) (w0:World) (b:Nat) (s:ByteArray) (d:Int) (x:Ending) (w':World):Prop:=
 match R with
 | .ok y=>∃ ao cap aM,x=.returned (.slice ao aM.length cap)/\Hid (jf w0 w' (.slice ao aM.length cap) aM y.1)/\0<aM.length/\aM.length<=61/\Hid (PL w0 w' b s d y.2)
 | .error y=>x=vF y.1 y.2/\Hid (Up b w0 w')
theorem KW {R:bn (List Pn)} {f:Nat} {args:Array Value} (H:Calls Tryz.prog f args w (ZH R w0 b s d)) {y:Int×Int} (hR:Hid (R=.error y)) :
  Calls Tryz.prog f args w fun x w'=>x=vF y.1 y.2/\Hid (Up b w0 w'):=by
 rw [aa hR] at H;exact H
theorem PR {R:bn (List Pn)} {f:Nat} {args:Array Value} (H:Calls Tryz.prog f args w (ZH R w0 b s d)) {z:List Pn} {l1:List Sy} (hR:Hid (R=.ok (z,l1))) :
  Calls Tryz.prog f args w fun x w'=>∃ ao cap aM,x=.returned (.slice ao aM.length cap)/\Hid (jf w0 w' (.slice ao aM.length cap) aM z)/\0<aM.length/\aM.length<=61/\Hid (PL w0 w' b s d l1):=by
 rw [aa hR] at H;exact H
abbrev WC (sub:List Sy->bn Pn):Prop:=∀ l v l',sub l=.ok (v,l')->l'.length<=l.length/\0<=v.2/\v.2<=61
theorem PT {w2:World} {n:Nd} {y:Pn} (hn:Hid (aV w2 (fun j=>w.heap.size<=j) n y)) (hs:w.heap.size<=w2.heap.size) (h0:0<=y.2) (h61:y.2<=61):Hid (jf w (w2.alloc (aB n)) (.slice (some ⟨w2.heap.size,0,none⟩) 1 1) [n] [y]):=by
 refine ⟨?_,⟨rfl,fun i h h'=>?_⟩,fun p hp=>by simp at hp;subst hp;exact ⟨h0,h61⟩⟩
 ·have h:=World.ownsRow_lit (base:=w.heap.size) (e:=65) (size:=7) w2 #[.int .i64 n.sh,.slice n.pa n.pn n.pc,.string n.ss,.int .i64 n.le,.int .i64 n.mo,.int .i64 n.fa,.int .i64 n.sz] 1 hs (by decide) rfl
  have e:dE [n]=LX n:=by simp [dE]
  rw [e]
  exact h
 ·have hi:i=0:=by simpa using h
  subst hi
  exact aa (aV.move hn fun j hj hl=>⟨Below.heap_alloc w2 _ j hl,hj,fun e=>absurd (show w2.heap.size=j from by simpa [Value.ownBlock] using e) (by omega)⟩)
def ZI (R:bn (List Pn)) (sub:List Sy->bn Pn) (mark:Int) (w1 wr:World) (b:Nat) (s:ByteArray) (d:Int) (v:Value) (n:Nat):Prop:=
 ∃ f l aM ps,bM s.size sub mark f ps l=R/\l.length<f/\n=aM.length/\0<ps.length/\ps.length+l.length<=61/\Hid (jf w1 wr v aM ps)/\Hid (PL w1 wr b s d l)
set_option maxRecDepth 100000 in
set_option maxHeartbeats 8000000 in
theorem zl {sub:List Sy->bn Pn} {mark:Int} (hmk:0<=mark) (HA:Hid (oF 250 sub b s d)) (SG:Hid (WC sub)) (h:Hid (PL w w b s d l)) :
  Calls Tryz.prog 217 #[.pointer (some ⟨b,0,none⟩),.int .i32 mark,.func (.func 250) #[.pointer (some ⟨b,0,none⟩)] #[]] w (ZH (uz s.size sub mark l) w b s d):=by
 obtain ⟨R,hR⟩:∃ R,uz s.size sub mark l=R:=⟨_,rfl⟩
 rw [hR]
 have hbw:=PL.lt h
 have ac2:=PL.len h
 unfold uz at hR
 cases hi:sub l with
 | error y=>
  rw [hi] at hR
  have HX:Hid (R=.error y):=hR.symm
  have HI:=hide hi
  clear hi hR
  go_enter Tryz.func217,Tryz.ntmps217
  go_wp2_with (go_at_call 250;refine (kN (aa HA _ _ h) HI).mono ?_;rintro x w3 ⟨rfl,HU⟩)
  rw [aa HX]
  exact ⟨rfl,rfl,HU⟩
 | ok y=>
  obtain ⟨y,l1⟩:=y
  rw [hi] at hR
  dsimp only at hR
  obtain ⟨hll,hy0,yH⟩:=aa SG _ _ _ hi
  have HX:=hide hR
  have HI:=hide hi
  clear hi hR
  go_enter Tryz.func217,Tryz.ntmps217
  go_wp2_with (go_at_call 250;refine (kP (aa HA _ _ h) HI).mono ?_;simp only [gm];rintro x w2 ⟨n,rfl,HN,HS⟩;have hs2:=(PL.up HS).size)
  have HP:Hid (ZI R sub mark w (w2.alloc (aB n)) b s d (.slice (some ⟨w2.heap.size,0,none⟩) 1 1) 1):=⟨_,l1,[n],[y],aa HX,Nat.lt_succ_self _,rfl,by simp,by simp;omega,PT HN hs2 hy0 yH,PL.alloc HS _⟩
  clear HX HI HN HS h hy0 yH
  go_loopw [7] (fun v wr=>∃ ao n cap,v=.slice ao n cap/\Hid (ZI R sub mark w wr b s d (.slice ao n cap) n)) (fun _ wr=>left s b wr)
  case atStart=>exact ⟨_,_,_,rfl,HP⟩
  case round=>
   clear HP
   obtain ⟨ao,n,cap,rfl,HP⟩:=hrel
   obtain ⟨f,l',aM,ps,hf,hlt,hn,hps,hlen,uk,HS⟩:=aa HP
   obtain ⟨f,rfl⟩:∃ f',f=f'+1:=⟨f - 1,by omega⟩
   have HL:=hide (PL.left HS)
   have hnl:aM.length=ps.length:=(aa uk).2.1.1
   subst hn
   clear HP
   rw [bM] at hf
   by_cases hm:hd l'=mark
   ·rw [if_pos hm] at hf
    have hp:=mq (l:=l') (by omega)
    have HM:=hide hm
    clear hm
    cases hi:sub l'.tail with
    | error y=>
     rw [hi] at hf
     have HX:Hid (R=.error y):=hf.symm
     have HI:=hide hi
     clear hi hf HL hnl hlen hps
     go_wp2_with (first
      | (go_at_call 219;refine (dz HS mark HM).mono ?_;rintro x w3 ⟨rfl,HS2⟩)
      | (go_at_call 250;refine (kN (aa HA _ _ (PL.base HS2)) HI).mono ?_;rintro x w4 ⟨rfl,HU⟩;have lv:=hide ((PL.up HS2).trans (aa HU))))
     rw [aa HX]
     exact ⟨rfl,rfl,lv⟩
    | ok y=>
     obtain ⟨y,l2⟩:=y
     rw [hi] at hf
     dsimp only at hf
     obtain ⟨aeG,hy0,yH⟩:=aa SG _ _ _ hi
     have HX:=hide hf
     have HI:=hide hi
     have hnd:aM.length<=2000:=by omega
     have HNL:=hide hnl
     clear hi hf hnl
     go_wp2_with (first
      | (go_at_call 219;refine (dz (PL.base HS) mark HM).mono ?_;rintro x w3 ⟨rfl,HS2⟩;have HT2:=PL.join (PL.up HS) HS2;have iU:=jf.up uk hbw (PL.up HS2);have hs3:=(PL.up HT2).size;clear uk HS2 HS)
      | (go_at_call 250;refine (kP (aa HA _ _ (PL.base HT2)) HI).mono ?_;simp only [gm];rintro x w4 ⟨n4,rfl,Wn,mg⟩;have HT3:=PL.join (PL.up HT2) mg;have nS:=jf.up iU hbw (PL.up mg);have hs4:=(PL.up HT3).size;clear mg)
      | (at_builtin;refine NM w.heap.size w4 aM n4 _ (.tmp 14) (.tmp 17) rfl rfl rfl rfl (aa nS).1 hs4 hnd ?_;intro g5 cap5 w5 oM PQ Ty;have WB:=jf.next iU nS Wn hs3 hy0 yH oM PQ Ty;have qY:=PL.grown (PL.alloc HT3 (aB n4)) (aa PQ) (fun k hk=>by have:=((aa nS).1.lt k hk).1;omega);clear oM PQ Ty iU nS Wn HT2 HT3))
     go_roundw
     case rel=>exact ⟨_,_,_,rfl,f,l2,aM++[n4],ps++[y],aa HX,by omega,by simp,by simp,by simp;omega,WB,qY⟩
     case measure=>
      have e1:=PL.left qY
      have e2:=aa HL
      show left s b _<left s b _
      omega
   ·rw [if_neg hm] at hf
    have HX:Hid (R=.ok (ps,l')):=hf.symm
    have HM:=hide hm
    have h1:0<aM.length:=by omega
    have h2:aM.length<=61:=by omega
    clear hm hf HL hnl
    go_wp2_with (go_at_call 219;refine (bZ (PL.base HS) mark HM).mono ?_;rintro x w3 ⟨rfl,HS2⟩;have HT2:=PL.join (PL.up HS) HS2;have iU:=jf.up uk hbw (PL.up HS2);clear uk HS2 HS)
    go_ret
    rw [aa HX]
    exact ⟨ao,cap,aM,rfl,iU,h1,h2,HT2⟩
set_option maxRecDepth 100000 in
set_option maxHeartbeats 8000000 in
theorem xw {sub:List Sy->bn Pn} {mark:Int} (hmk:0<=mark) (HA:Hid (oF 218 sub b s d)) (SG:Hid (WC sub)) (h:Hid (PL w w b s d l)) :
  Calls Tryz.prog 217 #[.pointer (some ⟨b,0,none⟩),.int .i32 mark,.func (.func 218) #[.pointer (some ⟨b,0,none⟩)] #[]] w (ZH (uz s.size sub mark l) w b s d):=by
 obtain ⟨R,hR⟩:∃ R,uz s.size sub mark l=R:=⟨_,rfl⟩
 rw [hR]
 have hbw:=PL.lt h
 have ac2:=PL.len h
 unfold uz at hR
 cases hi:sub l with
 | error y=>
  rw [hi] at hR
  have HX:Hid (R=.error y):=hR.symm
  have HI:=hide hi
  clear hi hR
  go_enter Tryz.func217,Tryz.ntmps217
  go_wp2_with (go_at_call 218;refine (kN (aa HA _ _ h) HI).mono ?_;rintro x w3 ⟨rfl,HU⟩)
  rw [aa HX]
  exact ⟨rfl,rfl,HU⟩
 | ok y=>
  obtain ⟨y,l1⟩:=y
  rw [hi] at hR
  dsimp only at hR
  obtain ⟨hll,hy0,yH⟩:=aa SG _ _ _ hi
  have HX:=hide hR
  have HI:=hide hi
  clear hi hR
  go_enter Tryz.func217,Tryz.ntmps217
  go_wp2_with (go_at_call 218;refine (kP (aa HA _ _ h) HI).mono ?_;simp only [gm];rintro x w2 ⟨n,rfl,HN,HS⟩;have hs2:=(PL.up HS).size)
  have HP:Hid (ZI R sub mark w (w2.alloc (aB n)) b s d (.slice (some ⟨w2.heap.size,0,none⟩) 1 1) 1):=⟨_,l1,[n],[y],aa HX,Nat.lt_succ_self _,rfl,by simp,by simp;omega,PT HN hs2 hy0 yH,PL.alloc HS _⟩
  clear HX HI HN HS h hy0 yH
  go_loopw [7] (fun v wr=>∃ ao n cap,v=.slice ao n cap/\Hid (ZI R sub mark w wr b s d (.slice ao n cap) n)) (fun _ wr=>left s b wr)
  case atStart=>exact ⟨_,_,_,rfl,HP⟩
  case round=>
   clear HP
   obtain ⟨ao,n,cap,rfl,HP⟩:=hrel
   obtain ⟨f,l',aM,ps,hf,hlt,hn,hps,hlen,uk,HS⟩:=aa HP
   obtain ⟨f,rfl⟩:∃ f',f=f'+1:=⟨f - 1,by omega⟩
   have HL:=hide (PL.left HS)
   have hnl:aM.length=ps.length:=(aa uk).2.1.1
   subst hn
   clear HP
   rw [bM] at hf
   by_cases hm:hd l'=mark
   ·rw [if_pos hm] at hf
    have hp:=mq (l:=l') (by omega)
    have HM:=hide hm
    clear hm
    cases hi:sub l'.tail with
    | error y=>
     rw [hi] at hf
     have HX:Hid (R=.error y):=hf.symm
     have HI:=hide hi
     clear hi hf HL hnl hlen hps
     go_wp2_with (first
      | (go_at_call 219;refine (dz HS mark HM).mono ?_;rintro x w3 ⟨rfl,HS2⟩)
      | (go_at_call 218;refine (kN (aa HA _ _ (PL.base HS2)) HI).mono ?_;rintro x w4 ⟨rfl,HU⟩;have lv:=hide ((PL.up HS2).trans (aa HU))))
     rw [aa HX]
     exact ⟨rfl,rfl,lv⟩
    | ok y=>
     obtain ⟨y,l2⟩:=y
     rw [hi] at hf
     dsimp only at hf
     obtain ⟨aeG,hy0,yH⟩:=aa SG _ _ _ hi
     have HX:=hide hf
     have HI:=hide hi
     have hnd:aM.length<=2000:=by omega
     have HNL:=hide hnl
     clear hi hf hnl
     go_wp2_with (first
      | (go_at_call 219;refine (dz (PL.base HS) mark HM).mono ?_;rintro x w3 ⟨rfl,HS2⟩;have HT2:=PL.join (PL.up HS) HS2;have iU:=jf.up uk hbw (PL.up HS2);have hs3:=(PL.up HT2).size;clear uk HS2 HS)
      | (go_at_call 218;refine (kP (aa HA _ _ (PL.base HT2)) HI).mono ?_;simp only [gm];rintro x w4 ⟨n4,rfl,Wn,mg⟩;have HT3:=PL.join (PL.up HT2) mg;have nS:=jf.up iU hbw (PL.up mg);have hs4:=(PL.up HT3).size;clear mg)
      | (at_builtin;refine NM w.heap.size w4 aM n4 _ (.tmp 14) (.tmp 17) rfl rfl rfl rfl (aa nS).1 hs4 hnd ?_;intro g5 cap5 w5 oM PQ Ty;have WB:=jf.next iU nS Wn hs3 hy0 yH oM PQ Ty;have qY:=PL.grown (PL.alloc HT3 (aB n4)) (aa PQ) (fun k hk=>by have:=((aa nS).1.lt k hk).1;omega);clear oM PQ Ty iU nS Wn HT2 HT3))
     go_roundw
     case rel=>exact ⟨_,_,_,rfl,f,l2,aM++[n4],ps++[y],aa HX,by omega,by simp,by simp,by simp;omega,WB,qY⟩
     case measure=>
      have e1:=PL.left qY
      have e2:=aa HL
      show left s b _<left s b _
      omega
   ·rw [if_neg hm] at hf
    have HX:Hid (R=.ok (ps,l')):=hf.symm
    have HM:=hide hm
    have h1:0<aM.length:=by omega
    have h2:aM.length<=61:=by omega
    clear hm hf HL hnl
    go_wp2_with (go_at_call 219;refine (bZ (PL.base HS) mark HM).mono ?_;rintro x w3 ⟨rfl,HS2⟩;have HT2:=PL.join (PL.up HS) HS2;have iU:=jf.up uk hbw (PL.up HS2);clear uk HS2 HS)
    go_ret
    rw [aa HX]
    exact ⟨ao,cap,aM,rfl,iU,h1,h2,HT2⟩
end
end Go.Proofs.YtfolanohokflkaaGreatDoor
