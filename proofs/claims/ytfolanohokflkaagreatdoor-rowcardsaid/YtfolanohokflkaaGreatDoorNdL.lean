import Derived.Test.YtfolanohokflkaaGreatDoorApB
import Derived.Test.YtfolanohokflkaaGreatDoorSpA
import Derived.Test.YtfolanohokflkaaGreatDoorPrI
import Derived.Lib.OthersKept
import Derived.Test.YtfolanohokflkaaGreatDoorProC
import Derived.WalkKit
import Derived.WalkSpells
import Derived.WalkLawsBesides
import Derived.WalkMore
import Derived.Deep.QuietTactic
import Derived.BigQuiet
namespace Go.Proofs.YtfolanohokflkaaGreatDoor
open Go.RowKit
theorem ZN {w:World} {B B' e size n:Nat} {v:Value} {xs:List Value} (h:w.ownsRow B e size v n xs) (hB:B'<=B):w.ownsRow B' e size v n xs:=by
 obtain ⟨hl,hx | ⟨g,cap,cur,e1,hb,rest⟩⟩:=h
 ·exact ⟨hl,.inl hx⟩
 ·exact ⟨hl,.inr ⟨g,cap,cur,e1,by omega,rest⟩⟩
theorem VV {w:World} {B e size n k:Nat} {v:Value} {xs:List Value} (h:w.ownsRow B e size v n xs) (hk:k<B) (s:ByteArray) (p:Nat):(w.iterAt k s p).ownsRow B e size v n xs:=
 BF h fun j hj _=>Lib.iterAt_other w k j s p (by have:=(h.lt j hj).1;omega)
theorem Kh {w:World} {k p:Nat} {s:ByteArray} (h:w.heap[k]? = some (.stringIter s p)):w.iterPos k=p:=by
 unfold World.iterPos
 rw [h]
theorem VW {s:ByteArray} {pos:Nat} {acc:List Nat} (h:acc++ry s pos=pts s) (hp:pos<s.size):(acc++[pos])++ry s (pos+(Utf8.decode s pos).2)=pts s:=by
 rw [<-h,qb hp]
 simp
theorem ZO {s:ByteArray} {pos:Nat} {acc:List Nat} (h:acc++ry s pos=pts s) (hp:¬ pos<s.size):acc++[s.size]=pts s:=by
 rw [<-h,qc (by omega)]
theorem lV (s:ByteArray):(pts s).length<=s.size+1:=by
 have:=qo s 0
 rw [xn];omega
theorem ZP {s:ByteArray} {pos:Nat} {acc:List Nat} (h:acc++ry s pos=pts s):acc.length<=s.size+1:=by
 have h1:=lV s
 rw [<-h,List.length_append] at h1
 omega
set_option maxRecDepth 100000 in
set_option maxHeartbeats 4000000 in
theorem Nr (s:ByteArray) (w:World) (hs:s.size<=60) :
  Calls Tryz.prog 39 #[.string s] w fun e w'=>∃ g cap,e=.returned (.slice (some ⟨g,0,none⟩) (pts s).length cap)/\Hid (Below w.heap.size w w')/\Hid (w'.ownsRow w.heap.size 3 1 (.slice (some ⟨g,0,none⟩) (pts s).length cap) (pts s).length (ints (ay (pts s)))):=by
 go_enter Tryz.func39,Tryz.ntmps39
 go_wp2_with fail
 go_loopw [3] (fun v wr=>∃ (pos:Nat) (acc:List Nat) (ao:Option Addr) (cap:Nat),v=.slice ao acc.length cap/\Hid (wr.ownsRow (w.heap.size+1) 3 1 (.slice ao acc.length cap) acc.length (ints (ay acc)))/\wr.heap[w.heap.size]? = some (.stringIter s pos)/\Hid (Below w.heap.size w wr)/\Hid (acc++ry s pos=pts s)) (fun _ wr=>s.size - wr.iterPos w.heap.size)
 case atStart=>
  refine ⟨0,[],none,0,rfl,hide ⟨rfl,.inl ⟨rfl,rfl⟩⟩,?_,?_,hide rfl⟩
  ·have:=World.iter_heap w s 0
   simpa using this
  ·exact hide ((Below.refl _ w).alloc (Nat.le_refl _) _)
 case round=>
  obtain ⟨pos,acc,ao,cap,rfl,HO,hit,HB,HA⟩:=hrel
  have hlt:w.heap.size<wr.heap.size:=(Array.getElem?_eq_some_iff.1 hit).1
  have ng:=ZP (aa HA)
  by_cases hp:pos<s.size
  ·have hnx:∀ ty,(Instr.next (.pointer (some ⟨w.heap.size,0,none⟩)) true ty).run Tryz.prog wr=_:=fun ty=>Lib.run_next_any_at wr w.heap.size s pos ty hit hp
   have hwd:=dz s pos hp
   have jJ:=hide (VV (aa HO) (k:=w.heap.size) (by omega) s (pos+(Utf8.decode s pos).2))
   have hit2:=Lib.iterAt_heap wr w.heap.size s pos (pos+(Utf8.decode s pos).2) hit
   have HB2:=hide (Lib.below_iterAt (aa HB) (k:=w.heap.size) (Nat.le_refl _) s (pos+(Utf8.decode s pos).2))
   have hsz2:(wr.iterAt w.heap.size s (pos+(Utf8.decode s pos).2)).heap.size=wr.heap.size:=by rw [Lib.iterAt_size]
   have hip:wr.iterPos w.heap.size=pos:=Kh hit
   have HA2:=hide (VW (aa HA) hp)
   clear hit HO HB
   generalize hW2:wr.iterAt w.heap.size s (pos+(Utf8.decode s pos).2)=w2 at *
   go_wp2_with (at_builtin;refine jV Tryz.underlying31 gZ rfl (by decide) (by decide) (w.heap.size+1) w2 w2 _ _ [.int .i64 (pos:Int)] _ (.tmp 10) (.tmp 12) rfl rfl rfl wr.heap.size hsz2 rfl jJ (Below.refl _ _) (by omega) (by omega) rfl (by intro u hu;simp at hu;rw [hu];rfl) ?_;intro g5 cap5 w5 o_ jI FU)
   go_roundw
   case rel=>
    refine ⟨pos+(Utf8.decode s pos).2,acc++[pos],some ⟨g5,0,none⟩,cap5,by simp,?_,((aa jI).block _ (by omega)).trans hit2,hide ((aa HB2).trans ((aa jI).mono (by omega))),HA2⟩
    have h:=aa o_
    show World.ownsRow _ _ _ _ _ _ _
    rw [List.length_append]
    simp only [ay,ints,List.map_append] at h ⊢
    exact h
   case measure=>
    have e:w5.iterPos w.heap.size=pos+(Utf8.decode s pos).2:=Kh (((aa jI).block _ (by omega)).trans hit2)
    rw [e,hip]
    omega
  ·have hnx:∀ ty,(Instr.next (.pointer (some ⟨w.heap.size,0,none⟩)) true ty).run Tryz.prog wr=_:=fun ty=>Lib.run_next_end_at wr w.heap.size s pos ty hit hp
   have HE:=hide (ZO (aa HA) hp)
   clear hit
   go_wp2_with (at_builtin;refine jV Tryz.underlying31 gZ rfl (by decide) (by decide) (w.heap.size+1) wr wr _ _ [.int .i64 (s.size:Int)] _ (.tmp 14) (.tmp 17) rfl rfl rfl wr.heap.size rfl rfl HO (Below.refl _ _) (by omega) (by omega) rfl (by intro u hu;simp at hu;rw [hu];rfl) ?_;intro g5 cap5 w5 o_ jI FU)
   go_ret
   have e:=aa HE
   have h:=aa o_
   refine ⟨g5,cap5,?_,hide ((aa HB).trans ((aa jI).mono (by omega))),?_⟩
   ·rw [<-e];simp
   ·show World.ownsRow _ _ _ _ _ _ _
    rw [<-e,List.length_append]
    simp only [ay,ints,List.map_append] at h ⊢
    exact ZN h (by omega)
end Go.Proofs.YtfolanohokflkaaGreatDoor
namespace Go.Proofs.YtfolanohokflkaaGreatDoor
open Go.RowKit
theorem dB {w w':World} (h:Hid (Lib.Utf8Tabs 4 5 w)) (hb:Hid (Below w.heap.size w w')):Hid (Lib.Utf8Tabs 4 5 w'):=by
 have hlt:=lT (aa h)
 exact iM (aa h) ((aa hb).block 4 (by omega)) ((aa hb).block 5 (by omega))
theorem bF {w w1 w2:World} (h:Hid (Below w.heap.size w w1)) (k:Hid (Below w1.heap.size w1 w2)):Hid (Below w.heap.size w w2):=
 ⟨(aa k).os.trans (aa h).os,(aa k).tape.trans (aa h).tape,(aa k).output.trans (aa h).output,Nat.le_trans (aa h).size (aa k).size,fun i hi=>((aa k).block i (Nat.lt_of_lt_of_le hi (aa h).size)).trans ((aa h).block i hi)⟩
end Go.Proofs.YtfolanohokflkaaGreatDoor
namespace Go.Proofs.YtfolanohokflkaaGreatDoor
open Go.RowKit
def VX (t:ByteArray):Prop:=∀ (W:World) (i:Nat),Hid (Lib.Utf8Tabs 4 5 W)->i<=t.size->Calls Tryz.prog 25 #[.string ⟨#[40,41]⟩,.string t,.int .i64 (i:Int),.int .i64 200] W fun x w'=>x=.returned (.tuple #[.int .i64 (if i∈pts t then (i:Int) else 0),.int .i64 (if i∈pts t then (i:Int) else 0),.int .i64 (if i∈pts t then 0 else 6)])/\Hid (Below W.heap.size W w')
theorem VY (l:List Nat) (i:Nat):ints (ay (l++[i]))=ints (ay l)++[.int .i64 (i:Int)]:=by simp [ints,ay]
theorem qg {w:World} {B g n cap k:Nat} {l:List Nat} (h:w.ownsRow B 3 1 (.slice (some ⟨g,0,none⟩) n cap) n (ints (ay l))) (hk:k<l.length):w.cell? ⟨g,k,none⟩=some (.int .i64 (l[k]:Int)):=by
 have:=h.cells rfl k (.int .i64 (l[k]:Int)) (by simp [ints,ay,hk])
 have e:(⟨g,0,none⟩:Addr).add k=⟨g,k,none⟩:=by cases k<;>simp [Addr.add]
 rwa [e] at this
def StR (t:ByteArray) (w:World) (e:Ending) (w':World):Prop:=∃ g cap,e=.returned (.tuple #[.slice (some ⟨g,0,none⟩) (pts t).length cap,.bool true])/\Hid (Below w.heap.size w w')/\Hid (w'.ownsRow w.heap.size 3 1 (.slice (some ⟨g,0,none⟩) (pts t).length cap) (pts t).length (ints (ay (pts t))))
set_option maxRecDepth 100000 in
set_option maxHeartbeats 4000000 in
theorem qK {w:World} {t:ByteArray} (hs:t.size<=60) (ht:Hid (Lib.Utf8Tabs 4 5 w)) (HF:Hid (VX t)):Calls Tryz.prog 21 #[.string t] w (StR t w):=by
 go_enter Tryz.func21,Tryz.ntmps21
 go_wp2_with fail
 go_loopw [4,5] (fun l i wr=>∃ (k:Nat) (ao:Option Addr) (cap:Nat),k<=t.size+1/\i=.int .i64 (k:Int)/\l=.slice ao (lM t k).length cap/\Hid (wr.ownsRow w.heap.size 3 1 (.slice ao (lM t k).length cap) (lM t k).length (ints (ay (lM t k))))/\Hid (Below w.heap.size w wr)) (fun _ i _=>t.size+1 - (intOf i).toNat)
 case atStart=>exact ⟨0,none,0,Nat.zero_le _,rfl,rfl,World.ownsRow_nil _ _ _ _,Below.refl _ _⟩
 case round=>
  obtain ⟨k,ao,cap,hk,rfl,rfl,HO,HB⟩:=hrel
  have hws:w.heap.size<=wr.heap.size:=(aa HB).size
  have ng:=ZM t k
  by_cases hlt:k<=t.size
  ·have HC:=hide (aa HF wr k (dB ht HB) hlt)
   have T_:(k:Int)<=(t.size:Int):=by omega
   by_cases hm:k∈pts t
   ·rw [if_pos hm,if_pos hm] at HC
    have HL:=hide (ZL hm)
    clear hm
    go_wp2_with (first
     | (go_at_call 25;refine (aa HC).mono ?_;clear HC;rintro x w2 ⟨rfl,HB2⟩;have jJ:=hide (own_below (aa HO) (aa HB2) (Nat.le_refl _));have HB3:=bF HB HB2;have aeG:w.heap.size<=w2.heap.size:=(aa HB3).size)
     | (at_builtin;refine jV Tryz.underlying31 gZ rfl (by decide) (by decide) w.heap.size w w2 _ _ [.int .i64 (k:Int)] _ (.tmp 32) (.tmp 34) rfl rfl rfl w2.heap.size rfl rfl jJ HB3 aeG (by omega) rfl (by intro u hu;simp at hu;rw [hu];rfl) ?_;intro g5 cap5 w5 o_ jI FU))
    go_roundw
    case rel=>
     refine ⟨k+1,some ⟨g5,0,none⟩,cap5,by omega,by go_num,?_,?_,jI⟩
     ·rw [aa HL,List.length_append];rfl
     ·show World.ownsRow _ _ _ _ _ _ _
      rw [aa HL,VY,List.length_append]
      exact o_
    case measure=>simp [intOf];omega
   ·rw [if_neg hm,if_neg hm] at HC
    have HL:=hide (ab8 hm)
    clear hm
    go_wp2_with (go_at_call 25;refine (aa HC).mono ?_;clear HC;rintro x w2 ⟨rfl,HB2⟩;have jJ:=hide (own_below (aa HO) (aa HB2) (Nat.le_refl _));have HB3:=bF HB HB2)
    go_roundw
    case rel=>
     refine ⟨k+1,ao,cap,by omega,by go_num,?_,?_,HB3⟩
     ·rw [aa HL]
     ·rw [aa HL];exact jJ
    case measure=>simp [intOf];omega
  ·have hk2:k=t.size+1:=by omega
   have T_:¬ (k:Int)<=(t.size:Int):=by omega
   have hlow:lM t k=pts t:=by rw [hk2,ZK]
   rw [hlow] at HO ⊢
   clear hk2 hk hlt ng hlow
   have hpos:=uj t
   obtain ⟨g,rfl⟩:∃ g,ao=some ⟨g,0,none⟩:=by
    obtain ⟨_,⟨_,h0⟩ | ⟨g,cap',cur,e1,_⟩⟩:=aa HO
    ·omega
    ·injection e1 with e1
     exact ⟨g,e1⟩
   have p0:wr.cell? ⟨g,0,none⟩=some (.int .i64 0):=by
    have:=qg (aa HO) hpos
    rw [SC] at this
    exact this
   have p1:wr.cell? ⟨g,(pts t).length - 1,none⟩=some (.int .i64 (t.size:Int)):=by
    have:=qg (aa HO) (k:=(pts t).length - 1) (by omega)
    rw [Kg] at this
    exact this
   have hpf:=lV t
   have HE:Hid (∀ (e:Ending) (q:Nat),e=.returned (.tuple #[.slice (some ⟨g,0,none⟩) (pts t).length cap,.bool true])->StR t w e (wr.drewN q)):=fun e q he=>⟨g,cap,he,⟨(aa HB).os,(aa HB).tape,(aa HB).output,(aa HB).size,(aa HB).block⟩,HO⟩
   clear HO HB HF
   generalize hN:(pts t).length=N at *
   obtain ⟨N',rfl⟩:∃ N',N=N'+1:=⟨N - 1,by omega⟩
   rw [Nat.add_sub_cancel] at p1
   go_wp2_with fail
   go_quiet (fail)
   go_wp2_with fail
   go_ret2
   exact aa HE _ _ rfl
end Go.Proofs.YtfolanohokflkaaGreatDoor
namespace Go.Proofs.YtfolanohokflkaaGreatDoor
open Go.RowKit
theorem qL (t:ByteArray) (a b:Nat) (h:t.size<=60):(t.extract a b).size<=60:=by rw [ByteArray.size_extract];omega
set_option maxRecDepth 100000 in
set_option maxHeartbeats 4000000 in
theorem sM {w:World} {t:ByteArray} {x:Nat} (hx:x<=t.size) (hs:t.size<=60) (ht:Hid (Lib.Utf8Tabs 4 5 w)) (HF:Hid (∀ u:ByteArray,u.size<=60->VX u)) :
  Calls Tryz.prog 22 #[.string t,.int .i64 (x:Int)] w fun e w'=>(∃ b,e=.returned (.bool b))/\Hid (Below w.heap.size w w'):=by
 have H1:=hide (fun (W:World) h=>qK (w:=W) (t:=t.extract 0 x) (qL t _ _ hs) h (hide (aa HF _ (qL t _ _ hs))))
 have H2:=hide (fun (W:World) h=>qK (w:=W) (t:=t.extract x t.size) (qL t _ _ hs) h (hide (aa HF _ (qL t _ _ hs))))
 have H3:=hide (fun (W:World) h=>qK (w:=W) (t:=t) hs h (hide (aa HF _ hs)))
 have hxI:(x:Int)<=(t.size:Int):=by omega
 have f1:=lV (t.extract 0 x)
 have f2:=lV (t.extract x t.size)
 have f3:=lV t
 have c1:=qL t 0 x hs
 have c2:=qL t x t.size hs
 unfold StR at H1 H2 H3
 go_enter Tryz.func22,Tryz.ntmps22
 go_wp2_with (first
  | (have H':=H1;clear H1;go_at_call 21;refine (aa H' w ht).mono ?_;clear H';rintro y w1 ⟨g1,oU,rfl,B1,-⟩)
  | (have H':=H2;clear H2;go_at_call 21;refine (aa H' w1 (dB ht B1)).mono ?_;clear H';rintro y w2 ⟨g2,cap2,rfl,hb,-⟩;have B2:=bF B1 hb;clear hb)
  | (have H':=H3;clear H3;go_at_call 21;refine (aa H' w2 (dB ht B2)).mono ?_;clear H';rintro y w3 ⟨g3,gB,rfl,hb,-⟩;have B3:=bF B2 hb;clear hb))
 go_ret
 exact ⟨⟨_,rfl⟩,B3⟩
end Go.Proofs.YtfolanohokflkaaGreatDoor
namespace Go.Proofs.YtfolanohokflkaaGreatDoor
open Go.RowKit
abbrev ab9 (z:ah):Value:=.string (encS z)
section
variable {w0 w:World} {b:Nat} {s:ByteArray} {d:Int} {l:List Sy}
theorem GX {w wr w2:World} {b:Nat} {v:Value} {zs:ah} (ho:Hid (wr.ownsRow w.heap.size 248 2 v zs.length (aJ zs))) (hb:b<w.heap.size) (hu:Up b wr w2):Hid (w2.ownsRow w.heap.size 248 2 v zs.length (aJ zs)):=
 U5 (aa ho) hu fun e=>by have:=((aa ho).lt _ e).1;omega
set_option maxRecDepth 100000 in
set_option maxHeartbeats 8000000 in
theorem VZ (h:Hid (PL w0 w b s d l)) (hc:Hid (hd l=91)) :
  Calls Tryz.prog 328 #[.pointer (some ⟨b,0,none⟩)] w (BG (iG s.size l.tail) ab9 w0 b s d):=by
 have hbw:=PL.lt h
 have adH:=PL.len h
 have HJ:Hid (∀ w' l',Hid (PL w w' b s d l')->Hid (PL w0 w' b s d l')):=fun w' l' h'=>PL.join (PL.up h) h'
 have HJU:Hid (∀ w',Hid (Up b w w')->Hid (Up b w0 w')):=fun w' h'=>(PL.up h).trans (aa h')
 have hB:=PL.base h
 clear h
 obtain ⟨tb,R0,h94,hR⟩:∃ (tb:Bool) (R0:bn ah),(tb=true↔hd l.tail=94)/\bB s.size (l.tail.length+1) [] (if tb=true then l.tail.tail else l.tail)=R0/\iG s.size l.tail=if tb=true then Bv R0 else R0:=by
  by_cases e:hd l.tail=94
  ·exact ⟨true,_,by simp [e],rfl,by rw [iG,if_pos e];rfl⟩
  ·exact ⟨false,_,by simp [e],rfl,by rw [iG,if_neg e];rfl⟩
 obtain ⟨hL,hR⟩:=hR
 rw [hR]
 clear hR
 have HM:Hid (∀ w1,Hid (PL w w1 b s d l.tail)->Calls Tryz.prog 219 #[.pointer (some ⟨b,0,none⟩),.int .i32 94] w1 fun x w'=>x=.returned (.bool tb)/\Hid (adp R0 w w' b s d (.slice none 0 0))):=by
  intro w1 h1
  have t1:=fH l
  have t2:=fH l.tail
  cases tb with
  | true=>
   refine (dF h1 94 (h94.1 rfl)).mono ?_
   rintro x w' ⟨rfl,h2⟩
   exact ⟨rfl,_,_,[],by rw [EX];exact hL,by show l.tail.tail.length<_;omega,by simp,by show _+4*l.tail.tail.length<=_;simp only [List.length_nil];omega,World.ownsRow_nil _ _ _ _,h2⟩
  | false=>
   refine (dh h1 94 (by show ¬ _;intro e;exact absurd (h94.2 e) (by decide))).mono ?_
   rintro x w' ⟨rfl,h2⟩
   exact ⟨rfl,_,_,[],by rw [EX];exact hL,by show l.tail.length<_;omega,by simp,by show _+4*l.tail.length<=_;simp only [List.length_nil];omega,World.ownsRow_nil _ _ _ _,h2⟩
 clear hL h94
 cases tb
 all_goals
  go_enter Tryz.func328,Tryz.ntmps328
  go_wp2_with (first
   | (go_at_call 148;refine (dP hB 91 hc).mono ?_;clear hB;rintro x w1 ⟨rfl,HS⟩)
   | (go_at_call 219;refine (aa HM _ HS).mono ?_;clear HM HS;rintro x w2 ⟨rfl,HP⟩))
  go_loopw [4] (fun v wr=>∃ ao n cap,v=.slice ao n cap/\Hid (adp R0 w wr b s d v)) (fun _ wr=>left s b wr)
  case atStart=>exact ⟨_,_,_,rfl,HP⟩
  case round=>
   clear HP hc
   obtain ⟨ao,n,cap,rfl,HC⟩:=hrel
   obtain ⟨f,l',zs,hf,hlt,hgd,hzl,HO,HS⟩:=aa HC
   obtain ⟨f,rfl⟩:∃ f',f=f'+1:=⟨f - 1,by omega⟩
   have HL:=hide (PL.left HS)
   have HGD:=hide hgd
   rw [bB] at hf
   by_cases h93:hd l'=93
   ·rw [if_pos h93] at hf
    have H93:=hide h93
    have hcl:=M6 zs
    have HT:=hide (iY (l8 hgd))
    clear h93 hgd HL HC
    subst hf
    go_wp2_with (first
     | (go_at_call 219;refine (dF (PL.base HS) 93 H93).mono ?_;rintro x w2 ⟨rfl,HS2⟩;have jJ:=GX HO hbw (PL.up HS2);have mR:=PL.join (PL.up HS) HS2;clear HS HS2 HO)
     | (go_at_call 160;refine (pR w2 _ zs (by omega) (nJ (aa jJ)) (aa HGD)).mono ?_;rintro e w4 ⟨rfl,hb4⟩;have Ua:=PL.below mR hb4;clear hb4 mR)
     | (go_at_call 156;refine (nK w4 (iX zs) (by omega) (aa HT)).mono ?_;rintro e w5 ⟨rfl,hb5⟩;have CF:=PL.below Ua hb5;clear hb5 Ua))
    go_ret
    first | exact ⟨rfl,aa HJ _ _ CF⟩ | exact ⟨rfl,aa HJ _ _ Ua⟩
   ·rw [if_neg h93] at hf
    have H93:=hide h93
    clear h93 HC
    cases hp:jA s.size l' with
    | error y=>
     rw [hp] at hf
     have HX:Hid (R0=.error y):=hf.symm
     have uA:=hide hp
     clear hf hp HL
     go_wp2_with (first
      | (go_at_call 219;refine (dh HS 93 H93).mono ?_;clear HS;rintro x w2 ⟨rfl,HS⟩)
      | (go_at_call 337;refine (U8 (aa4 HS) uA).mono ?_;rintro x w2 ⟨rfl,HU⟩))
     rw [aa HX]
     exact ⟨rfl,rfl,aa HJU _ HU⟩
    | ok y=>
     obtain ⟨p,l1⟩:=y
     rw [hp] at hf
     dsimp only at hf
     have hlen:=RN hp
     obtain ⟨hpg,hp0,hp4⟩:=(M5 (PL.U4 HS) _ _ hp).1
     rw [BU hgd hpg] at hf
     have HX:=hide hf
     have HPG:=hide hpg
     have uA:=hide hp
     clear hf hp hgd hpg
     go_wp2_with (first
      | (go_at_call 219;refine (dh (PL.base HS) 93 H93).mono ?_;rintro x w2 ⟨rfl,HS2⟩;have jJ:=GX HO hbw (PL.up HS2);have mR:=PL.join (PL.up HS) HS2;clear HS HS2 HO)
      | (go_at_call 337;refine (Zf (aa4 (PL.base mR)) uA).mono ?_;rintro x w3 ⟨pv,rfl,HRW,Ua⟩;have qw:=GX jJ hbw (PL.up Ua);have CF:=PL.join (PL.up mR) Ua;have hsz:=(PL.up CF).size;clear mR Ua jJ)
      | (at_builtin;refine Zg w.heap.size (b+1) w3 zs p _ pv (.tmp 12) (.tmp 14) rfl rfl rfl rfl qw HRW hp0 hsz (by omega) ?_;intro ao4 n4 cap4 w4 yA ZQ;have Ns:=PL.grown CF (aa ZQ) (fun k hk=>by have:=((aa qw).lt k hk).1;omega);clear CF ZQ qw HRW))
     go_roundw
     case rel=>exact ⟨_,_,_,rfl,f,l1,zs++p,aa HX,by omega,fun x hx=>by rcases List.mem_append.1 hx with hx | hx;exact aa HGD x hx;exact aa HPG x hx,by rw [List.length_append];omega,yA,Ns⟩
     case measure=>
      have e1:=PL.left Ns
      have e2:=aa HL
      show left s b _<left s b _
      omega
end
end Go.Proofs.YtfolanohokflkaaGreatDoor
namespace Go.Proofs.YtfolanohokflkaaGreatDoor
open Go.RowKit
theorem SE:encS Gr=⟨#[0,244,143,191,191]⟩:=by decide +kernel
theorem SF {c:Int} (h:aD c=true):iX [(c,c)]=[(c,c)]:=by
 have hg:=wQ h h (Int.le_refl _)
 exact iW (iY (l8 hg)) (BB h) fun x hx=>pO (l8 hg) hx
section
variable {w0 w:World} {b:Nat} {s:ByteArray} {d:Int} {l:List Sy}
theorem ZR (w:World) (lo hi:Int):vT (w.alloc (.cells #[.int .i32 lo,.int .i32 hi] 248)).heap.size (w.alloc (.cells #[.int .i32 lo,.int .i32 hi] 248)) (.slice (some ⟨w.heap.size,0,none⟩) 1 1) [(lo,hi)]:=by
 have h:(w.alloc (.cells #[.int .i32 lo,.int .i32 hi] 248)).ownsRow w.heap.size 248 2 (.slice (some ⟨w.heap.size,0,none⟩) 1 1) [(lo,hi)].length (aJ [(lo,hi)]):=
  World.ownsRow_lit w #[.int .i32 lo,.int .i32 hi] 1 (Nat.le_refl _) (by decide) rfl
 exact nJ h
theorem SG (w:World) {c:Int} (h:aD c=true):Calls Tryz.prog 160 #[.slice (some ⟨w.heap.size,0,none⟩) 1 1] (w.alloc (.cells #[.int .i32 c,.int .i32 c] 248)) fun e w'=>e=.returned (ab9 [(c,c)])/\Below w.heap.size w w':=by
 refine (pR _ _ [(c,c)] (by simp) (ZR w c c) (wQ h h (Int.le_refl _))).mono ?_
 rintro e w' ⟨rfl,hb⟩
 rw [SF h]
 have h1:Below w.heap.size w (w.alloc (.cells #[.int .i32 c,.int .i32 c] 248)):=(Below.refl _ w).alloc (Nat.le_refl _) _
 exact ⟨rfl,h1.trans (hb.mono (by simp))⟩
theorem Ki {n:Nat} {l:List Sy} (h1:¬ hd l=91) (h2:¬ hd l=46) (h3:isSet l=false):eB n l=RB (mZ n l):=by
 unfold eB mZ
 rw [if_neg h1]
 split
 ·rw [if_neg (by rw [h3];decide)]
 ·split<;>rfl
theorem Kj {n:Nat} {l:List Sy} (h:bz l):Good Zb (mZ n l):=by
 unfold mZ
 split
 ·exact rW h.tail
 ·split
  ·exact Good.bad
  ·rename_i hn
   exact Good.ok (h.hd fun e=>hn (.inl e)) h.tail
set_option maxRecDepth 100000 in
set_option maxHeartbeats 8000000 in
theorem PT (h:Hid (PL w0 w b s d l)) :
  Calls Tryz.prog 321 #[.pointer (some ⟨b,0,none⟩)] w (BG (eB s.size l) ab9 w0 b s d):=by
 obtain ⟨R,hR⟩:∃ R,eB s.size l=R:=⟨_,rfl⟩
 rw [hR]
 by_cases Yn:hd l=91
 ·have HC:=hide Yn
  rw [eB,if_pos Yn] at hR
  have HR:=hide hR
  clear hR Yn
  cases R with
  | error y=>
   go_enter Tryz.func321,Tryz.ntmps321
   go_wp2_with (first
    | (go_at_call 251;refine (eH h HC).mono ?_;clear h;rintro x w1 ⟨rfl,HS⟩)
    | (go_at_call 328;refine (iw (VZ HS HC) HR).mono ?_;rintro x w2 ⟨rfl,HU⟩))
   exact ⟨rfl,rfl,HU⟩
  | ok y=>
   obtain ⟨z,l1⟩:=y
   go_enter Tryz.func321,Tryz.ntmps321
   go_wp2_with (first
    | (go_at_call 251;refine (eH h HC).mono ?_;clear h;rintro x w1 ⟨rfl,HS⟩)
    | (go_at_call 328;refine (dS (VZ HS HC) HR).mono ?_;clear HS;rintro x w2 ⟨rfl,HS⟩))
   go_ret
   exact ⟨rfl,HS⟩
 ·obtain ⟨c,hcc⟩:∃ c,hd l=c:=⟨_,rfl⟩
  have g_:=hide hcc
  have k1:(c==91)=false:=by rw [<-hcc];simpa using Yn
  by_cases h46:hd l=46
  ·have HD:=hide h46
   have HX:Hid (R=.ok (Gr,l.tail)):=by show _=_;rw [<-hR,eB,if_neg Yn,if_neg (by omega),if_pos h46]
   clear h46 Yn hcc hR
   go_enter Tryz.func321,Tryz.ntmps321
   go_wp2_with (first
    | (go_at_call 251;refine (eH h g_).mono ?_;clear h;rintro x w1 ⟨rfl,HS⟩)
    | (go_at_call 219;refine (dF HS 46 HD).mono ?_;clear HS;rintro x w2 ⟨rfl,HS⟩))
   go_ret
   rw [aa HX]
   exact ⟨(by show _=Ending.returned (.string (encS Gr));rw [SE];rfl),HS⟩
  ·have HD:=hide h46
   cases hs:isSet l with
   | true=>
    have h92':hd l=92/\(hd l.tail=100\/hd l.tail=119):=by simpa [isSet] using hs
    have zK:hd l=92:=h92'.1
    clear h92'
    have HX:Hid (R=.ok (iF l,l.tail.tail)):=by show _=_;rw [<-hR,eB,if_neg Yn,if_pos zK,if_pos hs]
    have HN:=hide hs
    clear zK h46 Yn hcc hR hs
    go_enter Tryz.func321,Tryz.ntmps321
    go_wp2_with (first
     | (go_at_call 251;refine (eH h g_).mono ?_;clear h;rintro x w1 ⟨rfl,HS⟩)
     | (go_at_call 219;refine (dh HS 46 HD).mono ?_;clear HS;rintro x w2 ⟨rfl,HS⟩)
     | (go_at_call 329;refine (wK HS HN).mono ?_;clear HS;rintro x w3 ⟨rfl,HS⟩))
    go_ret
    rw [aa HX]
    exact ⟨rfl,HS⟩
   | false=>
    rw [Ki Yn h46 hs] at hR
    have HN:=hide hs
    have hsy:=Kj (n:=s.size) (PL.U4 h)
    clear h46 Yn hcc hs
    cases hq:mZ s.size l with
    | error y=>
     rw [hq] at hR
     have HX:Hid (R=.error y):=hR.symm
     have HQ:=hide hq
     clear hq hR hsy
     go_enter Tryz.func321,Tryz.ntmps321
     go_wp2_with (first
      | (go_at_call 251;refine (eH h g_).mono ?_;clear h;rintro x w1 ⟨rfl,HS⟩)
      | (go_at_call 219;refine (dh HS 46 HD).mono ?_;clear HS;rintro x w2 ⟨rfl,HS⟩)
      | (go_at_call 329;refine (jd HS HN).mono ?_;clear HS;rintro x w3 ⟨rfl,HS⟩)
      | (go_at_call 330;refine (iw (Pe HS) HQ).mono ?_;rintro x w4 ⟨rfl,HU⟩))
     rw [aa HX]
     exact ⟨rfl,rfl,HU⟩
    | ok y=>
     obtain ⟨z,l1⟩:=y
     rw [hq] at hR
     have HX:Hid (R=.ok ([(z,z)],l1)):=hR.symm
     have hz:aD z=true:=(hsy _ _ hq).1
     have HSO:=hide (fun W:World=>SG W hz)
     have HQ:=hide hq
     clear hq hR hsy hz
     go_enter Tryz.func321,Tryz.ntmps321
     go_wp2_with (first
      | (go_at_call 251;refine (eH h g_).mono ?_;clear h;rintro x w1 ⟨rfl,HS⟩)
      | (go_at_call 219;refine (dh HS 46 HD).mono ?_;clear HS;rintro x w2 ⟨rfl,HS⟩)
      | (go_at_call 329;refine (jd HS HN).mono ?_;clear HS;rintro x w3 ⟨rfl,HS⟩)
      | (go_at_call 330;refine (dS (Pe HS) HQ).mono ?_;clear HS;rintro x w4 ⟨rfl,HS⟩)
      | (go_at_call 160;refine (aa HSO w4).mono ?_;rintro x w5 ⟨rfl,hb5⟩;have CF:=PL.below HS hb5;clear hb5))
     go_ret
     rw [aa HX]
     exact ⟨rfl,CF⟩
end
end Go.Proofs.YtfolanohokflkaaGreatDoor
