import Derived.Test.YtfolanohokflkaaGreatDoorSpA
import Derived.Test.YtfolanohokflkaaGreatDoorPrI
import Derived.Lib.OthersKept
import Derived.Test.YtfolanohokflkaaGreatDoorProC
import Derived.WalkKit
import Derived.WalkSpells
import Derived.WalkLawsBesides
import Derived.WalkMore
import Derived.Deep.QuietTactic
import Derived.BigQuiet
namespace Go.Proofs.YtfolanohokflkaaGreatDoor
open Go.RowKit
theorem aac {w:World} {B B' e size n:Nat} {v:Value} {xs:List Value} (h:w.ownsRow B e size v n xs) (hB:B'<=B):w.ownsRow B' e size v n xs:=by
 obtain ⟨hl,hx | ⟨g,cap,cur,e1,hb,rest⟩⟩:=h
 ·exact ⟨hl,.inl hx⟩
 ·exact ⟨hl,.inr ⟨g,cap,cur,e1,by omega,rest⟩⟩
theorem Xi {w:World} {B e size n k:Nat} {v:Value} {xs:List Value} (h:w.ownsRow B e size v n xs) (hk:k<B) (s:ByteArray) (p:Nat):(w.iterAt k s p).ownsRow B e size v n xs:=
 BC h fun j hj _=>Lib.iterAt_other w k j s p (by have:=(h.lt j hj).1;omega)
theorem Lm {w:World} {k p:Nat} {s:ByteArray} (h:w.heap[k]? = some (.stringIter s p)):w.iterPos k=p:=by
 unfold World.iterPos
 rw [h]
theorem Xj {s:ByteArray} {pos:Nat} {acc:List Nat} (h:acc++qX s pos=pts s) (hp:pos<s.size):(acc++[pos])++qX s (pos+(Utf8.decode s pos).2)=pts s:=by
 rw [<-h,pX hp]
 simp
theorem aad {s:ByteArray} {pos:Nat} {acc:List Nat} (h:acc++qX s pos=pts s) (hp:¬ pos<s.size):acc++[s.size]=pts s:=by
 rw [<-h,pY (by omega)]
theorem qH (s:ByteArray):(pts s).length<=s.size+1:=by
 have:=qb s 0
 rw [Ap];omega
theorem aae {s:ByteArray} {pos:Nat} {acc:List Nat} (h:acc++qX s pos=pts s):acc.length<=s.size+1:=by
 have h1:=qH s
 rw [<-h,List.length_append] at h1
 omega
set_option maxRecDepth 100000 in
set_option maxHeartbeats 4000000 in
theorem Du (s:ByteArray) (w:World) (hs:s.size<=60) :
  Calls Tryz.prog 39 #[.string s] w fun e w'=>∃ g cap,e=.returned (.slice (some ⟨g,0,none⟩) (pts s).length cap)/\Hid (Below w.heap.size w w')/\Hid (w'.ownsRow w.heap.size 3 1 (.slice (some ⟨g,0,none⟩) (pts s).length cap) (pts s).length (ints (ay (pts s)))):=by
 go_enter Tryz.func39,Tryz.ntmps39
 go_wp2_with fail
 go_loopw [3] (fun v wr=>∃ (pos:Nat) (acc:List Nat) (ao:Option Addr) (cap:Nat),v=.slice ao acc.length cap/\Hid (wr.ownsRow (w.heap.size+1) 3 1 (.slice ao acc.length cap) acc.length (ints (ay acc)))/\wr.heap[w.heap.size]? = some (.stringIter s pos)/\Hid (Below w.heap.size w wr)/\Hid (acc++qX s pos=pts s)) (fun _ wr=>s.size - wr.iterPos w.heap.size)
 case atStart=>
  refine ⟨0,[],none,0,rfl,hide ⟨rfl,.inl ⟨rfl,rfl⟩⟩,?_,?_,hide rfl⟩
  ·have:=World.iter_heap w s 0
   simpa using this
  ·exact hide ((Below.refl _ w).alloc (Nat.le_refl _) _)
 case round=>
  obtain ⟨pos,acc,ao,cap,rfl,HO,hit,HB,HA⟩:=hrel
  have hlt:w.heap.size<wr.heap.size:=(Array.getElem?_eq_some_iff.1 hit).1
  have nR:=aae (aa HA)
  by_cases hp:pos<s.size
  ·have hnx:∀ ty,(Instr.next (.pointer (some ⟨w.heap.size,0,none⟩)) true ty).run Tryz.prog wr=_:=fun ty=>Lib.run_next_any_at wr w.heap.size s pos ty hit hp
   have hwd:=eG s pos hp
   have jh:=hide (Xi (aa HO) (k:=w.heap.size) (by omega) s (pos+(Utf8.decode s pos).2))
   have hit2:=Lib.iterAt_heap wr w.heap.size s pos (pos+(Utf8.decode s pos).2) hit
   have HB2:=hide (Lib.below_iterAt (aa HB) (k:=w.heap.size) (Nat.le_refl _) s (pos+(Utf8.decode s pos).2))
   have hsz2:(wr.iterAt w.heap.size s (pos+(Utf8.decode s pos).2)).heap.size=wr.heap.size:=by rw [Lib.iterAt_size]
   have hip:wr.iterPos w.heap.size=pos:=Lm hit
   have HA2:=hide (Xj (aa HA) hp)
   clear hit HO HB
   generalize hW2:wr.iterAt w.heap.size s (pos+(Utf8.decode s pos).2)=w2 at *
   go_wp2_with (at_builtin;refine jK Tryz.underlying31 gP rfl (by decide) (by decide) (w.heap.size+1) w2 w2 _ _ [.int .i64 (pos:Int)] _ (.tmp 10) (.tmp 12) rfl rfl rfl wr.heap.size hsz2 rfl jh (Below.refl _ _) (by omega) (by omega) rfl (by intro u hu;simp at hu;rw [hu];rfl) ?_;intro g5 cap5 w5 oM kz FM)
   go_roundw
   case rel=>
    refine ⟨pos+(Utf8.decode s pos).2,acc++[pos],some ⟨g5,0,none⟩,cap5,by simp,?_,((aa kz).block _ (by omega)).trans hit2,hide ((aa HB2).trans ((aa kz).mono (by omega))),HA2⟩
    have h:=aa oM
    show World.ownsRow _ _ _ _ _ _ _
    rw [List.length_append]
    simp only [ay,ints,List.map_append] at h ⊢
    exact h
   case measure=>
    have e:w5.iterPos w.heap.size=pos+(Utf8.decode s pos).2:=Lm (((aa kz).block _ (by omega)).trans hit2)
    rw [e,hip]
    omega
  ·have hnx:∀ ty,(Instr.next (.pointer (some ⟨w.heap.size,0,none⟩)) true ty).run Tryz.prog wr=_:=fun ty=>Lib.run_next_end_at wr w.heap.size s pos ty hit hp
   have HE:=hide (aad (aa HA) hp)
   clear hit
   go_wp2_with (at_builtin;refine jK Tryz.underlying31 gP rfl (by decide) (by decide) (w.heap.size+1) wr wr _ _ [.int .i64 (s.size:Int)] _ (.tmp 14) (.tmp 17) rfl rfl rfl wr.heap.size rfl rfl HO (Below.refl _ _) (by omega) (by omega) rfl (by intro u hu;simp at hu;rw [hu];rfl) ?_;intro g5 cap5 w5 oM kz FM)
   go_ret
   have e:=aa HE
   have h:=aa oM
   refine ⟨g5,cap5,?_,hide ((aa HB).trans ((aa kz).mono (by omega))),?_⟩
   ·rw [<-e];simp
   ·show World.ownsRow _ _ _ _ _ _ _
    rw [<-e,List.length_append]
    simp only [ay,ints,List.map_append] at h ⊢
    exact aac h (by omega)
theorem jE {w w':World} (h:Hid (Lib.Utf8Tabs 4 5 w)) (hb:Hid (Below w.heap.size w w')):Hid (Lib.Utf8Tabs 4 5 w'):=by
 have hlt:=lM (aa h)
 exact iE (aa h) ((aa hb).block 4 (by omega)) ((aa hb).block 5 (by omega))
theorem jF {w w1 w2:World} (h:Hid (Below w.heap.size w w1)) (k:Hid (Below w1.heap.size w1 w2)):Hid (Below w.heap.size w w2):=
 ⟨(aa k).os.trans (aa h).os,(aa k).tape.trans (aa h).tape,(aa k).output.trans (aa h).output,Nat.le_trans (aa h).size (aa k).size,fun i hi=>((aa k).block i (Nat.lt_of_lt_of_le hi (aa h).size)).trans ((aa h).block i hi)⟩
end Go.Proofs.YtfolanohokflkaaGreatDoor
