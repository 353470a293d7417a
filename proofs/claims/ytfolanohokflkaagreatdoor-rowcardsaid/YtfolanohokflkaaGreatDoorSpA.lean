import Derived.Test.YtfolanohokflkaaGreatDoorApB
import Derived.Test.YtfolanohokflkaaGreatDoorRpG
import Derived.WalkKit
import Derived.WalkSpells
import Derived.WalkLawsBesides
import Derived.WalkMore
import Derived.Deep.QuietTactic
import Derived.BigQuiet
namespace Go.Proofs.YtfolanohokflkaaGreatDoor
open Go.RowKit
def ay (l:List Nat):List Int:=List.map (fun (n:Nat)=>Int.ofNat n) l
theorem aM (l:List Nat):(ay l).length=l.length:=by simp [ay]
theorem iB (a b:List Nat):ay (a++b)=ay a++ay b:=by simp [ay]
section
variable {w:World} {t:TB} {T:List Te} {S C:List (Value×Value)}
set_option maxRecDepth 100000 in
set_option maxHeartbeats 4000000 in
theorem Cu {n:Nat} {k:Bool} {l:List Nat} (h:Hid (bf w t T (ak T) S C)) (hw:uL T) (hsp:kF T k n l) (hl:l.length<=1000000) :
  Calls Tryz.prog 153 #[.pointer (some ⟨t.tb,0,none⟩),.int .i64 (kk k),.int .i64 n] w fun e w'=>∃ g cap,e=.returned (.slice (some ⟨g,0,none⟩) l.length cap)/\Hid (w'.ownsRow w.heap.size 3 1 (.slice (some ⟨g,0,none⟩) l.length cap) l.length (ints (ay l)))/\Hid (Below w.heap.size w w'):=by
 have HW:=hide hw
 have aeF:Hid (∃ pre rest,l=pre++rest/\pre=[]/\kF T k n rest):=⟨[],l,rfl,rfl,hsp⟩
 clear hw hsp
 go_enter Tryz.func153,Tryz.ntmps153
 go_wp2_with fail
 go_loopw [7,2] (fun v i wr=>∃ (m:Nat) (pre rest:List Nat),i=.int .i64 (m:Int)/\Hid (l=pre++rest)/\Hid (kF T k m rest)/\Hid (wr.ownsRow w.heap.size 3 1 v (ay pre).length (ints (ay pre)))/\Hid (Below w.heap.size w wr)) (fun _ i _=>(intOf i).toNat)
 case atStart=>
  obtain ⟨pre,rest,e,rfl,hs⟩:=aa aeF
  exact ⟨n,[],rest,rfl,e,hs,World.ownsRow_nil _ _ _ _,Below.refl _ _⟩
 case round=>
  obtain ⟨m,pre,rest,rfl,HE,HS,HO,HB⟩:=hrel
  have hpre:(ay pre).length<=1000000:=by
   have:=congrArg List.length (aa HE)
   rw [List.length_append] at this
   rw [aM];omega
  have HT:=bf.below h (aa HB)
  have hs0:=aa HS
  clear HS
  cases hs0 with
  | @one m x hx hk=>
   obtain ⟨g,q2,c0,-⟩:=(aa HT).at hx
   have hlt:=(List.getElem?_eq_some_iff.1 hx).1
   have Yf:(m:Int)<(T.length:Int):=by omega
   have hi0:(0:Int)<=(m:Int):=by omega
   have hnk:(x.1.kd==kk k)=false:=by simpa using hk
   generalize x.1.kd=xk at *
   generalize kk k=kv at *
   clear hx hk HT
   have HL:Hid (l=pre++[m]):=HE
   go_wp2_with (at_builtin;refine OH w wr (ay pre) _ (m:Int) (.tmp 40) (.tmp 42) rfl rfl rfl rfl HO HB (by omega) ?_;intro v' w' jJ HB2)
   have hl2:(ay pre++[(m:Int)])=ay l:=by rw [aa HL,iB];rfl
   rw [hl2,aM] at jJ
   obtain ⟨ao,cap,rfl,hv⟩:=aO (aa jJ)
   obtain ⟨g',rfl,-⟩:=hv (by rw [aa HL];simp)
   go_ret
   exact ⟨g',cap,rfl,jJ,HB2⟩
  | @more m i j b l' hx hs=>
   obtain ⟨g,q2,c0,c1,c2,c3,c4⟩:=(aa HT).at hx
   have hlt:=(List.getElem?_eq_some_iff.1 hx).1
   have hij:=vz (aa HW) hx
   have Yf:(m:Int)<(T.length:Int):=by omega
   have hi0:(0:Int)<=(m:Int):=by omega
   dsimp only [cB] at c0 c1 c2 c3
   generalize hkv:kk k=kv at *
   have HS2:=hide hs
   have HX:=hide hx
   clear hs hx
   go_wp2_with (at_builtin;refine OH w wr (ay pre) _ (i:Int) (.tmp 19) (.tmp 29) rfl rfl rfl rfl HO HB (by omega) ?_;intro v' w' jJ HB2;obtain ⟨g2,p2,d0,d1,d2,d3,d4⟩:=(aa (bf.below h (aa HB2))).at (aa HX);dsimp only [cB] at d0 d1 d2 d3)
   go_roundw
   case rel=>
    refine ⟨j,pre++[i],l',rfl,?_,HS2,?_,HB2⟩
    ·show _=_
     rw [aa HE,List.append_assoc];rfl
    ·have e2:ay (pre++[i])=ay pre++[(i:Int)]:=by rw [iB];rfl
     show World.ownsRow _ _ _ _ _ _ _
     rw [e2];exact jJ
   case measure=>simp [intOf];omega
end
end Go.Proofs.YtfolanohokflkaaGreatDoor
