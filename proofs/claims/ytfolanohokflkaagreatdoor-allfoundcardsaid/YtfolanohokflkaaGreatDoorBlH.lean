import Derived.Test.YtfolanohokflkaaGreatDoorProC
import Derived.WalkKit
import Derived.WalkSpells
import Derived.WalkLawsBesides
import Derived.WalkMore
import Derived.Deep.QuietTactic
import Derived.BigQuiet
namespace Go.Proofs.YtfolanohokflkaaGreatDoor
open Go.RowKit
def xC (s:ByteArray) (n:Nat):ByteArray:=if n<s.size then s.extract 0 n else s
theorem Xo (s:ByteArray) (n:Nat):(xC s n).size<=n:=by
 unfold xC
 split
 ·simp [ByteArray.size_extract];omega
 ·omega
set_option maxRecDepth 100000 in
set_option maxHeartbeats 4000000 in
theorem aag {w:World} {s:ByteArray} {n:Nat} (hn:n<=60) :
  Calls Tryz.prog 18 #[.string s,.int .i64 (n:Int)] w fun x w'=>x=.returned (.string (xC s n))/\w'=w:=by
 unfold xC
 by_cases h:n<s.size
 ·rw [if_pos h]
  have h':(n:Int)<(s.size:Int):=by omega
  go_enter Tryz.func18,Tryz.ntmps18
  go_wp2_with fail
  go_ret
  exact ⟨by simp,rfl⟩
 ·rw [if_neg h]
  have h':¬ (n:Int)<(s.size:Int):=by omega
  go_enter Tryz.func18,Tryz.ntmps18
  go_wp2_with fail
  go_ret
  exact ⟨rfl,rfl⟩
end Go.Proofs.YtfolanohokflkaaGreatDoor
