import Derived.Test.YtfolanohokflkaaGreatDoorProg
import Derived.Test.YtfolanohokflkaaGreatDoorPure
import Derived.WalkKit
import Derived.WalkSpells
import Derived.WalkLawsBesides
namespace Go.Proofs.YtfolanohokflkaaGreatDoor
open Go.RowKit

theorem hide {p : Prop} (h : p) : Hid p := h
theorem unhide {p : Prop} (h : Hid p) : p := h
set_option maxHeartbeats 400000 in
theorem refCapped_any (n : Int) (w : World) :
    Calls Tryz.prog 244 #[.int .i64 n] w fun e w' => e = .returned (.int .i64 (cap61 n)) ∧ w = w' := by
  by_cases h : 60 < n
  · go_enter Tryz.func244, Tryz.ntmps244
    go_wp2
    go_ret
    exact ⟨by simp [cap61, h], rfl⟩
  · go_enter Tryz.func244, Tryz.ntmps244
    go_wp2
    go_ret
    exact ⟨by rw [cap61, if_neg (by omega)]; rfl, rfl⟩

set_option maxHeartbeats 400000 in
theorem refIsSymbol_any (n : Int) (w : World) :
    Calls Tryz.prog 242 #[.int .i64 n] w fun e w' => e = .returned (.bool (isSym n)) ∧ w = w' := by
  by_cases h0 : 0 ≤ n
  · by_cases h1 : n ≤ 1114111
    · by_cases h2 : n < 55296
      · go_enter Tryz.func242, Tryz.ntmps242
        go_wp2
        go_ret
        exact ⟨by simp [isSym]; omega, rfl⟩
      · by_cases h3 : 57343 < n
        · go_enter Tryz.func242, Tryz.ntmps242
          go_wp2
          go_ret
          exact ⟨by simp [isSym]; omega, rfl⟩
        · go_enter Tryz.func242, Tryz.ntmps242
          go_wp2
          go_ret
          exact ⟨by simp [isSym]; omega, rfl⟩
    · go_enter Tryz.func242, Tryz.ntmps242
      go_wp2
      go_ret
      exact ⟨by simp [isSym]; omega, rfl⟩
  · go_enter Tryz.func242, Tryz.ntmps242
    go_wp2
    go_ret
    exact ⟨by simp [isSym]; omega, rfl⟩

theorem ret_int {k : IntKind} {a b : Int} (h : a = b) : Ending.returned (.int k a) = .returned (.int k b) := by rw [h]
theorem ret_bool {a b : Bool} (h : a = b) : Ending.returned (.bool a) = .returned (.bool b) := by rw [h]

set_option maxHeartbeats 400000 in
theorem refAmong_any (c : Int) (s : ByteArray) (w : World) (hs : s.size ≤ maxLen) :
    Calls Tryz.prog 206 #[.int .i64 c, .string s] w fun e w' => e = .returned (.bool (amongL c s.data.toList)) ∧ w = w' := by
  unfold maxLen at hs
  go_enter Tryz.func206, Tryz.ntmps206
  go_wp2
  go_loop [5] (fun i => ∃ k : Nat, k ≤ s.size ∧ i = .int .i64 k ∧ amongL c (s.data.toList.take k) = false) (fun i => s.size - (intOf i).toNat)
  case atStart => exact ⟨0, Nat.zero_le _, rfl, rfl⟩
  case round =>
    obtain ⟨k, hk, rfl, hno⟩ := hrel
    have HN := hide hno
    clear hno
    by_cases hlt : k < s.size
    · have hsn := amongL_snoc c (s.data.toList.take k) s[k]
      rw [← take_snoc s k hlt] at hsn
      have HS := hide hsn
      clear hsn
      have hap : amongL c s.data.toList = (amongL c (s.data.toList.take (k + 1)) || amongL c (s.data.toList.drop (k + 1))) := by
        rw [← amongL_append, List.take_append_drop]
      have HA := hide hap
      clear hap
      have hb : (s[k].toNat : Int) < 256 := by have := s[k].toNat_lt; omega
      by_cases he : (s[k].toNat : Int) = c
      · have he' : ((s[k].toNat : Int) == c) = true := by simp [he]
        have HE := hide he
        clear he
        go_wp2
        go_ret
        refine ⟨ret_bool ?_, rfl⟩
        rw [unhide HA, unhide HS, he']; simp
      · have he' : ((s[k].toNat : Int) == c) = false := by simp [he]
        have HE := hide he
        clear he
        go_wp2
        go_round
        case rel => exact ⟨k + 1, by omega, by go_num, by rw [unhide HS, unhide HN, he']; rfl⟩
        case measure => simp [intOf]; omega
    · go_wp2
      go_ret
      refine ⟨ret_bool ?_, rfl⟩
      rw [← unhide HN, List.take_of_length_le (by simp; omega)]
end Go.Proofs.YtfolanohokflkaaGreatDoor
