import Derived.Test.YtfolanohokflkaaGreatDoorSpec
import Derived.Lib.DecodeN
import Derived.Shelf.Unicode.DecodeSlow
namespace Go.Proofs.YtfolanohokflkaaGreatDoor

theorem get_data (s : ByteArray) (k : Nat) : s.get! k = s.data[k]! := by cases s; rfl
theorem get_extract (s : ByteArray) (p k : Nat) : (s.extract p s.size).get! k = s.get! (p + k) := by
  rw [get_data, get_data, ByteArray.data_extract]
  have hs : s.size = s.data.size := rfl
  by_cases h : p + k < s.data.size
  · have h1 : k < (s.data.extract p s.size).size := by simp; omega
    rw [getElem!_pos (s.data.extract p s.size) k h1, getElem!_pos s.data (p + k) h]; simp
  · have h1 : ¬ k < (s.data.extract p s.size).size := by simp; omega
    rw [getElem!_neg (s.data.extract p s.size) k h1, getElem!_neg s.data (p + k) h]

theorem decode_extract (s : ByteArray) (p : Nat) : Utf8.decode (s.extract p s.size) 0 = Utf8.decode s p := by
  rw [Lib.decode_at, Lib.decode_at]
  simp only [get_extract, Nat.add_zero, Nat.zero_add, Nat.sub_zero]
  have : (s.extract p s.size).size = s.size - p := by simp
  rw [this]
theorem decodeGo_at (s : ByteArray) (p : Nat) (h : p < s.size) : Lib.decodeGo (s.extract p s.size) = Utf8.decode s p := by
  have : (s.extract p s.size).size = s.size - p := by simp
  rw [Lib.decodeGo, if_neg (by omega), decode_extract]
theorem decodeGo_end (s : ByteArray) : Lib.decodeGo (s.extract s.size s.size) = (65533, 0) := by
  have : (s.extract s.size s.size).size = 0 := by simp
  rw [Lib.decodeGo, if_pos this]
end Go.Proofs.YtfolanohokflkaaGreatDoor
