/-
  What a frame's bytes are read as: there and back.
-/
import Derived.Test.YthhnjiodfbckcaaGet
namespace Go.Proofs.Ythhnjiodfbckcaa

theorem getFront_frame (p m : List UInt8) (hp : p.length ≤ 1048576) : getFront (frameB p ++ m) = (p, 8 + p.length, 0) := by
  have hw : word4 (frameB p ++ m) = p.length := by
    unfold frameB
    rw [List.append_assoc]
    exact word4_le4 _ (by omega) _
  have hd4 : (frameB p ++ m).drop 4 = le4 (crc (le4 p.length ++ p)) ++ (p ++ m) := by
    unfold frameB
    rw [List.append_assoc, List.drop_append_of_le_length (by rw [le4_len]; omega), List.drop_of_length_le (by rw [le4_len]; omega), List.nil_append, List.append_assoc]
  have hd8 : (frameB p ++ m).drop 8 = p ++ m := by
    rw [show (8 : Nat) = 4 + 4 from rfl, ← List.drop_drop, hd4, List.drop_append_of_le_length (by rw [le4_len]; omega), List.drop_of_length_le (by rw [le4_len]; omega), List.nil_append]
  have ht4 : (frameB p ++ m).take 4 = le4 p.length := by
    unfold frameB
    rw [List.append_assoc, List.take_append_of_le_length (by rw [le4_len]; omega), List.take_of_length_le (by rw [le4_len]; omega)]
  have hlen : (frameB p ++ m).length = 8 + p.length + m.length := by rw [List.length_append, frameB_len]
  unfold getFront
  rw [hw, hd4, hd8, ht4, hlen, word4_le4 _ (crc_lt _), List.take_left]
  rw [if_neg (by omega), if_neg (by omega), if_neg (by omega), if_neg (by simp)]

theorem oneOf_frame (p : List UInt8) (hp : p.length ≤ 1048576) : oneOf (frameB p) = (p, 0) := by
  have h : getAt (frameB p) 0 = (p, 8 + p.length, 0) := by
    unfold getAt
    rw [if_neg (by omega)]
    have := getFront_frame p [] hp
    simpa using this
  unfold oneOf
  rw [h]
  simp only
  rw [if_neg (by rw [frameB_len]; omega)]

theorem oneOf_nil : oneOf [] = ([], 2) := by decide +kernel

end Go.Proofs.Ythhnjiodfbckcaa
