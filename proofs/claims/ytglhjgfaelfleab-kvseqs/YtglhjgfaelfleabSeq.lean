/-
  The two iterators: bytesOf yields the bytes of a number, bytesAhead the bytes that a number may have; whoever goes over them may stop at any.
-/
import Derived.Test.YtglhjgfaelfleabRefInt
import Derived.Test.YtglhjgfaelfleabBits
import Derived.RangeFuncNested
import Derived.RangeFuncBound
import Derived.RangeFuncCalls
import Derived.RangeFuncLeaves
import Derived.RangeFuncBox
import Derived.Shelf.Abstract
import Derived.Shelf.RegionOpen
import Derived.WalkKit
import Derived.OwnWalkIn
import Derived.TacticsInMore
import Derived.LoopNIn
import Derived.LoopIn
import Derived.Maps.AppendAt
namespace Go.Proofs.Ytglhjgfaelfleab
open Go.RowKit Go.Shelf
attribute [local go_sem] Oper.semAt_some

set_option maxRecDepth 100000 in
set_option maxHeartbeats 1000000 in
theorem bytesOf1_in (n : Nat) (hn : 1 ≤ n) (l Bn n₀ m : Nat) (hm : m ≤ 4611686018427387904) (J Jx : List UInt8 → World → Prop)
    (hY : ∀ pre x W, J pre W → pre.length < (numB m).length → YieldAt Fence.wide (n - 1) Try.prog l #[encB x] W fun e W' =>
      (e = .returned (.bool true) ∧ J (pre ++ [x]) W' ∧ Below n₀ W W') ∨ (e = .returned (.bool false) ∧ Jx (pre ++ [x]) W'))
    (W : World) (hBn : W.cell? ⟨Bn, 0, none⟩ = some (.int .i64 (m : Int))) (h0 : J [] W) :
    CallsIn Fence.wide n Try.prog 65 #[.func (.yield l) #[] #[], .pointer (some ⟨Bn, 0, none⟩)] W fun e W' => (∃ v, e = .returned v) ∧
      ((∃ ys, ys = numB m ∧ J ys W') ∨ (∃ pre, pre <+: numB m ∧ Jx pre W')) := by
  refine callsIn_of_wp Try.func65 rfl trivial ?_ rfl
  simp only [Try.ntmps65, List.size_toArray, List.length_cons, List.length_nil, Nat.reduceAdd, Nat.reduceSub, Array.replicate_succ, Array.replicate_zero, List.push_toArray, List.append_toArray, List.nil_append, List.cons_append]
  gi_wp2
  gi_loopw [3] (fun p wr => ∃ (f q : Nat) (pre : List UInt8), p = .int .i64 (q : Int) ∧ q < 128 ^ (f + 1) ∧ q ≤ 4611686018427387904 ∧ pre ++ num f q = numB m ∧ J pre wr)
    (fun p _ => (intOf p).toNat)
  case atStart =>
    exact ⟨9, m, [], rfl, by have : (128:Nat)^10 = 1180591620717411303424 := by decide
                             omega, hm, rfl, h0⟩
  case round =>
    obtain ⟨f, q, pre, rfl, hq, hq2, hx, hJs⟩ := hrel
    have HQ : Hid (q < 128 ^ (f + 1)) := hq
    have HX : Hid (pre ++ num f q = numB m) := hx
    clear hq hx
    by_cases hlt : 128 ≤ q
    · have hlen : pre.length < (numB m).length := by rw [← HX.out]; have := num_len_pos f q; simp; omega
      obtain ⟨fn, tmps, assign, body, hy, hR⟩ := hY pre (UInt8.ofNat (q % 128 + 128)) wr hJs hlen
      clear hlen
      rw [show encB (UInt8.ofNat (q % 128 + 128)) = .int .u8 ((q : Int) % 128 + 128) by rw [← u8_hi]; simp] at hy
      have hor := or128 q
      gi_wp2
      refine hR.mono ?_
      rintro e W3 (⟨rfl, hJ3, hk3⟩ | ⟨rfl, hJx3⟩)
      · clear hor hy hR
        gi_wp2
        go_roundw
        case rel =>
          cases f with
          | zero => have := HQ.out; simp at this; omega
          | succ f =>
            refine ⟨f, q / 128, _, ?_, ?_, by omega, ?_, hJ3⟩
            · go_num
            · have := HQ.out; rw [Nat.pow_succ] at this; omega
            · have := HX.out; rw [num_ge hlt] at this; simpa using this
        case measure => simp [intOf]; omega
      · clear hor hy hR
        gi_wp2
        refine bodyPost_ret (results_none rfl _ _ _) rfl ?_
        refine ⟨⟨_, rfl⟩, .inr ⟨_, ?_, hJx3⟩⟩
        cases f with
        | zero => have := HQ.out; simp at this; omega
        | succ f => have := HX.out; rw [num_ge hlt] at this; exact ⟨num f (q / 128), by simpa using this⟩
    · have hlen : pre.length < (numB m).length := by rw [← HX.out]; have := num_len_pos f q; simp; omega
      obtain ⟨fn, tmps, assign, body, hy, hR⟩ := hY pre (UInt8.ofNat q) wr hJs hlen
      clear hlen
      rw [← u8_lo q (by omega)] at hy
      have HE : Hid (pre ++ [UInt8.ofNat q] = numB m) := by have := HX.out; rw [num_lt (by omega)] at this; exact this
      gi_wp2
      refine hR.mono ?_
      rintro e W3 (⟨rfl, hJ3, hk3⟩ | ⟨rfl, hJx3⟩)
      · clear hy hR
        gi_wp2
        go_end0
        exact ⟨⟨_, rfl⟩, .inl ⟨_, HE.out, hJ3⟩⟩
      · clear hy hR
        gi_wp2
        go_end0
        exact ⟨⟨_, rfl⟩, .inr ⟨_, by rw [HE.out]; exact List.prefix_refl _, hJx3⟩⟩

set_option maxHeartbeats 1000000 in
theorem bytesOf_in (n : Nat) (m : Int) (w : World) :
    CallsIn Fence.wide n Try.prog 55 #[.int .i64 m] w fun e w' => e = .returned (.func (.func 65) #[] #[.pointer (some ⟨w.heap.size, 0, none⟩)]) ∧ w' = w.alloc (.cells #[.int .i64 m] 3) := by
  refine callsIn_of_wp Try.func55 rfl trivial ?_ rfl
  simp only [Try.ntmps55, List.size_toArray, List.length_cons, List.length_nil, Nat.reduceAdd, Nat.reduceSub, Array.replicate_succ, Array.replicate_zero, List.push_toArray, List.append_toArray, List.nil_append, List.cons_append]
  gi_wp2
  go_ret
  exact ⟨rfl, rfl⟩

theorem bytesOf_stops (n : Nat) (hn : 1 ≤ n) (Bn n₀ m : Nat) (hm : m ≤ 4611686018427387904) (w : World) (hBn : Bn < w.heap.size)
    (hc : w.cell? ⟨Bn, 0, none⟩ = some (.int .i64 (m : Int))) :
    SeqStopsK Fence.wide n Try.prog 65 #[.pointer (some ⟨Bn, 0, none⟩)] (fun x : UInt8 => #[encB x]) (Below n₀) (fun ys => ys = numB m) (fun pre => pre <+: numB m) (numB m).length w := fun l J Jx W hW _ _ hY h0 =>
  bytesOf1_in n hn l Bn n₀ m hm J Jx hY W ((hW.cell (p := ⟨Bn, 0, none⟩) hBn).trans hc) h0
end Go.Proofs.Ytglhjgfaelfleab
