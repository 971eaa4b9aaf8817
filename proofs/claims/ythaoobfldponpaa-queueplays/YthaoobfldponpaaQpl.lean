/-
  QueuePlays: the walk of the law.
-/
import Derived.Test.YthaoobfldponpaaDa
import Derived.Test.YthaoobfldponpaaOp
namespace Go.Proofs.Ythaoobfldponpaa
open Go.RowKit
set_option linter.unusedVariables false

set_option maxRecDepth 100000 in
set_option maxHeartbeats 20000000 in
theorem queuePlays_good (R1 R2 : Nat) (hR1 : 1 ≤ R1) (hR2 : R1 ≤ 64) (hS1 : 1 ≤ R2) (hS2 : R2 ≤ 64) (a : Option Addr) (ca : Nat) (l : List Opn) (w : World) (hl : OpsAt w.heap.size w a l) :
    Calls Try.prog 3 #[.int .i64 (R1 : Int), .int .i64 (R2 : Int), .slice a l.length ca] w fun e w' => e = .returned (.bool true) ∧ Below w.heap.size w w' := by
  have HL : Hid (OpsAt w.heap.size w a l) := hl
  have k1 : (1 : Int) ≤ (R1 : Int) := by omega
  have k2 : (R1 : Int) ≤ 64 := by omega
  have k3 : (1 : Int) ≤ (R2 : Int) := by omega
  have k4 : (R2 : Int) ≤ 64 := by omega
  clear hl
  go_enter Try.func3, Try.ntmps3
  go_wp2_with fail
  refine (first_any w).mono ?_
  rintro e w1 ⟨rfl, hB1⟩
  have HB1 : Hid (Below w.heap.size w w1) := hB1
  clear hB1
  go_wp2_with fail
  refine (new_any R1 w1 hR1 hR2).mono ?_
  rintro e w2 ⟨rfl, hw2⟩
  have HP2 : Hid (Qu w.heap.size (fun i => i = w1.heap.size) w2 w1.heap.size R1 []) := by rw [hw2]; exact new_qu w.heap.size R1 w1 HB1.out.size hR2
  have HB2 : Hid (Below w.heap.size w w2) := by rw [hw2]; exact HB1.out.alloc HB1.out.size _
  have HZ2 : Hid (w2.heap.size = w1.heap.size + 1) := by show _ = _; rw [hw2]; simp
  clear hw2 HB1
  go_wp2_with fail
  refine (new_any R2 w2 hS1 hS2).mono ?_
  rintro e w3 ⟨rfl, hw3⟩
  have HQ3 : Hid (Qp w.heap.size (fun i => i = w1.heap.size) (fun i => i = w2.heap.size) w3 w1.heap.size R1 w2.heap.size R2 [] [] (.slice none 0 0) (.slice none 0 0)) := by
    rw [hw3]
    exact ⟨⟨HP2.out.below ((Below.refl _ w2).alloc (Nat.le_refl _) _), new_qu w.heap.size R2 w2 HB2.out.size hS2, fun i h1 h2 => by have := HZ2.out; omega⟩, Ow.nil _ _, Ow.nil _ _, fun g hg => by simp [Value.ownBlock] at hg, fun g hg => by simp [Value.ownBlock] at hg⟩
  have HB3 : Hid (Below w.heap.size w w3) := by rw [hw3]; exact HB2.out.alloc HB2.out.size _
  clear hw3 HP2 HB2 HZ2
  generalize w1.heap.size = bp at *
  generalize w2.heap.size = bq at *
  by_cases hlen : 400 < l.length
  · have hg : decide ((400 : Int) < (l.length : Int)) = true := by simp; omega
    clear hlen
    go_wp2
    go_ret
    exact ⟨rfl, HB3.out⟩
  have hg : decide ((400 : Int) < (l.length : Int)) = false := by simp; omega
  go_wp2
  go_loopw [12, 13, 14] (fun va vb iv wr => ∃ (i : Nat) (T T' : Nat → Prop) (la lb : List Int), iv = .int .i64 (i : Int) ∧ i ≤ l.length ∧ Qp w.heap.size T T' wr bp R1 bq R2 la lb va vb ∧ Below w.heap.size w wr) (fun _ _ iv _ => l.length - (intOf iv).toNat)
  case atStart => exact ⟨0, _, _, [], [], rfl, Nat.zero_le _, HQ3.out, HB3.out⟩
  case round =>
    obtain ⟨i, T, T', la, lb, rfl, hi, hQ, hB⟩ := hrel
    by_cases hnl : l.length ≤ i
    · have hil' : decide ((i : Int) < (l.length : Int)) = false := by simp; omega
      have HB : Hid (Below w.heap.size w wr) := hB
      clear hQ hB
      go_wp2
      go_ret
      exact ⟨rfl, HB.out⟩
    have hil : i < l.length := by omega
    have hil' : (i : Int) < (l.length : Int) := by omega
    have hi0 : (0 : Int) ≤ (i : Int) := by omega
    have HQ : Hid (Qp w.heap.size T T' wr bp R1 bq R2 la lb _ _) := hQ
    have HB : Hid (Below w.heap.size w wr) := hB
    clear hQ hB HQ3 HB3
    generalize wr = wp at *
    obtain ⟨b0, o0, rfl, hb0, ho0⟩ := HL.out.at hil
    have HO : Hid (OpAt w b0 (o0 + i * 3) (l.getD i nilOp)) := ho0
    generalize l.getD i nilOp = op at *
    obtain ⟨kd0, n0, ln0⟩ := op
    clear ho0
    obtain ⟨⟨e0, e1, e2⟩, -⟩ := HO.out.below hb0 HB.out
    simp only at e0 e1 e2
    obtain ⟨va, ac, rfl, -, -⟩ := HQ.out.ra.shape
    obtain ⟨vb, bc, rfl, -, -⟩ := HQ.out.rb.shape
    by_cases hln : ln0.tmod 2 = 0
    · have hln1 : (ln0.tmod 2 == 0) = true := by simpa using hln
      have HD : Hid (Calls _ _ _ _ _) := does_any HQ.out HB.out.size kd0 n0 ln0
      clear hln
      go_wp2_with fail
      refine HD.out.mono ?_
      rintro e w4 ⟨v1, v2, T1, T1', rfl, hQ4, hB4⟩
      
      obtain ⟨a1, c1, rfl, -, -⟩ := hQ4.ra.shape
      obtain ⟨a2, c2, rfl, -, -⟩ := hQ4.rb.shape
      
      
      have HB4 : Hid (Below w.heap.size w w4) := HB.out.trans hB4
      have HQ4 : Hid (Qp w.heap.size T1 T1' w4 bp R1 bq R2 _ _ _ _) := hQ4
      clear hQ4 hB4 HD e0 e1 e2 
      generalize (doL R2 R1 la lb kd0 n0).1 = l1 at *
      generalize (doL R2 R1 la lb kd0 n0).2 = l2 at *
      go_wp2_with fail
      refine (is_any HQ4.out.qq.p a1 c1 (HQ4.out.ra.sl (Nat.le_refl _))).mono ?_
      rintro e w5 ⟨rfl, hB5⟩
      have HQ5 : Hid (Qp w.heap.size _ _ w5 bp R1 bq R2 l1 l2 _ _) := HQ4.out.below hB5
      have HB5 : Hid (Below w.heap.size w w5) := HB4.out.trans (hB5.mono HB4.out.size)
      clear hB5 HB4 HQ4
      go_wp2_with fail
      refine (is_any HQ5.out.qq.q a2 c2 (HQ5.out.rb.sl (Nat.le_refl _))).mono ?_
      rintro e w6 ⟨rfl, hB6⟩
      have HQ6 : Hid (Qp w.heap.size _ _ w6 bp R1 bq R2 l1 l2 _ _) := HQ5.out.below hB6
      have HB6 : Hid (Below w.heap.size w w6) := HB5.out.trans (hB6.mono HB5.out.size)
      clear hB6 HB5 HQ5
      go_wp2
      exact ⟨⟨i + 1, _, _, _, _, by go_num, by omega, HQ6.out, HB6.out⟩, by simp [intOf]; omega⟩
    · have hln1 : (ln0.tmod 2 == 0) = false := by simpa using hln
      have HD : Hid (Calls _ _ _ _ _) := does_any HQ.out.swap HB.out.size kd0 n0 ln0
      clear hln
      go_wp2_with fail
      refine HD.out.mono ?_
      rintro e w4 ⟨v1, v2, T1, T1', rfl, hQ40, hB4⟩
      have hQ4 := hQ40.swap
      obtain ⟨a1, c1, hv2, -, -⟩ := hQ4.ra.shape
      obtain ⟨a2, c2, hv1, -, -⟩ := hQ4.rb.shape
      subst hv1
      subst hv2
      have HB4 : Hid (Below w.heap.size w w4) := HB.out.trans hB4
      have HQ4 : Hid (Qp w.heap.size T1' T1 w4 bp R1 bq R2 _ _ _ _) := hQ4
      clear hQ4 hB4 HD e0 e1 e2 hQ40
      generalize (doL R1 R2 lb la kd0 n0).1 = l2 at *
      generalize (doL R1 R2 lb la kd0 n0).2 = l1 at *
      go_wp2_with fail
      refine (is_any HQ4.out.qq.p a1 c1 (HQ4.out.ra.sl (Nat.le_refl _))).mono ?_
      rintro e w5 ⟨rfl, hB5⟩
      have HQ5 : Hid (Qp w.heap.size _ _ w5 bp R1 bq R2 l1 l2 _ _) := HQ4.out.below hB5
      have HB5 : Hid (Below w.heap.size w w5) := HB4.out.trans (hB5.mono HB4.out.size)
      clear hB5 HB4 HQ4
      go_wp2_with fail
      refine (is_any HQ5.out.qq.q a2 c2 (HQ5.out.rb.sl (Nat.le_refl _))).mono ?_
      rintro e w6 ⟨rfl, hB6⟩
      have HQ6 : Hid (Qp w.heap.size _ _ w6 bp R1 bq R2 l1 l2 _ _) := HQ5.out.below hB6
      have HB6 : Hid (Below w.heap.size w w6) := HB5.out.trans (hB6.mono HB5.out.size)
      clear hB6 HB5 HQ5
      go_wp2
      exact ⟨⟨i + 1, _, _, _, _, by go_num, by omega, HQ6.out, HB6.out⟩, by simp [intOf]; omega⟩

set_option maxRecDepth 100000 in
set_option maxHeartbeats 20000000 in
theorem queuePlays_walk (room : Int) (hr : In64 room) (other : Int) (hr2 : In64 other) (a : Option Addr) (ca : Nat) (l : List Opn) (w : World) (hl : OpsAt w.heap.size w a l) (hll : l.length ≤ 9223372036854775807) :
    Calls Try.prog 3 #[.int .i64 room, .int .i64 other, .slice a l.length ca] w fun e w' => e = .returned (.bool true) ∧ Below w.heap.size w w' := by
  clear hr hr2
  rcases (show room < 1 ∨ 64 < room ∨ (1 ≤ room ∧ room ≤ 64) by omega) with h1 | h1 | h1
  · rcases (show other < 1 ∨ 64 < other ∨ (1 ≤ other ∧ other ≤ 64) by omega) with h2 | h2 | h2
    · have froom1 : decide (1 ≤ room) = false := by simp; omega
      have froom1i : ¬ 1 ≤ room := by omega
      have fother1 : decide (1 ≤ other) = false := by simp; omega
      have fother1i : ¬ 1 ≤ other := by omega
      go_enter Try.func3, Try.ntmps3
      go_wp2_with fail
      refine (first_any w).mono ?_
      rintro e w1 ⟨rfl, hB1⟩
      have HBw1 : Hid (Below w.heap.size w w1) := hB1
      clear hB1
      go_wp2_with fail
      refine (new_none room w1 (by simp; omega)).mono ?_
      rintro e w2 ⟨rfl, hw2⟩
      have HBw2 : Hid (Below w.heap.size w w2) := by rw [hw2]; exact HBw1.out
      clear hw2
      go_wp2_with fail
      refine (new_none other w2 (by simp; omega)).mono ?_
      rintro e w3 ⟨rfl, hw3⟩
      have HBw3 : Hid (Below w.heap.size w w3) := by rw [hw3]; exact HBw2.out
      clear hw3
      go_wp2
      go_ret
      exact ⟨rfl, HBw3.out⟩
    · have froom1 : decide (1 ≤ room) = false := by simp; omega
      have froom1i : ¬ 1 ≤ room := by omega
      have fother1 : 1 ≤ other := by omega
      have fother2 : decide (other ≤ 64) = false := by simp; omega
      have fother2i : ¬ other ≤ 64 := by omega
      go_enter Try.func3, Try.ntmps3
      go_wp2_with fail
      refine (first_any w).mono ?_
      rintro e w1 ⟨rfl, hB1⟩
      have HBw1 : Hid (Below w.heap.size w w1) := hB1
      clear hB1
      go_wp2_with fail
      refine (new_none room w1 (by simp; omega)).mono ?_
      rintro e w2 ⟨rfl, hw2⟩
      have HBw2 : Hid (Below w.heap.size w w2) := by rw [hw2]; exact HBw1.out
      clear hw2
      go_wp2_with fail
      refine (new_none other w2 (by simp; omega)).mono ?_
      rintro e w3 ⟨rfl, hw3⟩
      have HBw3 : Hid (Below w.heap.size w w3) := by rw [hw3]; exact HBw2.out
      clear hw3
      go_wp2
      go_ret
      exact ⟨rfl, HBw3.out⟩
    · obtain ⟨Zother, hZother⟩ : ∃ Z : Nat, other = (Z : Int) := ⟨other.toNat, by omega⟩
      subst hZother
      have froom1 : decide (1 ≤ room) = false := by simp; omega
      have froom1i : ¬ 1 ≤ room := by omega
      have fother1 : 1 ≤ (Zother : Int) := by omega
      have fother2 : (Zother : Int) ≤ 64 := by omega
      go_enter Try.func3, Try.ntmps3
      go_wp2_with fail
      refine (first_any w).mono ?_
      rintro e w1 ⟨rfl, hB1⟩
      have HBw1 : Hid (Below w.heap.size w w1) := hB1
      clear hB1
      go_wp2_with fail
      refine (new_none room w1 (by simp; omega)).mono ?_
      rintro e w2 ⟨rfl, hw2⟩
      have HBw2 : Hid (Below w.heap.size w w2) := by rw [hw2]; exact HBw1.out
      clear hw2
      go_wp2_with fail
      refine (new_any Zother w2 (by omega) (by omega)).mono ?_
      rintro e w3 ⟨rfl, hw3⟩
      have HBw3 : Hid (Below w.heap.size w w3) := by rw [hw3]; exact HBw2.out.alloc HBw2.out.size _
      clear hw3
      go_wp2
      go_ret
      exact ⟨rfl, HBw3.out⟩
  · rcases (show other < 1 ∨ 64 < other ∨ (1 ≤ other ∧ other ≤ 64) by omega) with h2 | h2 | h2
    · have froom1 : 1 ≤ room := by omega
      have froom2 : decide (room ≤ 64) = false := by simp; omega
      have froom2i : ¬ room ≤ 64 := by omega
      have fother1 : decide (1 ≤ other) = false := by simp; omega
      have fother1i : ¬ 1 ≤ other := by omega
      go_enter Try.func3, Try.ntmps3
      go_wp2_with fail
      refine (first_any w).mono ?_
      rintro e w1 ⟨rfl, hB1⟩
      have HBw1 : Hid (Below w.heap.size w w1) := hB1
      clear hB1
      go_wp2_with fail
      refine (new_none room w1 (by simp; omega)).mono ?_
      rintro e w2 ⟨rfl, hw2⟩
      have HBw2 : Hid (Below w.heap.size w w2) := by rw [hw2]; exact HBw1.out
      clear hw2
      go_wp2_with fail
      refine (new_none other w2 (by simp; omega)).mono ?_
      rintro e w3 ⟨rfl, hw3⟩
      have HBw3 : Hid (Below w.heap.size w w3) := by rw [hw3]; exact HBw2.out
      clear hw3
      go_wp2
      go_ret
      exact ⟨rfl, HBw3.out⟩
    · have froom1 : 1 ≤ room := by omega
      have froom2 : decide (room ≤ 64) = false := by simp; omega
      have froom2i : ¬ room ≤ 64 := by omega
      have fother1 : 1 ≤ other := by omega
      have fother2 : decide (other ≤ 64) = false := by simp; omega
      have fother2i : ¬ other ≤ 64 := by omega
      go_enter Try.func3, Try.ntmps3
      go_wp2_with fail
      refine (first_any w).mono ?_
      rintro e w1 ⟨rfl, hB1⟩
      have HBw1 : Hid (Below w.heap.size w w1) := hB1
      clear hB1
      go_wp2_with fail
      refine (new_none room w1 (by simp; omega)).mono ?_
      rintro e w2 ⟨rfl, hw2⟩
      have HBw2 : Hid (Below w.heap.size w w2) := by rw [hw2]; exact HBw1.out
      clear hw2
      go_wp2_with fail
      refine (new_none other w2 (by simp; omega)).mono ?_
      rintro e w3 ⟨rfl, hw3⟩
      have HBw3 : Hid (Below w.heap.size w w3) := by rw [hw3]; exact HBw2.out
      clear hw3
      go_wp2
      go_ret
      exact ⟨rfl, HBw3.out⟩
    · obtain ⟨Zother, hZother⟩ : ∃ Z : Nat, other = (Z : Int) := ⟨other.toNat, by omega⟩
      subst hZother
      have froom1 : 1 ≤ room := by omega
      have froom2 : decide (room ≤ 64) = false := by simp; omega
      have froom2i : ¬ room ≤ 64 := by omega
      have fother1 : 1 ≤ (Zother : Int) := by omega
      have fother2 : (Zother : Int) ≤ 64 := by omega
      go_enter Try.func3, Try.ntmps3
      go_wp2_with fail
      refine (first_any w).mono ?_
      rintro e w1 ⟨rfl, hB1⟩
      have HBw1 : Hid (Below w.heap.size w w1) := hB1
      clear hB1
      go_wp2_with fail
      refine (new_none room w1 (by simp; omega)).mono ?_
      rintro e w2 ⟨rfl, hw2⟩
      have HBw2 : Hid (Below w.heap.size w w2) := by rw [hw2]; exact HBw1.out
      clear hw2
      go_wp2_with fail
      refine (new_any Zother w2 (by omega) (by omega)).mono ?_
      rintro e w3 ⟨rfl, hw3⟩
      have HBw3 : Hid (Below w.heap.size w w3) := by rw [hw3]; exact HBw2.out.alloc HBw2.out.size _
      clear hw3
      go_wp2
      go_ret
      exact ⟨rfl, HBw3.out⟩
  · rcases (show other < 1 ∨ 64 < other ∨ (1 ≤ other ∧ other ≤ 64) by omega) with h2 | h2 | h2
    · obtain ⟨Zroom, hZroom⟩ : ∃ Z : Nat, room = (Z : Int) := ⟨room.toNat, by omega⟩
      subst hZroom
      have froom1 : 1 ≤ (Zroom : Int) := by omega
      have froom2 : (Zroom : Int) ≤ 64 := by omega
      have fother1 : decide (1 ≤ other) = false := by simp; omega
      have fother1i : ¬ 1 ≤ other := by omega
      go_enter Try.func3, Try.ntmps3
      go_wp2_with fail
      refine (first_any w).mono ?_
      rintro e w1 ⟨rfl, hB1⟩
      have HBw1 : Hid (Below w.heap.size w w1) := hB1
      clear hB1
      go_wp2_with fail
      refine (new_any Zroom w1 (by omega) (by omega)).mono ?_
      rintro e w2 ⟨rfl, hw2⟩
      have HBw2 : Hid (Below w.heap.size w w2) := by rw [hw2]; exact HBw1.out.alloc HBw1.out.size _
      clear hw2
      go_wp2_with fail
      refine (new_none other w2 (by simp; omega)).mono ?_
      rintro e w3 ⟨rfl, hw3⟩
      have HBw3 : Hid (Below w.heap.size w w3) := by rw [hw3]; exact HBw2.out
      clear hw3
      go_wp2
      go_ret
      exact ⟨rfl, HBw3.out⟩
    · obtain ⟨Zroom, hZroom⟩ : ∃ Z : Nat, room = (Z : Int) := ⟨room.toNat, by omega⟩
      subst hZroom
      have froom1 : 1 ≤ (Zroom : Int) := by omega
      have froom2 : (Zroom : Int) ≤ 64 := by omega
      have fother1 : 1 ≤ other := by omega
      have fother2 : decide (other ≤ 64) = false := by simp; omega
      have fother2i : ¬ other ≤ 64 := by omega
      go_enter Try.func3, Try.ntmps3
      go_wp2_with fail
      refine (first_any w).mono ?_
      rintro e w1 ⟨rfl, hB1⟩
      have HBw1 : Hid (Below w.heap.size w w1) := hB1
      clear hB1
      go_wp2_with fail
      refine (new_any Zroom w1 (by omega) (by omega)).mono ?_
      rintro e w2 ⟨rfl, hw2⟩
      have HBw2 : Hid (Below w.heap.size w w2) := by rw [hw2]; exact HBw1.out.alloc HBw1.out.size _
      clear hw2
      go_wp2_with fail
      refine (new_none other w2 (by simp; omega)).mono ?_
      rintro e w3 ⟨rfl, hw3⟩
      have HBw3 : Hid (Below w.heap.size w w3) := by rw [hw3]; exact HBw2.out
      clear hw3
      go_wp2
      go_ret
      exact ⟨rfl, HBw3.out⟩
    · obtain ⟨R1, hR1⟩ : ∃ Z : Nat, room = (Z : Int) := ⟨room.toNat, by omega⟩
      obtain ⟨R2, hR2⟩ : ∃ Z : Nat, other = (Z : Int) := ⟨other.toNat, by omega⟩
      subst hR1
      subst hR2
      exact queuePlays_good R1 R2 (by omega) (by omega) (by omega) (by omega) a ca l w hl

end Go.Proofs.Ythaoobfldponpaa
