/-
  QueueGone: the walk of the law.
-/
import Derived.Test.YthaoobfldponpabMv
import Derived.Test.YthaoobfldponpabOp
namespace Go.Proofs.Ythaoobfldponpab
open Go.RowKit
set_option linter.unusedVariables false

/-- The numbers below n. -/
def upTo (n : Nat) : List Int := (List.range n).map (fun x : Nat => (x : Int))
theorem upTo_len (n : Nat) : (upTo n).length = n := by simp [upTo]
theorem upTo_at {n k : Nat} (h : k < n) : (upTo n)[k]?.getD 0 = (k : Int) := by simp [upTo, h]
theorem upTo_succ (n : Nat) : upTo (n + 1) = upTo n ++ [(n : Int)] := by simp [upTo, List.range_succ]

set_option maxRecDepth 100000 in
set_option maxHeartbeats 20000000 in
theorem queueGone_walk (room : Int) (hr : In64 room) (a : Option Addr) (ca : Nat) (l : List Opn) (w : World) (hl : OpsAt w.heap.size w a l) (hll : l.length ≤ 9223372036854775807) :
    Calls Try.prog 4 #[.int .i64 room, .slice a l.length ca] w fun e w' => e = .returned (.bool true) ∧ Below w.heap.size w w' := by
  obtain ⟨x0, y0, R, h1, h2, h3, h4, hR1, hR2, -⟩ := small 64 (by omega) (by omega) room hr
  have g1 : room.tmod 64 = x0 := h1
  have g2 : IntKind.i64.wrap (x0 + 64) = x0 + 64 := h2
  have g3 : (x0 + 64).tmod 64 = y0 := h3
  have HL : Hid (OpsAt w.heap.size w a l) := hl
  clear hl h1 h2 h3 hr hll
  go_enter Try.func4, Try.ntmps4
  go_wp2_with fail
  refine (first_any w).mono ?_
  rintro e w1 ⟨rfl, hB1⟩
  have HB1 : Hid (Below w.heap.size w w1) := hB1
  clear hB1
  by_cases hlen : 400 < l.length
  · have hg : decide ((400 : Int) < (l.length : Int)) = true := by simp; omega
    clear hlen
    go_wp2
    go_ret
    exact ⟨rfl, HB1.out⟩
  have hg : decide ((400 : Int) < (l.length : Int)) = false := by simp; omega
  go_wp2_with fail
  refine (new_any R w1 hR1 hR2).mono ?_
  rintro e w2 ⟨rfl, hw2⟩
  have HP2 : Hid (Qu w.heap.size (fun i => i = w1.heap.size) w2 w1.heap.size R []) := by rw [hw2]; exact new_qu w.heap.size R w1 HB1.out.size hR2
  have HB2 : Hid (Below w.heap.size w w2) := by rw [hw2]; exact HB1.out.alloc HB1.out.size _
  have HZ2 : Hid (w2.heap.size = w1.heap.size + 1) := by show _ = _; rw [hw2]; simp
  clear hw2 HB1
  go_wp2_with fail
  refine (new_any 64 w2 (by omega) (by omega)).mono ?_
  rintro e w3 ⟨rfl, hw3⟩
  have HQ3 : Hid (Qq w.heap.size (fun i => i = w1.heap.size) (fun i => i = w2.heap.size) w3 w1.heap.size R w2.heap.size 64 [] []) := by
    rw [hw3]
    exact ⟨HP2.out.below ((Below.refl _ w2).alloc (Nat.le_refl _) _), new_qu w.heap.size 64 w2 HB2.out.size (by omega), fun i h1 h2 => by have := HZ2.out; omega⟩
  have HB3 : Hid (Below w.heap.size w w3) := by rw [hw3]; exact HB2.out.alloc HB2.out.size _
  clear hw3 HP2 HB2 HZ2 g1 g2 g3 h4
  generalize w1.heap.size = bq at *
  generalize w2.heap.size = bp at *
  go_wp2
  go_loopw [8] (fun iv wr => ∃ (i : Nat) (S S' : Nat → Prop) (lq : List Int), iv = .int .i64 (i : Int) ∧ i ≤ l.length ∧ Qq w.heap.size S S' wr bq R bp 64 lq [] ∧ Below w.heap.size w wr) (fun iv _ => l.length - (intOf iv).toNat)
  case atStart => exact ⟨0, _, _, [], rfl, Nat.zero_le _, HQ3.out, HB3.out⟩
  case round =>
    obtain ⟨i, S, S', lq, rfl, hi, hQ, hB⟩ := hrel
    have HQ : Hid (Qq w.heap.size S S' wr bq R bp 64 lq []) := hQ
    have HB : Hid (Below w.heap.size w wr) := hB
    clear hQ hB HQ3 HB3
    generalize wr = wp at *
    by_cases hnl : l.length ≤ i
    · have hil' : decide ((i : Int) < (l.length : Int)) = false := by simp; omega
      go_wp2_with fail
      refine (len_any HQ.out.p).mono ?_
      rintro e wx ⟨rfl, hwx⟩
      subst wx
      go_wp2_with fail
      refine (clear_any HQ.out.p HB.out.size).mono ?_
      rintro e w4 ⟨rfl, t4⟩
      have HQ4 : Hid _ := HQ.out.one t4
      have HB4 : Hid (Below w.heap.size w w4) := HB.out.trans (t4.bel HB.out.size)
      clear t4 HQ HB
      go_wp2_with fail
      refine (len_any HQ4.out.p).mono ?_
      rintro e wx ⟨rfl, hwx⟩
      subst wx
      have hrm := room_any HQ4.out.p
      simp only [List.length_nil, Nat.sub_zero] at hrm ⊢
      go_wp2_with fail
      refine hrm.mono ?_
      rintro e w5 ⟨rfl, q5, hw5⟩
      have HQ5 : Hid _ := HQ4.out.drew q5
      have HB5 : Hid (Below w.heap.size w w5) := by rw [hw5]; exact HB4.out.trans ((Out.drew (X := fun _ => False) w4 q5).below HB4.out.size (fun _ h => h.elim))
      rw [← hw5] at HQ5
      clear hw5 hrm HQ4 HB4
      go_wp2
      go_loopw [10] (fun iv wr => ∃ (k : Nat) (S S' : Nat → Prop), iv = .int .i64 (k : Int) ∧ k ≤ R ∧ Qq w.heap.size S S' wr bq R bp 64 (upTo k) [] ∧ Below w.heap.size w wr) (fun iv _ => R - (intOf iv).toNat)
      case atStart => exact ⟨0, _, _, rfl, Nat.zero_le _, HQ5.out, HB5.out⟩
      case round =>
        obtain ⟨k, S2, S2', rfl, hk, hQ, hB⟩ := hrel
        have HQ : Hid (Qq w.heap.size S2 S2' wr bq R bp 64 (upTo k) []) := hQ
        have HB : Hid (Below w.heap.size w wr) := hB
        clear hQ hB HQ5 HB5
        generalize wr = wp2 at *
        by_cases hkR : k < R
        · have hkR' : (k : Int) < (R : Int) := by omega
          have hpt := put_any HQ.out.p HB.out.size (k : Int)
          have hlt : (upTo k).length < R := by rw [upTo_len]; exact hkR
          have hd : decide ((upTo k).length < R) = true := by simpa using hlt
          have hpl : putL R (upTo k) (k : Int) = upTo (k + 1) := by unfold putL; rw [if_pos hlt, upTo_succ]
          rw [hd, hpl] at hpt
          clear hd hpl hlt
          go_wp2_with fail
          refine hpt.mono ?_
          rintro e w6 ⟨rfl, t6⟩
          have HQ6 : Hid _ := HQ.out.one t6
          have HB6 : Hid (Below w.heap.size w w6) := HB.out.trans (t6.bel HB.out.size)
          clear t6 HQ HB hpt
          go_wp2
          exact ⟨⟨k + 1, _, _, by go_num, by omega, HQ6.out, HB6.out⟩, by simp [intOf]; omega⟩
        · have hkR' : decide ((k : Int) < (R : Int)) = false := by simp; omega
          obtain rfl : k = R := by omega
          have hpt := put_any HQ.out.p HB.out.size (k : Int)
          have hlt : ¬ (upTo k).length < k := by rw [upTo_len]; omega
          have hd : decide ((upTo k).length < k) = false := by simpa using hlt
          have hpl : putL k (upTo k) (k : Int) = upTo k := by unfold putL; rw [if_neg hlt]
          rw [hd, hpl] at hpt
          clear hd hpl hlt
          go_wp2_with fail
          refine hpt.mono ?_
          rintro e w6 ⟨rfl, t6⟩
          have HQ6 : Hid _ := HQ.out.one t6
          have HB6 : Hid (Below w.heap.size w w6) := HB.out.trans (t6.bel HB.out.size)
          clear t6 HQ HB hpt
          have hmv := move_any HQ6.out HB6.out.size ((k : Int) + 5)
          have hmn : mvN 64 (upTo k) [] ((k : Int) + 5) = k := by unfold mvN; rw [upTo_len]; simp; omega
          have hmd : (upTo k).drop k = [] := List.drop_eq_nil_of_le (by rw [upTo_len]; exact Nat.le_refl _)
          have hmt : (upTo k).take k = upTo k := List.take_of_length_le (by rw [upTo_len]; exact Nat.le_refl _)
          rw [hmn, hmd, hmt, List.nil_append] at hmv
          clear hmn hmd hmt
          go_wp2_with fail
          refine hmv.mono ?_
          rintro e w7 ⟨rfl, S3, S3', hq7, hB7⟩
          have HQ7 : Hid _ := hq7
          have HB7 : Hid (Below w.heap.size w w7) := HB6.out.trans hB7
          clear hq7 hB7 HQ6 HB6 hmv
          go_wp2_with fail
          refine (len_any HQ7.out.p).mono ?_
          rintro e wx ⟨rfl, hwx⟩
          subst wx
          go_wp2_with fail
          refine (items_any HQ7.out.q).mono ?_
          rintro e w8 ⟨v8, rfl, ho8, hB8⟩
          have HB8 : Hid (Below w.heap.size w w8) := HB7.out.trans (hB8.mono HB7.out.size)
          obtain ⟨a8, c8, rfl, -, -, hn8⟩ := ho8.sl (Nat.le_refl _)
          have HC : Hid (∀ j, j < k → ∃ g off, a8 = some ⟨g, off, none⟩ ∧ w8.cell? ⟨g, off + j, none⟩ = some (.int .i64 (j : Int))) := fun j hj => by
            obtain ⟨g, off, ha, -, hc⟩ := hn8.resolve_left (by intro e; have := congrArg List.length e; rw [upTo_len] at this; simp at this; omega)
            refine ⟨g, off, ha, ?_⟩
            rw [hc j (by rw [upTo_len]; exact hj), upTo_at hj]
          clear ho8 hB8 hn8 HQ7 HB7
          rw [upTo_len]
          go_wp2
          go_loopw [12] (fun iv wr => ∃ j : Nat, iv = .int .i64 (j : Int) ∧ j ≤ k ∧ wr = w8) (fun iv _ => k - (intOf iv).toNat)
          case atStart => exact ⟨0, rfl, Nat.zero_le _, rfl⟩
          case round =>
            obtain ⟨j, rfl, hj, rfl⟩ := hrel
            by_cases hjk : j < k
            · have hjk' : (j : Int) < (k : Int) := by omega
              obtain ⟨g, off, rfl, hc⟩ := HC.out j hjk
              go_wp2
              exact ⟨⟨j + 1, by go_num, by omega, by trivial⟩, by simp [intOf]; omega⟩
            · have hjk' : decide ((j : Int) < (k : Int)) = false := by simp; omega
              go_wp2
              go_ret
              exact ⟨by simp, HB8.out⟩
    have hil : i < l.length := by omega
    have hil' : (i : Int) < (l.length : Int) := by omega
    obtain ⟨b0, o0, rfl, hb0, ho0⟩ := HL.out.at hil
    have HO : Hid (OpAt w b0 (o0 + i * 3) (l.getD i nilOp)) := ho0
    generalize l.getD i nilOp = op at *
    obtain ⟨kd0, n0, ln0⟩ := op
    clear ho0
    obtain ⟨⟨e0, e1, -⟩, -⟩ := HO.out.below hb0 HB.out
    simp only at e0 e1
    by_cases hkd : kd0 = 0
    · subst hkd
      go_wp2_with fail
      refine (put_any HQ.out.p HB.out.size n0).mono ?_
      rintro e w4 ⟨rfl, t4⟩
      have HQ4 : Hid _ := HQ.out.one t4
      have HB4 : Hid (Below w.heap.size w w4) := HB.out.trans (t4.bel HB.out.size)
      clear t4 HQ HB e0 e1
      go_wp2
      exact ⟨⟨i + 1, _, _, _, by go_num, by omega, HQ4.out, HB4.out⟩, by simp [intOf]; omega⟩
    · have hkd1 : (kd0 == 0) = false := by simpa using hkd
      by_cases hkd' : kd0 = 1
      · subst hkd'
        clear hkd
        go_wp2_with fail
        refine (take_any HQ.out.p HB.out.size).mono ?_
        rintro e w4 ⟨rfl, t4⟩
        have HQ4 : Hid _ := HQ.out.one t4
        have HB4 : Hid (Below w.heap.size w w4) := HB.out.trans (t4.bel HB.out.size)
        clear t4 HQ HB e0 e1
        go_wp2
        exact ⟨⟨i + 1, _, _, _, by go_num, by omega, HQ4.out, HB4.out⟩, by simp [intOf]; omega⟩
      · have hkd2 : (kd0 == 1) = false := by simpa using hkd'
        by_cases hkd'' : kd0 = 4
        · subst hkd''
          clear hkd hkd'
          go_wp2_with fail
          refine (move_any HQ.out HB.out.size n0).mono ?_
          rintro e w4 ⟨rfl, S1, S1', hq4, hB4⟩
          have HQ4 : Hid _ := hq4
          have HB4 : Hid (Below w.heap.size w w4) := HB.out.trans hB4
          clear hq4 hB4 HQ HB e0 e1
          go_wp2_with fail
          refine (clear_any HQ4.out.q HB4.out.size).mono ?_
          rintro e w5 ⟨rfl, t5⟩
          have HQ5 : Hid _ := HQ4.out.two t5
          have HB5 : Hid (Below w.heap.size w w5) := HB4.out.trans (t5.bel HB4.out.size)
          clear t5
          go_wp2
          exact ⟨⟨i + 1, _, _, _, by go_num, by omega, HQ5.out, HB5.out⟩, by simp [intOf]; omega⟩
        · have hkd3 : (kd0 == 4) = false := by simpa using hkd''
          clear hkd hkd' hkd''
          go_wp2
          exact ⟨⟨i + 1, _, _, _, by go_num, by omega, HQ.out, HB.out⟩, by simp [intOf]; omega⟩

end Go.Proofs.Ythaoobfldponpab
