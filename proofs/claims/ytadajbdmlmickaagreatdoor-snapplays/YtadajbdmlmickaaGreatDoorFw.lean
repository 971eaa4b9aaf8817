/-
  Operations of snapshots in memory; few.
-/
import Derived.Test.YtadajbdmlmickaaGreatDoorRs
import Derived.Test.YtadajbdmlmickaaGreatDoorJDd
import Derived.Deep.QuietTactic
import Derived.BigQuiet
namespace Go.Proofs.YtadajbdmlmickaaGreatDoor
open Go.RowKit
set_option linter.unusedVariables false

/-- An operation that came in. -/
structure Sop where
  kd : Int
  n : Int
  s : Snp
  d : Opn
def nilSop : Sop := ⟨0, 0, nilSnp, nilOp⟩
def SopAt (N : Nat) (W : World) (b o : Nat) (x : Sop) : Prop :=
  (W.cell? ⟨b, o, none⟩ = some (.int .i64 x.kd) ∧ W.cell? ⟨b, o + 1, none⟩ = some (.int .i64 x.n)) ∧ SnpAt N W b (o + 2) x.s ∧ OpAt N W b (o + 5) x.d ∧ (-9223372036854775808 ≤ x.n ∧ x.n ≤ 9223372036854775807)
def SopsAt (N : Nat) (W : World) (a : Option Addr) (l : List Sop) : Prop :=
  l = [] ∨ ∃ b off, a = some ⟨b, off, none⟩ ∧ b < N ∧ ∀ i, i < l.length → SopAt N W b (off + i * 10) (l.getD i nilSop)
theorem SopAt.below {N : Nat} {W W' : World} {b o : Nat} {x : Sop} (h : SopAt N W b o x) (hb : b < N) (hB : Below N W W') : SopAt N W' b o x :=
  ⟨⟨(hB.cell (p := ⟨b, o, none⟩) hb).trans h.1.1, (hB.cell (p := ⟨b, o + 1, none⟩) hb).trans h.1.2⟩, h.2.1.below hb hB, h.2.2.1.below hb hB, h.2.2.2⟩
theorem SopsAt.at {N : Nat} {W : World} {a : Option Addr} {l : List Sop} (h : SopsAt N W a l) {i : Nat} (hi : i < l.length) : ∃ b off, a = some ⟨b, off, none⟩ ∧ b < N ∧ SopAt N W b (off + i * 10) (l.getD i nilSop) := by
  rcases h with rfl | ⟨b, off, ha, hb, h⟩
  · simp at hi
  · exact ⟨b, off, ha, hb, h i hi⟩
/-- How much is handed in. -/
def szS (x : Sop) : Nat := min x.s.d.length 20000 + min x.d.b.length 20000 + min x.d.nm.length 20000 + min x.d.to.length 20000
def totS (l : List Sop) : Nat := (l.map szS).sum
theorem totS_step {l : List Sop} {k : Nat} (h : k < l.length) : totS (l.take (k + 1)) = totS (l.take k) + szS (l.getD k nilSop) := by
  unfold totS
  rw [List.take_succ_eq_append_getElem h, List.map_append, List.sum_append, List.getD_eq_getElem?_getD, List.getElem?_eq_getElem h]
  simp
theorem totS_le (l : List Sop) (k : Nat) : totS (l.take k) ≤ 80000 * k := by
  induction k with
  | zero => simp [totS]
  | succ k ih =>
    by_cases h : k < l.length
    · rw [totS_step h]
      have : szS (l.getD k nilSop) ≤ 80000 := by unfold szS; omega
      omega
    · rw [List.take_of_length_le (by omega)]
      rw [List.take_of_length_le (by omega)] at ih
      omega

set_option maxRecDepth 100000 in
set_option maxHeartbeats 8000000 in
theorem few6_any (a : Option Addr) (c : Nat) (l : List Sop) (N : Nat) (w : World) (h : SopsAt N w a l) (hN : N ≤ w.heap.size) (hz : l.length ≤ 9223372036854775807) :
    Calls Tryz.prog 9 #[.slice a l.length c] w fun e w' => e = .returned (.bool (decide (l.length ≤ 100) && decide (totS l ≤ 20000))) ∧ Below w.heap.size w w' := by
  have H1 : Hid (SopsAt N w a l) := h
  clear h
  go_enter Tryz.func9, Tryz.ntmps9
  go_wp2_with fail
  go_loopw [3, 4] (fun sv iv wr => ∃ k : Nat, iv = .int .i64 (k : Int) ∧ sv = .int .i64 (totS (l.take k) : Int) ∧ k ≤ l.length ∧ k ≤ 100 ∧ Below w.heap.size w wr) (fun _ iv _ => l.length - (intOf iv).toNat)
  case atStart => exact ⟨0, rfl, rfl, Nat.zero_le _, by omega, Below.refl _ _⟩
  case round =>
    obtain ⟨k, rfl, rfl, hk, hk1, hB⟩ := hrel
    have HB : Hid (Below w.heap.size w wr) := hB
    have hT0 := totS_le l k
    by_cases hlt : k < l.length
    · have k1 : (k : Int) < (l.length : Int) := by omega
      have k0 : (0 : Int) ≤ (k : Int) := by omega
      by_cases h4 : k < 100
      · have hi4 : (k : Int) < 100 := by omega
        obtain ⟨b, off, rfl, hb, ho⟩ := H1.out.at hlt
        obtain ⟨-, ⟨⟨-, -, c2⟩, s2⟩, ⟨⟨-, -, c7, c8, c9⟩, s9, q7, q8, -⟩, -⟩ := ho.below hb (hB.mono hN)
        have HST : Hid (totS (l.take (k + 1)) = totS (l.take k) + szS (l.getD k nilSop)) := totS_step hlt
        have q2 : (l.getD k nilSop).s.d.length ≤ 9223372036854775807 := by obtain ⟨_, _, e, h5, h6, _⟩ := s2; unfold maxLen at h6; injection e with e1 e2 e3; omega
        have q9 : (l.getD k nilSop).d.b.length ≤ 9223372036854775807 := by obtain ⟨_, _, e, h5, h6, _⟩ := s9; unfold maxLen at h6; unfold Opn.x at e; injection e with e1 e2 e3; omega
        unfold Opn.x at c9
        unfold szS at HST
        unfold maxLen at q7 q8
        generalize (l.getD k nilSop).s.d = sd at *
        generalize (l.getD k nilSop).d.nm = nm at *
        generalize (l.getD k nilSop).d.to = tn at *
        generalize (l.getD k nilSop).d.b = bb at *
        obtain ⟨m1, hm1⟩ : ∃ m, min sd.length 20000 = m := ⟨_, rfl⟩
        obtain ⟨m2, hm2⟩ : ∃ m, min bb.length 20000 = m := ⟨_, rfl⟩
        obtain ⟨m3, hm3⟩ : ∃ m, min nm.length 20000 = m := ⟨_, rfl⟩
        obtain ⟨m4, hm4⟩ : ∃ m, min tn.length 20000 = m := ⟨_, rfl⟩
        rw [hm1, hm2, hm3, hm4] at HST
        have x1 : min (sd.length : Int) 20000 = (m1 : Int) := by omega
        have x2 : min (bb.length : Int) 20000 = (m2 : Int) := by omega
        have x3 : min (nm.length : Int) 20000 = (m3 : Int) := by omega
        have x4 : min (tn.length : Int) 20000 = (m4 : Int) := by omega
        have y1 : m1 ≤ 20000 := by omega
        have y2 : m2 ≤ 20000 := by omega
        have y3 : m3 ≤ 20000 := by omega
        have y4 : m4 ≤ 20000 := by omega
        obtain ⟨T, hT⟩ : ∃ T, totS (l.take k) = T := ⟨_, rfl⟩
        rw [hT] at HST hT0 ⊢
        have hbl : b < wr.heap.size := Nat.lt_of_lt_of_le (Nat.lt_of_lt_of_le hb hN) hB.size
        clear ho hB s2 s9 hm1 hm2 hm3 hm4 hT
        go_wp2_with fail
        go_quiet (fail)
        go_wp2
        exact ⟨⟨k + 1, by go_num, by rw [HST.out]; go_num, by omega, by omega, HB.out.trans ⟨rfl, rfl, rfl, Nat.le_refl _, fun _ _ => rfl⟩⟩, by simp [intOf]; omega⟩
      · have hi4 : ¬ (k : Int) < 100 := by omega
        have h5 : ¬ (l.length : Int) ≤ 100 := by omega
        have h6 : decide (l.length ≤ 100) = false := by simp; omega
        have H6 : Hid (decide (l.length ≤ 100) = false) := h6
        clear h6
        go_wp2
        go_ret
        exact ⟨by rw [H6.out]; rfl, HB.out⟩
    · have k1 : ¬ (k : Int) < (l.length : Int) := by omega
      have h5 : (l.length : Int) ≤ 100 := by omega
      have h6 : decide (l.length ≤ 100) = true := by simp; omega
      have H6 : Hid (decide (l.length ≤ 100) = true) := h6
      clear h6
      rw [List.take_of_length_le (by omega)]
      by_cases h7 : totS l ≤ 20000
      · have h7' : (totS l : Int) ≤ 20000 := by omega
        have H7 : Hid (decide (totS l ≤ 20000) = true) := by show _ = _; simpa using h7
        clear h7
        go_wp2
        go_ret
        exact ⟨by rw [H6.out, H7.out]; rfl, HB.out⟩
      · have h7' : ¬ (totS l : Int) ≤ 20000 := by omega
        have H7 : Hid (decide (totS l ≤ 20000) = false) := by show _ = _; simpa using h7
        clear h7
        go_wp2
        go_ret
        exact ⟨by rw [H6.out, H7.out]; rfl, HB.out⟩
end Go.Proofs.YtadajbdmlmickaaGreatDoor
