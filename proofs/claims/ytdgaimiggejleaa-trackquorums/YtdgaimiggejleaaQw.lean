/-
  TrackQuorums: the walk.
-/
import Derived.Test.YtdgaimiggejleaaQs
namespace Go.Proofs.Ytdgaimiggejleaa
open Go.RowKit
set_option linter.unusedVariables false

theorem ow_empty (w : World) : Ow w.heap.size (w.alloc (.cells #[] 3)) (.slice (some ⟨w.heap.size, 0, none⟩) 0 0) [] :=
  ⟨rfl, .inr ⟨w.heap.size, 0, #[], rfl, Nat.le_refl _, heap_alloc_new w _, by simp, by unfold maxLen; omega, by simp, by simp⟩⟩

set_option maxRecDepth 100000 in
set_option maxHeartbeats 8000000 in
theorem quorums_walk (z : Int) (a0 : Option Addr) (cap : Nat) (l : List Int) (w : World) (hs : Sl w.heap.size w (.slice a0 l.length cap) l) :
    Calls Try.prog 3 #[.int .i64 z, .slice a0 l.length cap] w fun e w' => e = .returned (.bool true) ∧ Below w.heap.size w w' := by
  have HF : Hid (Calls _ _ _ _ _) := first_any w
  have HSL : Hid (∀ w', Below w.heap.size w w' → Sl w.heap.size w' (.slice a0 l.length cap) l) := fun w' hB => hs.below hB
  clear hs
  go_enter Try.func3, Try.ntmps3
  go_wp2_with fail
  refine HF.out.mono ?_
  rintro r w1 ⟨rfl, hB1⟩
  have HB1 : Hid (Below w.heap.size w w1) := hB1
  clear hB1 HF
  by_cases hl : l.length ≤ 1000
  · have HOE : Hid (Ow w.heap.size (w1.alloc (.cells #[] 3)) (.slice (some ⟨w1.heap.size, 0, none⟩) 0 0) []) := (ow_empty w1).base HB1.out.size
    have HBA : Hid (Below w.heap.size w (w1.alloc (.cells #[] 3))) := HB1.out.alloc HB1.out.size _
    have HSA : Hid (Sl w.heap.size (w1.alloc (.cells #[] 3)) (.slice a0 l.length cap) l) := HSL.out _ HBA.out
    have hlen : ([] : List Int).length + l.length ≤ 1099511627776 := by simp; omega
    have hlen2 : l.length + [(9 : Int)].length ≤ 1099511627776 := by simp; omega
    have hgB : w.heap.size ≤ (w1.alloc (.cells #[] 3)).heap.size := HBA.out.size
    have HAP : Hid (∀ v' w5, Ow w.heap.size w5 v' l → (w1.alloc (.cells #[] 3)).grownBy w5 (some w1.heap.size) → ∃ a5 c5, v' = .slice a5 l.length c5 ∧ Ow w.heap.size (w5.alloc (.cells #[.int .i64 9] 3)) (.slice a5 l.length c5) l ∧ Sl (w5.heap.size + 1) (w5.alloc (.cells #[.int .i64 9] 3)) (.slice (some ⟨w5.heap.size, 0, none⟩) 1 1) [9] ∧ w.heap.size ≤ (w5.alloc (.cells #[.int .i64 9] 3)).heap.size ∧ Below w.heap.size w (w5.alloc (.cells #[.int .i64 9] 3))) := fun v' w5 h1 h2 => by
      obtain ⟨a5, c5, rfl, -, -⟩ := h1.shape
      have hB5 : Below w.heap.size w w5 := HBA.out.grown h2 HBA.out.size (fun k e => by cases e; exact HB1.out.size)
      have hB6 := hB5.alloc hB5.size (.cells #[.int .i64 9] 3)
      exact ⟨a5, c5, rfl, h1.alloc _, sl_one w5 9, hB6.size, hB6⟩
    have HIN : Hid (∀ (a5 : Option Addr) (c5 : Nat) (w5 : World) v' w6, Ow w.heap.size (w5.alloc (.cells #[.int .i64 9] 3)) (.slice a5 l.length c5) l → Below w.heap.size w (w5.alloc (.cells #[.int .i64 9] 3)) → Ow w.heap.size w6 v' (l ++ [9]) → (w5.alloc (.cells #[.int .i64 9] 3)).grownBy w6 (Value.slice a5 l.length c5).ownBlock → ∃ g6 c6, v' = .slice (some ⟨g6, 0, none⟩) (l.length + 1) c6 ∧ l.length + 1 ≤ c6 ∧ Below w.heap.size w w6 ∧ ∀ w7, Below w6.heap.size w6 w7 → Sl w7.heap.size w7 (.slice (some ⟨g6, 0, none⟩) l.length c6) l ∧ w7.cell? ⟨g6, l.length, none⟩ = some (.int .i64 9)) := fun a5 c5 w5 v' w6 h1 h2 h3 h4 => by
      have hB6 : Below w.heap.size w w6 := h2.grown h4 h2.size (fun k e => (h1.lt e).1)
      rcases h3.2 with ⟨rfl, h5⟩ | ⟨g6, c6, cur, rfl, hN, hb, hc1, hc2, hc3, hc4⟩
      · simp at h5
      · have hle : (l ++ [(9 : Int)]).length = l.length + 1 := by simp
        refine ⟨g6, c6, by rw [hle], by omega, hB6, fun w7 h7 => ?_⟩
        have h8 := (h3.below h7 (Nat.le_refl _)).sl (Nat.le_refl w7.heap.size)
        obtain ⟨a8, c8, e8, -, hm8, h9⟩ := h8
        cases e8
        obtain ⟨b9, o9, e9, hlt9, hcell⟩ := h9.resolve_left (by simp)
        cases e9
        refine ⟨⟨some ⟨g6, 0, none⟩, c6, rfl, by omega, hm8, ?_⟩, ?_⟩
        · by_cases hz : l = []
          · exact .inl hz
          · refine .inr ⟨g6, 0, rfl, hlt9, fun i hi => ?_⟩
            have := hcell i (by omega)
            rw [List.getElem?_append_left hi] at this
            exact this
        · have := hcell l.length (by omega)
          rw [Nat.zero_add] at this
          rw [this]
          simp
    go_wp2_with (first
      | (at_builtin; refine wpList_append_ow rfl _ _ rfl w.heap.size _ (.slice (some ⟨w1.heap.size, 0, none⟩) 0 0) _ [] l rfl HOE.out rfl HSA.out hlen hgB ?_; intro v' w5 q1 q2 q3; obtain ⟨a5, c5, rfl, hO5, hS5, hN5, hB5⟩ := HAP.out v' w5 (by simpa using q1) q2; have HO5 : Hid (Ow _ _ _ _) := hO5; have HS5 : Hid (Sl _ _ _ _) := hS5; have HN5 : Hid (_ ≤ _) := hN5; have HB5 : Hid (Below _ _ _) := hB5; clear q1 q2 q3 hO5 hS5 hN5 hB5)
      | (at_builtin; refine wpList_append_ow rfl _ _ rfl w.heap.size _ (.slice a5 l.length c5) _ l [9] rfl HO5.out rfl HS5.out hlen2 HN5.out ?_; intro v' w6 q1 q2 q3; obtain ⟨g6, c6, rfl, hc6, hB6, hR6⟩ := HIN.out a5 c5 w5 v' w6 HO5.out HB5.out q1 q2; have HB6 : Hid (Below _ _ _) := hB6; have HR6 : Hid (∀ w7, Below w6.heap.size w6 w7 → _) := hR6; clear q1 q2 q3 hB6 hR6 HO5 HS5 HN5 HB5)
      | (go_at_call 10; refine (Commit_any _ _ l w6 (HR6.out w6 (Below.refl _ _)).1).mono ?_; rintro r w7 ⟨rfl, hB7⟩; have HB7 : Hid (Below w6.heap.size w6 w7) := hB7; clear hB7)
      | (go_at_call 11; refine (same_any w7.heap.size _ _ l l w7 (HR6.out w7 HB7.out).1 ((HSL.out w7 (HB6.out.trans (HB7.out.mono HB6.out.size))).mono (HB6.out.trans (HB7.out.mono HB6.out.size)).size)).mono ?_; rintro r w8 ⟨rfl, n8, hw8⟩; have HW8 : Hid (w8 = w7.drewN n8) := hw8; clear hw8))
    have HB8 : Hid (Below w.heap.size w w8) := by show Below _ _ _; rw [HW8.out]; have := HB6.out.trans (HB7.out.mono HB6.out.size); exact ⟨this.os, this.tape, this.output, this.size, this.block⟩
    have HC9 : Hid (w8.cell? ⟨g6, l.length, none⟩ = some (.int .i64 9)) := by show _ = _; rw [HW8.out]; exact (HR6.out w7 HB7.out).2
    clear HW8 HB7 HR6 HB6
    have hqq : (qrm z == qrm z) = true := by simp
    have hcc : (cmt l == cmt l) = true := by simp
    go_loopw [9] (fun iv wr => ∃ k : Nat, iv = .int .i64 (k : Int) ∧ k ≤ l.length ∧ (∀ j, j < k → 0 ≤ l[j]?.getD 0) ∧ wr = w8) (fun iv _ => l.length - (intOf iv).toNat)
    case atStart => exact ⟨0, rfl, Nat.zero_le _, fun j hj => by omega, rfl⟩
    case round =>
      obtain ⟨k, rfl, hk, hall, hwr⟩ := hrel
      have HAL : Hid (∀ j, j < k → 0 ≤ l[j]?.getD 0) := hall
      clear hall
      subst wr
      by_cases hlt : k < l.length
      · obtain ⟨g, off, ha0, hck⟩ : ∃ g off, a0 = some ⟨g, off, none⟩ ∧ w8.cell? ⟨g, off + k, none⟩ = some (.int .i64 (l[k]?.getD 0)) := by
          obtain ⟨a, c, e, -, -, h3⟩ := HSL.out w8 HB8.out
          cases e
          obtain ⟨b, off, h4, h5, h6⟩ := h3.resolve_left (by intro e; rw [e] at hlt; simp at hlt)
          exact ⟨b, off, h4, h6 k hlt⟩
        subst ha0
        have HNX : Hid (0 ≤ l[k]?.getD 0 → (∃ k' : Nat, Value.int .i64 ((k : Int) + 1) = .int .i64 (k' : Int) ∧ k' ≤ l.length ∧ (∀ j, j < k' → 0 ≤ l[j]?.getD 0) ∧ True) ∧ l.length - (intOf (Value.int .i64 ((k : Int) + 1))).toNat < l.length - (intOf (Value.int .i64 (k : Int))).toNat) := fun h => ⟨⟨k + 1, by simp, hlt, fun j hj => by
          by_cases e : j = k
          · subst e; exact h
          · exact HAL.out j (by omega), trivial⟩, by simp [intOf]; omega⟩
        generalize l[k]?.getD 0 = x at *
        have hkk : (k : Int) < (l.length : Int) := by omega
        by_cases h0 : x < 0
        · go_wp2_with (first
            | (go_at_call 12; refine (Quorum_any z w8).mono ?_; rintro r wq ⟨rfl, hwq⟩; subst wq)
            | (go_at_call 13; refine (refQuorum_any z w8).mono ?_; rintro r wq ⟨rfl, hwq⟩; subst wq))
          go_ret
          exact ⟨by first | rfl | (rw [hqq]) | simp, HB8.out⟩
        · by_cases h1 : 4611686018427387904 < x
          · go_wp2_with (first
              | (go_at_call 12; refine (Quorum_any z w8).mono ?_; rintro r wq ⟨rfl, hwq⟩; subst wq)
              | (go_at_call 13; refine (refQuorum_any z w8).mono ?_; rintro r wq ⟨rfl, hwq⟩; subst wq))
            go_ret
            exact ⟨by first | rfl | (rw [hqq]) | simp, HB8.out⟩
          · go_wp2
            exact HNX.out (by omega)
      · obtain rfl : k = l.length := by omega
        have HRC : Hid (Calls _ _ _ _ _) := refCommit_any _ _ l w8 (HSL.out w8 HB8.out) (fun x hx => by
          obtain ⟨j, hj, rfl⟩ := List.getElem_of_mem hx
          have := HAL.out j hj
          rw [List.getElem?_eq_getElem hj] at this
          exact this)
        have hli : (l.length : Int) < (l.length : Int) + 1 := by omega
        have hc9 := HC9.out
        clear hk hlt
        go_wp2_with (first
          | (go_at_call 12; refine (Quorum_any z w8).mono ?_; rintro r wq ⟨rfl, hwq⟩; subst wq)
          | (go_at_call 13; refine (refQuorum_any z w8).mono ?_; rintro r wq ⟨rfl, hwq⟩; subst wq)
          | (go_at_call 14; refine HRC.out.mono ?_; rintro r w9 ⟨rfl, n9, hw9⟩; have HB9 : Hid (Below w.heap.size w w9) := (by show Below _ _ _; rw [hw9]; have := HB8.out; exact ⟨this.os, this.tape, this.output, this.size, this.block⟩); have hc10 : w9.cell? ⟨g6, l.length, none⟩ = some (.int .i64 9) := (by rw [hw9]; exact hc9); clear hw9))
        go_ret
        exact ⟨rfl, HB9.out⟩
  · have hl2 : 1000 < l.length := by omega
    go_wp2
    go_ret
    exact ⟨rfl, HB1.out⟩

theorem trackQuorums_in (w : World) (z : Int) (hb : In64 z) {a : Option Addr} {len cap : Nat} (l : List Int) (s : Sl w.heap.size w (.slice a len cap) l) :
    Calls Try.prog 3 #[.int .i64 z, .slice a len cap] w fun e w' => e = .returned (.bool true) ∧ Below w.heap.size w w' := by
  obtain ⟨a', cap', e, h⟩ := s
  cases e
  exact quorums_walk z a cap l w ⟨a, cap, rfl, h⟩
end Go.Proofs.Ytdgaimiggejleaa
