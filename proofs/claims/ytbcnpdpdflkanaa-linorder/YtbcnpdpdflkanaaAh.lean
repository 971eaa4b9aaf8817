/-
  ahead; numbers in memory.
-/
import Derived.Test.YtbcnpdpdflkanaaPo
import Derived.Test.YtbcnpdpdflkanaaRin
namespace Go.Proofs.Ytbcnpdpdflkanaa
open Go.RowKit

/-- Numbers in memory, in a block below N. -/
def ZAt (N : Nat) (w : World) (a : Option Addr) (l : List Int) : Prop := l = [] ∨ ∃ b off, a = some ⟨b, off, none⟩ ∧ b < N ∧ ∀ i, i < l.length → w.cell? ⟨b, off + i, none⟩ = some (.int .i64 (l.getD i 0))
theorem ZAt.below {N : Nat} {w w' : World} {a : Option Addr} {l : List Int} (h : ZAt N w a l) (hB : Below N w w') : ZAt N w' a l := by
  rcases h with h | ⟨b, off, rfl, hb, hc⟩
  · exact .inl h
  · exact .inr ⟨b, off, rfl, hb, fun i hi => (hB.cell (p := ⟨b, off + i, none⟩) hb).trans (hc i hi)⟩
theorem ZAt.mono {N M : Nat} {w : World} {a : Option Addr} {l : List Int} (h : ZAt N w a l) (hM : N ≤ M) : ZAt M w a l := by
  rcases h with h | ⟨b, off, rfl, hb, hc⟩
  · exact .inl h
  · exact .inr ⟨b, off, rfl, by omega, hc⟩
theorem ZAt.at {N : Nat} {w : World} {a : Option Addr} {l : List Int} (h : ZAt N w a l) {i : Nat} (hi : i < l.length) : ∃ b off, a = some ⟨b, off, none⟩ ∧ b < N ∧ w.cell? ⟨b, off + i, none⟩ = some (.int .i64 (l.getD i 0)) := by
  rcases h with rfl | ⟨b, off, rfl, hb, hc⟩
  · simp at hi
  · exact ⟨b, off, rfl, hb, hc i hi⟩
theorem zl_len (l : List Nat) : (zl l).length = l.length := by simp [zl]
theorem IOw.zat {N : Nat} {w : World} {a : Option Addr} {c : Nat} {l : List Nat} (h : IOw N w (.slice a l.length c) l) : ZAt w.heap.size w a (zl l) := by
  rcases Nat.eq_zero_or_pos l.length with e | e
  · left; rw [List.length_eq_zero_iff.1 e]; rfl
  · obtain ⟨g, rfl, -, hg⟩ := row_ptr h e
    refine .inr ⟨g, 0, rfl, hg, fun i hi => ?_⟩
    rw [zl_len] at hi
    have := (row_cell h (j := i) (by omega)).1
    rw [Nat.zero_add, this, List.getD_eq_getElem?_getD, List.getElem?_map, List.getElem?_eq_getElem hi]
    unfold zl
    rw [List.getD_eq_getElem?_getD, List.getElem?_map, List.getElem?_eq_getElem hi]
    rfl
theorem inInts {H : Type} {enc : TypeId × Value → H} {W : World} {n : Nat} {v : Value} {x : DataW H × List MemPlace} (h : DataW.trod enc Try.prog W 0 (fun _ => true) true n 39 [v] = some x) :
    ∃ (ea : Option Addr) (ec : Nat) (es : List Int), v = .slice ea es.length ec ∧ ZAt W.heap.size W ea es ∧ es.length ≤ maxLen := by
  rcases ChangeShapes.open_ints Try.underlying39 Try.underlying3 (by kernel_rfl) h with ⟨hcs, _⟩ | ⟨x, l, c, zs, hcs, _, hl, hm, hz, _, hcell, hwz⟩
  · simp at hcs
    exact ⟨none, 0, [], hcs, .inl rfl, by simp⟩
  · simp at hcs
    by_cases hl0 : l = 0
    · subst hl0
      exact ⟨some x, c, [], hcs, .inl rfl, by simp⟩
    have hzl : l ≤ zs.length := by rw [hz]; simp; omega
    have hlen : (zs.take l).length = l := by simp; omega
    obtain ⟨b, off, spot⟩ := x
    have h0 := hcell 0 (by omega)
    have hspot : spot = none := by simpa [Addr.add] using World.cell?_spot h0
    subst hspot
    refine ⟨some ⟨b, off, none⟩, c, zs.take l, by rw [hlen]; exact hcs, .inr ⟨b, off, rfl, ?_, fun i hi => ?_⟩, by rw [hlen]; omega⟩
    · have := cell_lt h0
      simpa [Addr.add] using this
    · rw [hlen] at hi
      have := hcell i (by omega)
      rw [Addr.add_lit] at this
      rw [this]
      simp [List.getD_eq_getElem?_getD, hi]
theorem drop_z {l : List Int} {k : Nat} (hk : k < l.length) : l.drop k = l.getD k 0 :: l.drop (k + 1) := by
  rw [List.drop_eq_getElem_cons hk, List.getD_eq_getElem?_getD, List.getElem?_eq_getElem hk]; rfl

set_option maxRecDepth 100000 in
set_option maxHeartbeats 1000000 in
theorem ahead_any (N : Nat) (w : World) (a1 a2 : Option Addr) (c1 c2 : Nat) (l1 l2 : List Int) (h1 : ZAt N w a1 l1) (h2 : ZAt N w a2 l2) (m1 : l1.length ≤ 9223372036854775807) (m2 : l2.length ≤ 9223372036854775807) :
    Calls Try.prog 27 #[.slice a1 l1.length c1, .slice a2 l2.length c2] w fun e w' => e = .returned (.bool (aheadZ l1 l2)) ∧ ∃ n, w' = w.drewN n := by
  go_enter Try.func27, Try.ntmps27
  go_wp2
  go_loopw [5] (fun i wr => ∃ k n : Nat, i = .int .i64 k ∧ k ≤ l1.length ∧ k ≤ l2.length ∧ wr = w.drewN n ∧ aheadZ l1 l2 = aheadZ (l1.drop k) (l2.drop k)) (fun i _ => l1.length - (intOf i).toNat)
  case atStart => exact ⟨0, 0, rfl, by omega, by omega, rfl, by simp⟩
  case round =>
    obtain ⟨k, n, rfl, hk1, hk2, rfl, hah⟩ := hrel
    have HAH : Hid (aheadZ l1 l2 = aheadZ (l1.drop k) (l2.drop k)) := hah
    clear hah
    by_cases q1 : k < l1.length
    · by_cases q2 : k < l2.length
      · obtain ⟨b1, o1, rfl, -, d1⟩ := h1.at q1
        obtain ⟨b2, o2, rfl, -, d2⟩ := h2.at q2
        have hd : aheadZ (l1.drop k) (l2.drop k) = if l1.getD k 0 = l2.getD k 0 then aheadZ (l1.drop (k + 1)) (l2.drop (k + 1)) else decide (l1.getD k 0 < l2.getD k 0) := by
          rw [drop_z q1, drop_z q2]; rfl
        have HDD : Hid (aheadZ (l1.drop k) (l2.drop k) = _) := hd
        clear hd
        generalize l1.getD k 0 = x at *
        generalize l2.getD k 0 = y at *
        by_cases hxy : x = y
        · subst hxy
          go_wp2
          go_quiet (fail)
          go_wp2
          refine ⟨⟨k + 1, _, by simp, by omega, by omega, rfl, by rw [HAH.out, HDD.out]; simp⟩, by simp [intOf]; omega⟩
        · have hb : (x != y) = true := by simpa using hxy
          have HXY : Hid (¬ x = y) := hxy
          clear hxy
          go_wp2
          go_quiet (fail)
          go_wp2
          go_quiet (fail)
          go_wp2
          go_ret
          exact ⟨by rw [HAH.out, HDD.out, if_neg HXY.out]; rfl, _, by rw [World.drewN_drewN, World.drewN_drewN]⟩
      · have hk : k = l2.length := by omega
        have HR : Hid (aheadZ l1 l2 = decide (l1.length < l2.length)) := by
          show _ = _
          rw [HAH.out, List.drop_eq_nil_of_le (show l2.length ≤ k by omega), drop_z q1]
          show false = _
          rw [decide_eq_false (by omega)]
        go_wp2
        go_ret
        exact ⟨by rw [HR.out]; rfl, _, rfl⟩
    · have HR : Hid (aheadZ l1 l2 = decide (l1.length < l2.length)) := by
        show _ = _
        rw [HAH.out, List.drop_eq_nil_of_le (show l1.length ≤ k by omega)]
        by_cases q2 : k < l2.length
        · rw [drop_z q2]
          show true = _
          rw [decide_eq_true (by omega)]
        · rw [List.drop_eq_nil_of_le (show l2.length ≤ k by omega)]
          show false = _
          rw [decide_eq_false (by omega)]
      go_wp2
      go_ret
      exact ⟨by rw [HR.out]; rfl, _, rfl⟩
end Go.Proofs.Ytbcnpdpdflkanaa
