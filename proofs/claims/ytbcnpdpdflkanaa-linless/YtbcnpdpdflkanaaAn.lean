/-
  answered; follow: whether a task may be the next one, and where the search stands then.
-/
import Derived.Test.YtbcnpdpdflkanaaTf
namespace Go.Proofs.Ytbcnpdpdflkanaa
open Go.RowKit

/-- Those of the first m that were answered. -/
def musM (ops : Nat → Lo) : Nat → Nat
  | 0 => 0
  | m + 1 => if (ops m).back = 0 then musM ops m else musM ops m ||| 2 ^ m
theorem musM_test (ops : Nat → Lo) : ∀ (m j : Nat), (musM ops m).testBit j = (decide (j < m) && decide ((ops j).back ≠ 0))
  | 0, j => by simp [musM]
  | m + 1, j => by
    unfold musM
    by_cases hc : (ops m).back = 0
    · rw [if_pos hc, musM_test ops m j]
      by_cases e : m = j
      · subst e; simp [hc]
      · by_cases hj : j < m
        · simp [hj, show j < m + 1 by omega]
        · simp [hj, show ¬ j < m + 1 by omega]
    · rw [if_neg hc, Nat.testBit_or, musM_test ops m j, Nat.testBit_two_pow]
      by_cases e : m = j
      · subst e; simp [hc]
      · by_cases hj : j < m
        · simp [hj, e, show j < m + 1 by omega]
        · simp [hj, e, show ¬ j < m + 1 by omega]
theorem musM_lt (ops : Nat → Lo) : ∀ (m : Nat), musM ops m < 2 ^ m
  | 0 => by simp [musM]
  | m + 1 => by
    unfold musM
    have h1 := musM_lt ops m
    have h2 : (2 : Nat) ^ m < 2 ^ (m + 1) := Nat.pow_lt_pow_right (by omega) (by omega)
    split
    · omega
    · exact Nat.or_lt_two_pow (by omega) h2

set_option maxRecDepth 100000 in
set_option maxHeartbeats 1000000 in
theorem answered_any (N : Nat) (w : World) (v : Value) (h : List Lo) (ns : List Nat) (f : Nat → Nat) (hT : TOw N w v (tl h ns f)) (hp : ns.length ≤ 12) :
    Calls Try.prog 37 #[v] w fun e w' => e = .returned (.int .u64 (musM (nops h ns) ns.length : Nat)) ∧ Below w.heap.size w w' := by
  have HO := open_any
  obtain ⟨ta, tc, rfl, -, -⟩ := row_shape hT
  rw [tl_len] at hT ⊢
  generalize hpe : ns.length = p at *
  have HP : Hid (ns.length = p) := hpe
  clear hpe
  go_enter Try.func37, Try.ntmps37
  go_wp2
  go_loopw [8, 3] (fun i mv wr => ∃ (k : Nat), i = .int .i64 k ∧ k ≤ p ∧ mv = .int .u64 (musM (nops h ns) k : Nat) ∧ Below w.heap.size w wr) (fun i _ _ => p - (intOf i).toNat)
  case atStart => exact ⟨0, rfl, by omega, rfl, Below.refl _ _⟩
  case round =>
    obtain ⟨k, rfl, hk, rfl, hB⟩ := hrel
    by_cases hlt : k < p
    · obtain ⟨gg, rfl, hg1, hg2⟩ := row_ptr (N := N) (by have := row_below hT hB; unfold TOw at this; rw [tl_len, HP.out] at this; exact this) (by omega)
      have hTp := row_below hT hB
      rw [show (Value.slice (some ⟨gg, 0, none⟩) p tc) = Value.slice (some ⟨gg, 0, none⟩) (tl h ns f).length tc from by rw [tl_len, HP.out]] at hTp
      obtain ⟨⟨⟨c0, c1, c2, c3, c4, c5, c6, c7, c8, c9⟩, c10, c11, c12⟩, -⟩ := TOw.at hTp (i := k) (by rw [tl_len, HP.out]; exact hlt)
      rw [tl_at h ns _ (by rw [HP.out]; exact hlt)] at c0 c1 c2 c3 c4 c5 c6 c7 c8 c9 c10 c11 c12
      have HX := HO (nops h ns k)
      rw [show oat h (ns.getD k 0) = nops h ns k from rfl] at c0 c1 c2 c3 c4 c5 c6 c7 c8 c9
      dsimp only at c0 c1 c2 c3 c4 c5 c6 c7 c8 c9 c10 c11 c12
      have HMS : Hid (musM (nops h ns) (k + 1) = if (nops h ns k).back = 0 then musM (nops h ns) k else musM (nops h ns) k ||| 2 ^ k) := rfl
      have hml := musM_lt (nops h ns) k
      have hbl := pow_le (show k ≤ 12 by omega)
      generalize hx : nops h ns k = x at *
      have HXE : Hid (nops h ns k = x) := hx
      clear hx hT hTp
      generalize hmu : musM (nops h ns) k = mu at *
      have HMU : Hid (musM (nops h ns) k = mu) := hmu
      clear hmu
      generalize ns.getD k 0 = nm at *
      generalize hbm : 2 ^ k = bm at *
      have HBM : Hid (2 ^ k = bm) := hbm
      clear hbm
      generalize f k = fk at *
      unfold Lo.v Lo.box Lo.cells at HX
      unfold str at HX c3 c4 c5 c9
      have hz := hB.size
      have hor : bits .or .u64 (mu : Int) (bm : Int) = ((mu ||| bm : Nat) : Int) := u64_or_nat _ _ (by omega) (by omega)
      by_cases hop : x.back = 0
      · have e0 : decide (x.back = 0) = true := by simpa using hop
        have HM1 : Hid (musM (nops h ns) (k + 1) = mu) := by show _ = _; rw [HMS.out, if_pos hop]
        clear hop
        go_wp2_with (go_at_call 33; refine (HX _).mono ?_; rintro e w1 ⟨rfl, rfl⟩; rw [e0])
        go_roundw
        case rel => exact ⟨k + 1, by simp, by omega, by rw [HM1.out], (hB.alloc hz _).alloc (by simp; omega) _⟩
        case measure => simp [intOf]; omega
      · have e0 : decide (x.back = 0) = false := by simpa using hop
        have HM1 : Hid (musM (nops h ns) (k + 1) = mu ||| bm) := by show _ = _; rw [HMS.out, if_neg hop]
        clear hop
        go_wp2_with (go_at_call 33; refine (HX _).mono ?_; rintro e w1 ⟨rfl, rfl⟩; rw [e0])
        go_roundw
        case rel => exact ⟨k + 1, by simp, by omega, by rw [HM1.out], (hB.alloc hz _).alloc (by simp; omega) _⟩
        case measure => simp [intOf]; omega
    · have : k = p := by omega
      subst this
      clear hT
      go_wp2
      go_ret
      exact ⟨rfl, hB⟩
end Go.Proofs.Ytbcnpdpdflkanaa
