/-
  few: are operations few and small?
-/
import Derived.Test.YtbcnpdpdflkanaaFi
namespace Go.Proofs.Ytbcnpdpdflkanaa
open Go.RowKit

/-- few's answer. -/
def FewR (h : List Lo) (w : World) (e : Ending) (w' : World) : Prop := ∃ t n, e = .returned (.bool t) ∧ (t = true → h.length ≤ 600) ∧ w' = w.drewN n

set_option maxRecDepth 100000 in
set_option maxHeartbeats 4000000 in
theorem few_any (N : Nat) (w : World) (a : Option Addr) (cap : Nat) (h : List Lo) (hA : HAt N w a h) (hok : ∀ x ∈ h, LoOk x) (hl : h.length ≤ maxLen) :
    Calls Try.prog 10 #[.slice a h.length cap] w (FewR h w) := by
  unfold maxLen at hl
  go_enter Try.func10, Try.ntmps10
  go_wp2
  go_loopw [3, 4] (fun nv iv wr => ∃ (m : Int) (k n : Nat), nv = .int .i64 m ∧ iv = .int .i64 k ∧ k ≤ h.length ∧ k ≤ 401 ∧ 0 ≤ m ∧ m ≤ 90000 ∧ wr = w.drewN n) (fun _ iv _ => h.length - (intOf iv).toNat)
  case atStart => exact ⟨0, 0, 0, rfl, rfl, by omega, by omega, by omega, by omega, rfl⟩
  case round =>
    obtain ⟨m, k, n, rfl, rfl, hk, hk4, hm0, hm9, rfl⟩ := hrel
    by_cases hlt : k < h.length ∧ k ≤ 400
    · obtain ⟨b, off, rfl, hb, hcs⟩ := hA.at hlt.1
      have i1 := hlt.1
      have i2 : (k : Int) ≤ 400 := by omega
      have hOk := hok _ (oat_mem hlt.1)
      generalize oat h k = x at *
      obtain ⟨-, -, -, c3, c4, c5, -, -, -, c9⟩ := hcs
      unfold str at c3 c4 c5 c9
      have g3 := hOk.key
      have g4 := hOk.val
      have g5 := hOk.old
      have g9 := hOk.rv
      unfold maxLen at g3 g4 g5 g9
      clear hok hA hlt hOk
      obtain ⟨x3, e3, b3⟩ : ∃ q : Int, min (x.key.length : Int) 9000 = q ∧ 0 ≤ q ∧ q ≤ 9000 := ⟨_, rfl, by omega, by omega⟩
      obtain ⟨x4, e4, b4⟩ : ∃ q : Int, min (x.val.length : Int) 9000 = q ∧ 0 ≤ q ∧ q ≤ 9000 := ⟨_, rfl, by omega, by omega⟩
      obtain ⟨x5, e5, b5⟩ : ∃ q : Int, min (x.old.length : Int) 9000 = q ∧ 0 ≤ q ∧ q ≤ 9000 := ⟨_, rfl, by omega, by omega⟩
      obtain ⟨x9, e9, b9⟩ : ∃ q : Int, min (x.rp.val.length : Int) 9000 = q ∧ 0 ≤ q ∧ q ≤ 9000 := ⟨_, rfl, by omega, by omega⟩
      have s1 : IntKind.i64.wrap (m + x3) = m + x3 := by rw [IntKind.wrap_i64]; omega
      go_wp2
      go_quiet (fail)
      go_wp2
      refine ⟨⟨_, k + 1, _, rfl, by go_num, by omega, by omega, by omega, by omega, by first | rfl | simp⟩, by simp [intOf]; omega⟩
    · clear hok hA
      by_cases hlt2 : k < h.length
      · have i2 : ¬ (k : Int) ≤ 400 := by omega
        by_cases hm4 : m ≤ 40000
        · by_cases h6 : h.length ≤ 600
          · have h6' : (h.length : Int) ≤ 600 := by omega
            go_wp2
            go_ret
            exact ⟨true, _, rfl, fun _ => h6, rfl⟩
          · have h6' : ¬ (h.length : Int) ≤ 600 := by omega
            go_wp2
            go_ret
            exact ⟨false, _, rfl, fun e => (by cases e), rfl⟩
        · go_wp2
          go_ret
          exact ⟨false, _, rfl, fun e => (by cases e), rfl⟩
      · have hke : k = h.length := by omega
        subst hke
        by_cases hm4 : m ≤ 40000
        · have h6 : h.length ≤ 600 := by omega
          have h6' : (h.length : Int) ≤ 600 := by omega
          go_wp2
          go_ret
          exact ⟨true, _, rfl, fun _ => h6, rfl⟩
        · go_wp2
          go_ret
          exact ⟨false, _, rfl, fun e => (by cases e), rfl⟩
end Go.Proofs.Ytbcnpdpdflkanaa
