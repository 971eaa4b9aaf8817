/-
  A progress: plain facts; numbers that are in question.
-/
import Derived.Test.YtdgaimiggejleaaFi
import Derived.Test.YtdgaimiggejleaaRin
namespace Go.Proofs.Ytdgaimiggejleaa
open Go.RowKit
set_option linter.unusedVariables false

def numB (x : Int) : Bool := decide (0 ≤ x) && decide (x ≤ 4611686018427387904)
theorem numB_iff {x : Int} (h : numB x = true) : 0 ≤ x ∧ x ≤ 4611686018427387904 := by simpa [numB] using h
theorem number_any (x : Int) (w : World) : Calls Try.prog 25 #[.int .i64 x] w fun e w' => e = .returned (.bool (numB x)) ∧ w' = w := by
  by_cases h1 : 0 ≤ x
  · by_cases h2 : x ≤ 4611686018427387904
    · go_enter Try.func25, Try.ntmps25
      go_wp2
      go_ret
      exact ⟨by simp [numB, h1, h2], rfl⟩
    · go_enter Try.func25, Try.ntmps25
      go_wp2
      go_ret
      exact ⟨by simp [numB]; omega, rfl⟩
  · go_enter Try.func25, Try.ntmps25
    go_wp2
    go_ret
    exact ⟨by simp [numB]; omega, rfl⟩

theorem PP.Ok.re {p : PP} (h : p.Ok) (s : Int) (h0 : 0 ≤ s) (h2 : s ≤ 2) : (p.re s).Ok := by
  have := h.m0; have := h.mn; have := h.n1
  exact ⟨h0, h2, h.m0, by show p.m < p.m + 1; omega, by show p.m + 1 ≤ _; omega, h.rm⟩
theorem PP.Ok.sent {p : PP} (h : p.Ok) {x : Int} (h0 : 0 ≤ x) (h1 : x ≤ 4611686018427387904) : (p.sent x).Ok := by
  have a := h.m0; have b := h.mn; have c := h.n1
  unfold PP.sent PP.send
  split
  · exact ⟨h.s0, h.s2, h.m0, h.mn, h.n1, h.rm⟩
  · split
    · split
      · rename_i hx
        exact ⟨h.s0, h.s2, h.m0, by show p.m < x + 1; omega, by show x + 1 ≤ _; omega, h.rm⟩
      · exact h
    · exact h
theorem PP.Ok.ack {p : PP} (h : p.Ok) {x : Int} (h0 : 0 ≤ x) (h1 : x ≤ 4611686018427387904) : (p.ack x).Ok := by
  have := h.m0; have := h.mn; have := h.n1
  exact ⟨h.s0, h.s2, by show 0 ≤ max p.m x; omega, by show max p.m x < max p.n (max p.m x + 1); omega, by show max p.n (max p.m x + 1) ≤ _; omega, h.rm⟩
theorem PP.Ok.acked {p : PP} (h : p.Ok) {x : Int} (h0 : 0 ≤ x) (h1 : x ≤ 4611686018427387904) : (p.acked x).Ok := by
  have hk := h.ack h0 h1
  unfold PP.acked
  split
  · split
    · exact hk.re 1 (by omega) (by omega)
    · exact hk
  · split
    · exact hk
    · split
      · exact hk.re 0 (by omega) (by omega)
      · exact hk
theorem PP.Ok.rej {p : PP} (h : p.Ok) (x y : Int) : (p.rej x y).Ok := by
  have := h.m0; have := h.mn; have := h.n1
  unfold PP.rej PP.back
  split
  · split
    · rename_i hx
      exact ⟨h.s0, h.s2, h.m0, by show p.m < max (p.m + 1) (min x (y + 1)); omega, by show max (p.m + 1) (min x (y + 1)) ≤ _; omega, h.rm⟩
    · exact h
  · split
    · split
      · exact h.re 0 (by omega) (by omega)
      · exact h
    · exact h
theorem PP.Ok.beat {p : PP} (h : p.Ok) : p.beat.Ok := by
  have hp : ({ p with pa := false } : PP).Ok := ⟨h.s0, h.s2, h.m0, h.mn, h.n1, h.rm⟩
  unfold PP.beat
  split
  · exact hp
  · split
    · unfold PP.let1
      split
      · exact ⟨h.s0, h.s2, h.m0, h.mn, h.n1, h.rm⟩
      · exact hp
    · exact hp.re 0 (by omega) (by omega)
theorem PP.Ok.snap {p : PP} (h : p.Ok) (x : Int) : (p.snap x).Ok := ⟨by show (0 : Int) ≤ 2; omega, by show (2 : Int) ≤ 2; omega, h.m0, h.mn, h.n1, h.rm⟩

theorem PP.sent_m (p : PP) (x : Int) : (p.sent x).m = p.m := by unfold PP.sent PP.send; split; rfl; split; split <;> rfl; rfl
theorem PP.acked_m (p : PP) (x : Int) : (p.acked x).m = max p.m x := by
  unfold PP.acked
  split
  · split <;> rfl
  · split
    · rfl
    · split <;> rfl
theorem PP.rej_m (p : PP) (x y : Int) : (p.rej x y).m = p.m := by
  unfold PP.rej PP.back
  split
  · split <;> rfl
  · split
    · split <;> rfl
    · rfl
theorem PP.beat_m (p : PP) : p.beat.m = p.m := by
  unfold PP.beat PP.let1
  split
  · rfl
  · split
    · split <;> rfl
    · rfl
theorem PP.snap_m (p : PP) (x : Int) : (p.snap x).m = p.m := rfl

/-- A new one. -/
def pNew (next : Int) (R : Nat) : PP := ⟨0, 0, max 1 next, false, 0, [], R⟩
theorem pNew_ok {next : Int} {R : Nat} (h1 : 1 ≤ R) (hn : next ≤ 4611686018427387904) : (pNew next R).Ok :=
  ⟨Int.le_refl _, by show (0 : Int) ≤ 2; omega, Int.le_refl _, by show 0 < max 1 next; omega, by show max 1 next ≤ _; omega, h1⟩
theorem New_E (R : Nat) (next : Int) (N : Nat) (w : World) (h1 : 1 ≤ R) (h2 : R ≤ 64) (hN : N ≤ w.heap.size) :
    Calls Try.prog 23 #[.int .i64 next, .int .i64 (R : Int)] w fun e w' => ∃ b, e = .returned (.pointer (some ⟨b, 0, none⟩)) ∧ PE N w' b (pNew next R) ∧ Below w.heap.size w w' :=
  (NewProgress_any N R next w h1 h2 hN).mono fun e w' ⟨b, S, h3, h4, h5, h6⟩ => ⟨b, h3, ⟨S, h4⟩, h5⟩
end Go.Proofs.Ytdgaimiggejleaa
