/-
  LaneFair: which lane waits; the count of waits stays at one.
-/
import Derived.Test.YthaoobfldponpaaLm
namespace Go.Proofs.Ythaoobfldponpaa
open Go.RowKit
set_option linter.unusedVariables false

/-- How far behind next a lane stands. -/
def off (n nx x : Nat) : Nat := (x + n - nx % n) % n
theorem off_lt {n nx x : Nat} (hn : 1 ≤ n) : off n nx x < n := Nat.mod_lt _ (by omega)
theorem off_at {n nx k : Nat} (hn : 1 ≤ n) (hk : k < n) : off n nx ((nx + k) % n) = k := by
  unfold off
  have hr : nx % n < n := Nat.mod_lt _ (by omega)
  rw [Nat.add_mod, Nat.mod_eq_of_lt hk]
  generalize nx % n = r at *
  by_cases h : r + k < n
  · rw [Nat.mod_eq_of_lt h, show r + k + n - r = k + n from by omega, Nat.add_mod_right, Nat.mod_eq_of_lt hk]
  · have e : (r + k) % n = r + k - n := by rw [Nat.mod_eq_sub_mod (by omega), Nat.mod_eq_of_lt (by omega)]
    rw [e, show r + k - n + n - r = k from by omega, Nat.mod_eq_of_lt hk]
theorem at_off {n nx x : Nat} (hn : 1 ≤ n) (hx : x < n) : (nx + off n nx x) % n = x := by
  unfold off
  have hr : nx % n < n := Nat.mod_lt _ (by omega)
  have hd := Nat.div_add_mod nx n
  rw [Nat.add_mod_mod]
  generalize nx % n = r at *
  have e : nx + (x + n - r) = x + n * (nx / n + 1) := by rw [Nat.mul_add, Nat.mul_one]; omega
  rw [e, Nat.add_mul_mod_self_left, Nat.mod_eq_of_lt hx]
theorem off_inj {n nx x y : Nat} (hn : 1 ≤ n) (hx : x < n) (hy : y < n) (h : off n nx x = off n nx y) : x = y := by
  rw [← at_off (nx := nx) hn hx, ← at_off (nx := nx) hn hy, h]
/-- Behind a taking, a lane that stood farther off. -/
theorem off_next {n nx mm k : Nat} (hn : 1 ≤ n) (hk : k < n) (hm : mm < k) : off n ((nx + mm) % n + 1) ((nx + k) % n) = k - mm - 1 := by
  have e : (nx + k) % n = (((nx + mm) % n + 1) + (k - mm - 1)) % n := by
    rw [show ((nx + mm) % n + 1) + (k - mm - 1) = (nx + mm) % n + (k - mm) from by omega, Nat.mod_add_mod, show nx + mm + (k - mm) = nx + k from by omega]
  rw [e]
  exact off_at hn (by omega)

/-- How often a lane was taken from while another waited: at most once, and that one comes first. -/
structure FI (n nx : Nat) (ls : Nat → List Int) (wt : Nat → Nat → Nat) : Prop where
  dg : ∀ a, a < n → wt a a = 0
  one : ∀ a b, a < n → b < n → wt a b ≤ 1
  fst : ∀ a b, a < n → b < n → wt a b ≠ 0 → ls b ≠ [] ∧ off n nx b < off n nx a
theorem FI.start (n nx : Nat) (ls : Nat → List Int) : FI n nx ls (fun _ _ => 0) := ⟨fun _ _ => rfl, fun _ _ _ _ => Nat.zero_le _, fun _ _ _ _ h => absurd rfl h⟩
theorem FI.put {n nx : Nat} {ls ls' : Nat → List Int} {wt : Nat → Nat → Nat} (h : FI n nx ls wt) (hl : ∀ b, b < n → ls b ≠ [] → ls' b ≠ []) : FI n nx ls' wt :=
  ⟨h.dg, h.one, fun a b ha hb hw => ⟨hl b hb (h.fst a b ha hb hw).1, (h.fst a b ha hb hw).2⟩⟩
theorem FI.idle {n nx : Nat} {ls : Nat → List Int} {wt : Nat → Nat → Nat} (h : FI n nx ls wt) {b c : Nat} (hb : b < n) (hc : c < n) (he : ls c = []) : wt b c = 0 := by
  apply Classical.byContradiction
  intro hw
  exact (h.fst b c hb hc hw).1 he
/-- Behind a taking from lane J. -/
def wtake (ls : Nat → List Int) (J : Nat) (wt : Nat → Nat → Nat) : Nat → Nat → Nat := fun a b => if b = J then 0 else if a = J ∧ ls b ≠ [] then 1 else wt a b
theorem FI.zero {n nx mm : Nat} {ls : Nat → List Int} {wt : Nat → Nat → Nat} (h : FI n nx ls wt) (hn : 1 ≤ n) (hm : mm < n) (hz : ∀ k, k < mm → ls ((nx + k) % n) = []) {b : Nat} (hb : b < n) (hne : ls b ≠ []) : wt ((nx + mm) % n) b = 0 := by
  apply Classical.byContradiction
  intro hw
  have h1 := (h.fst _ b (Nat.mod_lt _ (by omega)) hb hw).2
  rw [off_at hn hm] at h1
  have h2 := hz _ h1
  rw [at_off hn hb] at h2
  exact hne h2
theorem FI.take {n nx mm : Nat} {ls : Nat → List Int} {wt : Nat → Nat → Nat} (h : FI n nx ls wt) (hn : 1 ≤ n) (hm : mm < n) (hz : ∀ k, k < mm → ls ((nx + k) % n) = []) (t : List Int) : FI n ((nx + mm) % n + 1) (upd ls ((nx + mm) % n) t) (wtake ls ((nx + mm) % n) wt) := by
  have hJ : (nx + mm) % n < n := Nat.mod_lt _ (by omega)
  refine ⟨fun a ha => ?_, fun a b ha hb => ?_, fun a b ha hb hw => ?_⟩
  · unfold wtake
    split
    · rfl
    · rename_i hne
      rw [if_neg (fun e => hne e.1)]
      exact h.dg a ha
  · unfold wtake
    split
    · omega
    · split
      · omega
      · exact h.one a b ha hb
  · unfold wtake at hw
    by_cases e : b = (nx + mm) % n
    · rw [if_pos e] at hw; exact absurd rfl hw
    · rw [if_neg e] at hw
      rw [upd_ne _ _ _ e]
      have far : ∀ x, x < n → ls x ≠ [] → x ≠ (nx + mm) % n → mm < off n nx x := fun x hx hne hxJ => by
        have h1 : ¬ off n nx x < mm := fun hlt => by
          have := hz _ hlt
          rw [at_off hn hx] at this
          exact hne this
        have h2 : off n nx x ≠ mm := fun he => hxJ (by rw [← he]; exact (at_off hn hx).symm)
        omega
      by_cases ea : a = (nx + mm) % n ∧ ls b ≠ []
      · refine ⟨ea.2, ?_⟩
        have hb2 := far b hb ea.2 e
        have hob : off n nx b < n := off_lt hn
        have e1 := off_next (n := n) (nx := nx) (mm := mm) hn hob hb2
        rw [at_off hn hb] at e1
        have eJ : off n ((nx + mm) % n + 1) ((nx + mm) % n) = n - 1 := by
          have : (nx + mm) % n = (((nx + mm) % n + 1) + (n - 1)) % n := by
            rw [show (nx + mm) % n + 1 + (n - 1) = (nx + mm) % n + n from by omega, Nat.add_mod_right, Nat.mod_mod]
          rw (config := { occs := .pos [2] }) [this]
          exact off_at hn (by omega)
        rw [ea.1, eJ, e1]
        omega
      · rw [if_neg ea] at hw
        obtain ⟨h1, h2⟩ := h.fst a b ha hb hw
        have haJ : a ≠ (nx + mm) % n := fun e' => ea ⟨e', h1⟩
        have hb2 := far b hb h1 e
        refine ⟨h1, ?_⟩
        have hob : off n nx b < n := off_lt hn
        have hoa : off n nx a < n := off_lt hn
        have e1 := off_next (n := n) (nx := nx) (mm := mm) hn hob hb2
        rw [at_off hn hb] at e1
        have e2 := off_next (n := n) (nx := nx) (mm := mm) hn hoa (by omega)
        rw [at_off hn ha] at e2
        rw [e1, e2]
        omega

end Go.Proofs.Ythaoobfldponpaa
