/-
  A region that draws its order: an operation that yields its value in every world that meets S may be taken first, where all that may come up ahead of it keep S.
-/
import Derived.Test.YthaoobfldponpaaRs
import Derived.OrdersHeld
namespace Go.Proofs.Ythaoobfldponpaa
open Go.RowKit
set_option linter.unusedVariables false

theorem wpAny_firstK {P : Program} {ops : Array Oper} {Q : Exit → Act → World → Prop} {md : Region.Mode} {S : World → Prop} {i : Nat} {oi : Oper} {v : Value} (hi : ops[i]? = some oi) (hsel : ∀ (j : Nat) (o : Oper) cs b, ops[j]? = some o → o.op ≠ .select cs b)
    (hQ : ∀ c a w, Q (.panic c) (a.put oi.dst v) w → Q (.panic c) a w) (D : Nat → Prop) (hDi : ¬ D i)
    (hD : ∀ j oj, ops[j]? = some oj → D j → ∃ e ∈ oj.after, Region.binds md e = true ∧ (e.on = i ∨ D e.on))
    (hfree : ∀ j oj, ops[j]? = some oj → j ≠ i → ¬ D j → oi.apart ops oj = true)
    (hkeep : ∀ j oj, ops[j]? = some oj → j ≠ i → ¬ D j → ∀ a w (K : Act → World → Prop), S w → wpOp P ops Q j K a w → wpOp P ops Q j (fun a' w' => S w' ∧ K a' w') a w) :
    ∀ (fuel : Nat) (listed : Array Bool) (a : Act) (w : World), (∀ j, D j → listed.getD j true = false) → i ∈ Region.ready md ops listed → YieldsIf P ops S oi v a → S w →
      wpAny P md ops Q fuel (listed.setIfInBounds i true) (a.put oi.dst v) w → wpAny P md ops Q (fuel + 1) listed a w := by
  intro fuel
  induction fuel with
  | zero =>
    intro listed a w _ hr hy hS H
    refine ⟨fun h => (by rw [h] at hr; cases hr), fun j hj => ?_⟩
    by_cases hji : j = i
    · subst hji; exact hy.wpOp hi hS H
    · have := ready_mono hj hji
      rw [H.1] at this
      cases this
  | succ fuel ih =>
    intro listed a w hDl hr hy hS H
    refine ⟨fun h => (by rw [h] at hr; cases hr), fun j hj => ?_⟩
    by_cases hji : j = i
    · subst hji; exact hy.wpOp hi hS H
    · obtain ⟨hjun, oj, hoj, hall⟩ := mem_ready.1 hj
      have hnD : ¬ D j := fun hdj => by
        obtain ⟨e, he, hb, hor⟩ := hD j oj hoj hdj
        have h1 := hall e he hb
        rcases hor with heq | hde
        · have h0 := (mem_ready.1 hr).1
          rw [heq] at h1
          rcases Nat.lt_or_ge i listed.size with h' | h'
          · simp [h'] at h0 h1; rw [h0] at h1; cases h1
          · simp [Array.getElem?_eq_none h'] at h1
        · have h0 := hDl _ hde
          rcases Nat.lt_or_ge e.on listed.size with h' | h'
          · simp [h'] at h0 h1; rw [h0] at h1; cases h1
          · simp [Array.getElem?_eq_none h'] at h1
      have h1 := H.2 j (ready_mono hj hji)
      have h2 := wpOp_putIf hoj (hfree j oj hoj hji hnD) (fun cs b => hsel i oi cs b hi) (fun cs b => hsel j oj cs b hoj) hQ hy h1
      have h3 := hkeep j oj hoj hji hnD a w _ hS h2
      refine wpOp_mono (fun a' w' h4 => ih (listed.setIfInBounds j true) a' w' (fun k hk => ?_) (ready_mono hr (Ne.symm hji)) h4.2.1 h4.1 ?_) h3
      · have hjk : j ≠ k := fun e => hnD (e ▸ hk)
        rw [getD_set_ne true hjk]
        exact hDl k hk
      · rw [Array.setIfInBounds_comm _ _ hji]
        exact h4.2.2

/-- The same along a path on which S holds: S₁ beside it is kept by all that may come up ahead. -/
theorem wpAnyH_firstK {P : Program} {ops : Array Oper} {Q : Exit → Act → World → Prop} {md : Region.Mode} {S S₁ : World → Prop} {i : Nat} {oi : Oper} {v : Value} (hi : ops[i]? = some oi) (hsel : ∀ (j : Nat) (o : Oper) cs b, ops[j]? = some o → o.op ≠ .select cs b)
    (hQ : ∀ c a w, Q (.panic c) (a.put oi.dst v) w → Q (.panic c) a w) (D : Nat → Prop)
    (hD : ∀ j oj, ops[j]? = some oj → D j → ∃ e ∈ oj.after, Region.binds md e = true ∧ (e.on = i ∨ D e.on)) :
    ∀ (fuel : Nat) (listed : Array Bool) (a : Act) (w : World),
      (∀ j oj, ops[j]? = some oj → j ≠ i → listed.getD j true = false → (∀ e ∈ oj.after, Region.binds md e = true → e.on ≠ i) → oi.apart ops oj = true) →
      (∀ j oj, ops[j]? = some oj → j ≠ i → listed.getD j true = false → ¬ D j → ∀ a w (K : Act → World → Prop), S₁ w → wpOp P ops Q j K a w → wpOp P ops Q j (fun a' w' => S₁ w' ∧ K a' w') a w) →
      (∀ j, D j → listed.getD j true = false) → i ∈ Region.ready md ops listed → YieldsIf P ops (fun w => S w ∧ S₁ w) oi v a → S w → S₁ w →
      wpAnyH P md ops Q S fuel (listed.setIfInBounds i true) (a.put oi.dst v) w → wpAnyH P md ops Q S (fuel + 1) listed a w := by
  intro fuel
  induction fuel with
  | zero =>
    intro listed a w _ _ _ hr hy hS hS1 H
    refine ⟨fun h => (by rw [h] at hr; cases hr), fun j hj => ?_⟩
    by_cases hji : j = i
    · subst hji; exact hy.wpOp hi ⟨hS, hS1⟩ ⟨hS, H⟩
    · have := ready_mono hj hji
      rw [H.1] at this
      cases this
  | succ fuel ih =>
    intro listed a w hfree hkeep hDl hr hy hS hS1 H
    refine ⟨fun h => (by rw [h] at hr; cases hr), fun j hj => ?_⟩
    by_cases hji : j = i
    · subst hji; exact hy.wpOp hi ⟨hS, hS1⟩ ⟨hS, H⟩
    · obtain ⟨hjun, oj, hoj, hall⟩ := mem_ready.1 hj
      have hnot : ∀ e ∈ oj.after, Region.binds md e = true → e.on ≠ i := fun e he hb heq => by
        have h1 := hall e he hb
        have h0 := (mem_ready.1 hr).1
        rw [heq] at h1
        rcases Nat.lt_or_ge i listed.size with h' | h'
        · simp [h'] at h0 h1; rw [h0] at h1; cases h1
        · simp [Array.getElem?_eq_none h'] at h1
      have hnD : ¬ D j := fun hdj => by
        obtain ⟨e, he, hb, hor⟩ := hD j oj hoj hdj
        rcases hor with heq | hde
        · exact hnot e he hb heq
        · have h1 := hall e he hb
          have h0 := hDl _ hde
          rcases Nat.lt_or_ge e.on listed.size with h' | h'
          · simp [h'] at h0 h1; rw [h0] at h1; cases h1
          · simp [Array.getElem?_eq_none h'] at h1
      have h1 := H.2 j (ready_mono hj hji)
      have h2 := wpOp_putIf hoj (hfree j oj hoj hji hjun hnot) (fun cs b => hsel i oi cs b hi) (fun cs b => hsel j oj cs b hoj) hQ hy h1
      have h3 := hkeep j oj hoj hji hjun hnD a w _ hS1 h2
      have back : ∀ k, (listed.setIfInBounds j true).getD k true = false → listed.getD k true = false := fun k hun => by
        by_cases hjk : j = k
        · subst hjk; exact hjun
        · rw [getD_set_ne true hjk] at hun; exact hun
      refine wpOp_mono (fun a' w' h4 => ⟨h4.2.2.1, ih (listed.setIfInBounds j true) a' w' (fun k ok hk hki hun hno => hfree k ok hk hki (back k hun) hno) (fun k ok hk hki hun hnk => hkeep k ok hk hki (back k hun) hnk) (fun k hk => ?_) (ready_mono hr (Ne.symm hji)) h4.2.1 h4.2.2.1 h4.1 ?_⟩) h3
      · have hjk : j ≠ k := fun e => hnD (e ▸ hk)
        rw [getD_set_ne true hjk]
        exact hDl k hk
      · rw [Array.setIfInBounds_comm _ _ hji]
        exact h4.2.2.2

/-- An operation that leaves the world as it is. -/
theorem keep_same {P : Program} {ops : Array Oper} {Q : Exit → Act → World → Prop} {S : World → Prop} {j : Nat} {oj : Oper} (hj : ops[j]? = some oj)
    (hs : ∀ a w, (∃ v, (execOp a oj).run P w = .ok (.value v) w) ∨ (∃ x w', (execOp a oj).run P w = .halt x w')) :
    ∀ a w (K : Act → World → Prop), S w → wpOp P ops Q j K a w → wpOp P ops Q j (fun a' w' => S w' ∧ K a' w') a w := by
  intro a w K hS h
  unfold wpOp at *
  simp only [hj] at *
  split at h
  · rename_i hw
    rw [if_pos hw]
    rcases h with h | h
    · left
      unfold Oper.wp at *
      rcases hs a.eval w with ⟨v, e⟩ | ⟨x, w', e⟩
      · rw [e] at h ⊢; exact ⟨hS, h⟩
      · rw [e] at h ⊢
        cases x <;> simp only [Oper.upon] at h ⊢ <;> exact h
    · exact .inr h
  · rename_i hw
    rw [if_neg hw]
    exact ⟨hS, h⟩
/-- An operation that lays a new block. -/
theorem keep_alloc {P : Program} {ops : Array Oper} {Q : Exit → Act → World → Prop} {S : World → Prop} {j : Nat} {oj : Oper} (hj : ops[j]? = some oj) (hSa : ∀ w o, S w → S (w.alloc o))
    (hs : ∀ a w, (∃ v o, (execOp a oj).run P w = .ok (.value v) (w.alloc o)) ∨ (∃ x w', (execOp a oj).run P w = .halt x w')) :
    ∀ a w (K : Act → World → Prop), S w → wpOp P ops Q j K a w → wpOp P ops Q j (fun a' w' => S w' ∧ K a' w') a w := by
  intro a w K hS h
  unfold wpOp at *
  simp only [hj] at *
  split at h
  · rename_i hw
    rw [if_pos hw]
    rcases h with h | h
    · left
      unfold Oper.wp at *
      rcases hs a.eval w with ⟨v, o, e⟩ | ⟨x, w', e⟩
      · rw [e] at h ⊢; exact ⟨hSa _ _ hS, h⟩
      · rw [e] at h ⊢
        cases x <;> simp only [Oper.upon] at h ⊢ <;> exact h
    · exact .inr h
  · rename_i hw
    rw [if_neg hw]
    exact ⟨hS, h⟩

end Go.Proofs.Ythaoobfldponpaa
