/-
  Votes: plain facts.
-/
import Derived.Test.YtdgaimiggejleaaVt
namespace Go.Proofs.Ytdgaimiggejleaa

/-! ### how many have voted -/
def cntV (V : Nat → Bool) : Nat → Nat
  | 0 => 0
  | k + 1 => cntV V k + (if V k then 1 else 0)
theorem cntV_le (V : Nat → Bool) : ∀ n, cntV V n ≤ n
  | 0 => Nat.le_refl _
  | n + 1 => by have := cntV_le V n; simp only [cntV]; split <;> omega
theorem cntV_set (V : Nat → Bool) (k : Nat) (hk : V k = false) : ∀ n, cntV (fun j => if j = k then true else V j) n = cntV V n + (if k < n then 1 else 0)
  | 0 => by simp [cntV]
  | n + 1 => by
    have ih := cntV_set V k hk n
    simp only [cntV, ih]
    by_cases h : n = k
    · subst h; simp [hk]
    · simp only [if_neg h]
      by_cases h2 : k < n
      · simp [h2, show k < n + 1 by omega]; omega
      · simp [h2, show ¬ k < n + 1 by omega]
theorem cntV_zero : ∀ n, cntV (fun _ => false) n = 0
  | 0 => rfl
  | n + 1 => by simp [cntV, cntV_zero n]

/-- Votes that were counted: as many as have voted. -/
structure PV.Cnt (v : PV) : Prop where
  n1 : 1 ≤ v.nd
  n7 : v.nd ≤ 7
  g0 : 0 ≤ v.g
  r0 : 0 ≤ v.r
  sum : v.g + v.r = (cntV v.V v.nd.toNat : Int)
theorem PV.Cnt.ok {v : PV} (h : v.Cnt) : v.Ok := by
  have h1 := cntV_le v.V v.nd.toNat
  have := h.n1; have := h.n7; have := h.g0; have := h.r0; have := h.sum
  exact ⟨h.n1, h.n7, h.g0, h.r0, by omega, by omega⟩
theorem PV.Cnt.new (n : Int) (h1 : 1 ≤ n) (h7 : n ≤ 7) : (pV0 n).Cnt := ⟨h1, h7, Int.le_refl _, Int.le_refl _, by simp [pV0, cntV_zero]⟩
theorem PV.put_nd (v : PV) (id : Int) (yes : Bool) : (v.put id yes).nd = v.nd := by unfold PV.put; split <;> rfl
theorem PV.putY_iff (v : PV) (id : Int) : v.putY id = true ↔ 1 ≤ id ∧ id ≤ v.nd ∧ v.V (id - 1).toNat = false := by simp [PV.putY, and_assoc]
theorem PV.Cnt.put {v : PV} (h : v.Cnt) (id : Int) (yes : Bool) : (v.put id yes).Cnt := by
  unfold PV.put
  cases hy : v.putY id with
  | false => simpa using h
  | true =>
    obtain ⟨h1, h2, h3⟩ := (v.putY_iff id).1 hy
    have hs := cntV_set v.V (id - 1).toNat h3 v.nd.toNat
    rw [if_pos (by omega)] at hs
    have := h.g0; have := h.r0; have := h.sum
    simp only [if_true]
    refine ⟨h.n1, h.n7, ?_, ?_, ?_⟩
    · show 0 ≤ (if yes then v.g + 1 else v.g); split <;> omega
    · show 0 ≤ (if yes then v.r else v.r + 1); split <;> omega
    · show (if yes then v.g + 1 else v.g) + (if yes then v.r else v.r + 1) = ((cntV (fun j => if j = (id - 1).toNat then true else v.V j) v.nd.toNat : Nat) : Int)
      rw [hs]
      cases yes <;> simp <;> omega
theorem PV.put_g (v : PV) (id : Int) (yes : Bool) : v.g ≤ (v.put id yes).g ∧ v.r ≤ (v.put id yes).r := by
  unfold PV.put
  split
  · refine ⟨?_, ?_⟩
    · show v.g ≤ (if yes then v.g + 1 else v.g); split <;> omega
    · show v.r ≤ (if yes then v.r else v.r + 1); split <;> omega
  · exact ⟨Int.le_refl _, Int.le_refl _⟩
theorem PV.put_V (v : PV) (id : Int) (yes : Bool) (j : Nat) : (v.put id yes).V j = (v.V j || (v.putY id && decide (j = (id - 1).toNat))) := by
  unfold PV.put
  cases hy : v.putY id with
  | false => simp
  | true =>
    show (if j = (id - 1).toNat then true else v.V j) = _
    generalize (id - 1).toNat = k
    by_cases h : j = k <;> simp [h]
/-- What is won or lost stays so. -/
theorem PV.Cnt.stays {v : PV} (h : v.Cnt) (id : Int) (yes : Bool) (he : v.res ≠ 0) : (v.put id yes).res = v.res := by
  have hg := v.put_g id yes
  have h2 := h.put id yes
  have hn := v.put_nd id yes
  have hl := cntV_le (v.put id yes).V (v.put id yes).nd.toNat
  have hsum := h2.sum
  have hn1 := h.n1
  rw [hn] at hl hsum
  unfold PV.res at he ⊢
  rw [hn]
  generalize qrm v.nd = q at *
  by_cases a : q ≤ v.g
  · rw [if_pos a, if_pos (by omega)]
  · rw [if_neg a] at he ⊢
    by_cases b : v.nd - v.r < q
    · rw [if_pos b, if_neg (by omega), if_pos (by omega)]
    · rw [if_neg b] at he; exact absurd rfl he
end Go.Proofs.Ytdgaimiggejleaa
