/-
  A number, a thing within bytes, judged as soon as it is read.
-/
import Derived.Test.YtfnnbfgfmbiababGetB
import Derived.Handy
namespace Go.Proofs.Ytfnnbfgfmbiabab
open Go.RowKit Go.Shelf

theorem ahead_pos (f : Nat) (l : List UInt8) (h : 0 < l.length) : 0 < (ahead (f + 1) l).length := by
  cases l with
  | nil => simp at h
  | cons x r => unfold ahead; split <;> simp

theorem intAt_pos (l : List UInt8) (a : Nat) (h : (intAt l a).2.2 = 0) : 0 < (intAt l a).2.1 := by
  have hin := intAt_in l a h
  unfold intAt at h ⊢
  rw [if_neg (by omega)] at h ⊢
  have hp := ahead_pos 8 (l.drop (a : Int).toNat) (by simp; omega)
  generalize ahead 9 (l.drop (a : Int).toNat) = p at *
  unfold verdict at h ⊢
  by_cases h1 : 128 ≤ lastB p ∧ p.length < 9
  · rw [if_pos h1] at h; simp at h
  · rw [if_neg h1] at h ⊢
    by_cases h2 : 128 ≤ lastB p
    · rw [if_pos h2] at h; simp at h
    · rw [if_neg h2] at h ⊢
      by_cases h3 : lastB p = 0 ∧ 1 < p.length
      · rw [if_pos h3] at h; simp at h
      · rw [if_neg h3] at h ⊢
        by_cases h4 : 4611686018427387904 < val p
        · rw [if_pos h4] at h; simp at h
        · rw [if_neg h4]; exact hp

theorem pk_pos (l : List UInt8) (a e : Nat) (h : (pk l a e).2.2 = 0) : 0 < (pk l a e).2.1 := by
  unfold pk at h ⊢
  by_cases he : e = 0
  · rw [if_pos he] at h ⊢; exact intAt_pos l a h
  · rw [if_neg he] at h; exact absurd h he

/-- What 'failure' tells behind a number. -/
theorem fail_num (l : List UInt8) (p e n p' e' : Nat) (h : rdN l (p, e) = (n, (p', e'))) : (if p < p' then 0 else doneE l p' e') = e' ∧ (e' ≠ 0 → n = 0 ∧ p' = p) := by
  simp only [rdN, Prod.mk.injEq] at h
  obtain ⟨rfl, rfl, rfl⟩ := h
  by_cases h0 : (pk l p e).2.2 = 0
  · have := pk_pos l p e h0
    rw [if_pos (by omega), h0]; simp
  · have := (pk_bd l p e).2.2.2 h0
    rw [this.2, this.1]
    simp [doneE, h0]

theorem takeAt_cases (l : List UInt8) (p e : Nat) (most : Int) : (∃ x, x ≠ 0 ∧ takeAt l p e most = ([], p, x)) ∨ (∃ t q, p < q ∧ takeAt l p e most = (t, q, 0)) := by
  unfold takeAt
  by_cases h0 : (pk l p e).2.2 ≠ 0
  · rw [if_pos h0]; exact .inl ⟨_, h0, rfl⟩
  · rw [if_neg h0]
    have hp := pk_pos l p e (by simpa using h0)
    by_cases h1 : max most 0 < ((pk l p e).1 : Int)
    · rw [if_pos h1]; exact .inl ⟨3, by simp, rfl⟩
    · rw [if_neg h1]
      by_cases h2 : l.length - (p + (pk l p e).2.1) < (pk l p e).1
      · rw [if_pos h2]; exact .inl ⟨2, by simp, rfl⟩
      · rw [if_neg h2]; exact .inr ⟨_, _, by omega, rfl⟩

theorem fail_bytes (l t : List UInt8) (most : Int) (p e p' e' : Nat) (h : rdB l most (p, e) = (t, (p', e'))) : (if p < p' then 0 else doneE l p' e') = e' ∧ (e' ≠ 0 → t = [] ∧ p' = p) := by
  simp only [rdB, Prod.mk.injEq] at h
  obtain ⟨rfl, rfl, rfl⟩ := h
  rcases takeAt_cases l p e most with ⟨x, hx, h⟩ | ⟨t, q, hq, h⟩
  · rw [h]; simp [doneE, hx]
  · rw [h]; simp [hq]

set_option maxRecDepth 100000 in
set_option maxHeartbeats 1000000 in
theorem rrAt_any {w0 w : World} {R : Nat} {l : List UInt8} {p e : Nat} (h : Rr w0 w R l p e) :
    Calls Try.prog 94 #[.pointer (some ⟨R, 0, none⟩)] w fun r w' => r = .returned (.int .i64 (p : Int)) ∧ w' = w := rAt_any _ R l p e w h.rdr

set_option maxRecDepth 100000 in
set_option maxHeartbeats 1000000 in
theorem failure_any {w0 w : World} {R : Nat} {l : List UInt8} {p e : Nat} (a : Nat) (h : Rr w0 w R l p e) :
    Calls Try.prog 95 #[.pointer (some ⟨R, 0, none⟩), .int .i64 (a : Int)] w fun r w' => r = .returned (.int .i64 ((if a < p then 0 else doneE l p e : Nat) : Int)) ∧ Below w.heap.size w w' := by
  by_cases hp : a < p
  · rw [if_pos hp]
    go_enter Try.func95, Try.ntmps95
    go_wp2_with (go_at_call 94; refine (rrAt_any h).mono ?_; rintro r w' ⟨rfl, hw⟩; subst w')
    go_returns
    exact ⟨rfl, Below.refl _ _⟩
  · rw [if_neg hp]
    have hd := rrDone_any h
    generalize doneE l p e = d at *
    go_enter Try.func95, Try.ntmps95
    go_wp2_with (first
      | (go_at_call 94; refine (rrAt_any h).mono ?_; rintro r w' ⟨rfl, hw⟩; subst w')
      | (go_at_call 72; refine hd.mono ?_; rintro r w1 ⟨rfl, hB1⟩))
    go_returns
    exact ⟨rfl, hB1⟩

set_option maxRecDepth 100000 in
set_option maxHeartbeats 1000000 in
theorem getNumber_any {w0 w : World} {R : Nat} {l : List UInt8} {p e n p' e' : Nat} (h : Rr w0 w R l p e) (hr : Hid (rdN l (p, e) = (n, (p', e')))) :
    Calls Try.prog 66 #[.pointer (some ⟨R, 0, none⟩)] w fun r w' => r = .returned (.tuple #[.int .i64 (n : Int), .int .i64 (e' : Int)]) ∧ Rr w0 w' R l p' e' := by
  have HF : Hid ((if p < p' then 0 else doneE l p' e') = e') := (fail_num l p e n p' e' hr.out).1
  have HFF : Hid (∀ w', Rr w0 w' R l p' e' → Calls Try.prog 95 #[.pointer (some ⟨R, 0, none⟩), .int .i64 (p : Int)] w' fun r w'' => r = .returned (.int .i64 (e' : Int)) ∧ Below w'.heap.size w' w'') := fun w' h' => by
    have := failure_any p h'
    rw [HF.out] at this
    exact this
  clear HF
  go_enter Try.func66, Try.ntmps66
  go_wp2_with (first
    | (go_at_call 94; refine (rrAt_any h).mono ?_; rintro r w' ⟨rfl, hw⟩; subst w')
    | (go_at_call 67; refine (rrI h hr).mono ?_; rintro r w1 ⟨rfl, h1⟩)
    | (go_at_call 95; refine (HFF.out _ h1).mono ?_; rintro r w2 ⟨rfl, hB2⟩))
  go_ret2
  exact ⟨rfl, h1.mono hB2⟩
end Go.Proofs.Ytfnnbfgfmbiabab
