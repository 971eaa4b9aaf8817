/-
  Each operation, in one word.
-/
import Derived.Test.YtglhjgfaelfleaaGreatD3
namespace Go.Proofs.YtglhjgfaelfleaaGreat
open Go.RowKit

theorem opK_ok {K : KV} (h : K.Ok) {c : Cm} (hc : c.ck = 0) : KV.Ok { K with ps := (opK K.ps c).1 } := by
  obtain ⟨_, _, _, k4, k5, _⟩ := ck_ok hc
  refine ⟨opK_len K.ps c h.few, h.fewS, fun p hp => ?_, h.se⟩
  rcases opK_mem K.ps c hp with rfl | hp'
  · exact ⟨k4, k5⟩
  · exact h.pr p hp'

theorem put_any {w : World} {b mp ms : Nat} {K : KV} (h : St w b mp ms K) (c : Cm) (hc : c.ck = 0) (hop : c.op = 2) :
    Calls Tryz.prog 67 #[.pointer (some ⟨b, 0, none⟩), c.v] w fun e w' => e = .returned (opK K.ps c).2.v ∧ St w' b mp ms { K with ps := (opK K.ps c).1 } ∧ Out (· = mp) w w' := by
  have hok := opK_ok h.ok hc
  obtain ⟨_, _, _, k4, _, _⟩ := ck_ok hc
  have hk : c.key.length ≤ 1099511627776 := by omega
  obtain ⟨o, cl, sq, k, v, d⟩ := c
  dsimp only at *
  subst hop
  unfold opK at hok ⊢
  simp only [if_true, Cm.v, str] at hok ⊢
  cases hq : lookP k K.ps with
  | none =>
    rw [hq] at hok
    by_cases h128 : 128 ≤ K.ps.length
    · simp only [if_pos h128] at hok ⊢
      exact (put_full h 2 cl sq k v d hk hq h128).mono fun e w' ⟨h1, h2⟩ => ⟨h1, h.below h2, Out.of_below h2⟩
    · simp only [if_neg h128] at hok ⊢
      exact (put_new h 2 cl sq k v d hk hq (by omega) hok)
  | some p =>
    rw [hq] at hok
    exact put_old h 2 cl sq k v d hk hq hok

theorem remove_any {w : World} {b mp ms : Nat} {K : KV} (h : St w b mp ms K) (c : Cm) (hc : c.ck = 0) (hop : c.op = 3) :
    Calls Tryz.prog 68 #[.pointer (some ⟨b, 0, none⟩), c.v] w fun e w' => e = .returned (opK K.ps c).2.v ∧ St w' b mp ms { K with ps := (opK K.ps c).1 } ∧ Out (· = mp) w w' := by
  have hok := opK_ok h.ok hc
  obtain ⟨_, _, _, k4, _, _⟩ := ck_ok hc
  have hk : c.key.length ≤ 1099511627776 := by omega
  obtain ⟨o, cl, sq, k, v, d⟩ := c
  dsimp only at *
  subst hop
  unfold opK at hok ⊢
  simp only [if_true, if_neg (show ¬ (3 : Int) = 2 by omega), Cm.v, str] at hok ⊢
  cases hq : lookP k K.ps with
  | none => exact (remove_none h 3 cl sq k v d hk hq).mono fun e w' ⟨h1, h2⟩ => ⟨h1, h.below h2, Out.of_below h2⟩
  | some p =>
    rw [hq] at hok
    exact remove_some h 3 cl sq k v d hk hq hok

theorem swap_any {w : World} {b mp ms : Nat} {K : KV} (h : St w b mp ms K) (c : Cm) (hc : c.ck = 0) (hop : c.op = 4) :
    Calls Tryz.prog 69 #[.pointer (some ⟨b, 0, none⟩), c.v] w fun e w' => e = .returned (opK K.ps c).2.v ∧ St w' b mp ms { K with ps := (opK K.ps c).1 } ∧ Out (· = mp) w w' := by
  have hok := opK_ok h.ok hc
  obtain ⟨_, _, _, k4, _, _⟩ := ck_ok hc
  have hk : c.key.length ≤ 1099511627776 := by omega
  obtain ⟨o, cl, sq, k, v, d⟩ := c
  dsimp only at *
  subst hop
  unfold opK at hok ⊢
  simp only [if_neg (show ¬ (4 : Int) = 2 by omega), if_neg (show ¬ (4 : Int) = 3 by omega), Cm.v, str] at hok ⊢
  cases hq : lookP k K.ps with
  | none => exact (swap_none h 4 cl sq k v d hk hq).mono fun e w' ⟨h1, h2⟩ => ⟨h1, h.below h2, Out.of_below h2⟩
  | some p =>
    obtain ⟨p1, p2⟩ := p
    rw [hq] at hok
    dsimp only at hok ⊢
    by_cases hd : p2 = d
    · subst hd
      simp only [if_true] at hok ⊢
      exact swap_same h 4 cl sq k v p2 hk hq hok
    · simp only [if_neg hd] at hok ⊢
      exact (swap_other h 4 cl sq k v d hk hq hd).mono fun e w' ⟨h1, h2⟩ => ⟨h1, h.below h2, Out.of_below h2⟩
end Go.Proofs.YtglhjgfaelfleaaGreat
