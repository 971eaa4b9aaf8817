/-
  The word that a text begins with.
-/
import Derived.Test.YtbckogojnjmjcaaGreatDoorA4
namespace Go.Proofs.YtbckogojnjmjcaaGreatDoor
open Go.RowKit Go.Shelf

/-- What takeWord answers. -/
def TwR (s : Bs) (e : Ending) : Prop := (∃ t w r, Wd t w ∧ Fit r ∧ s = t ++ r ∧ e = .returned (.tuple #[str w, str r, .bool true])) ∨ (NoWd s ∧ ∃ a b, e = .returned (.tuple #[str a, str b, .bool false]))
theorem split_bare (s : Bs) : s = s.takeWhile bareB ++ s.dropWhile bareB := List.takeWhile_append_dropWhile.symm
theorem noWd_bare {s : Bs} (h34 : s.head? ≠ some 34) (h : s.takeWhile bareB = [] ∨ ¬ Fit (s.dropWhile bareB)) : NoWd s := by
  rintro t w r hw hf rfl
  rcases hw with ⟨rfl, h1, h2⟩ | rfl
  · have := bare_while h2 hf
    rw [this.1, this.2] at h
    exact h.elim h1 (fun k => k hf)
  · exact h34 rfl
theorem noWd_q {s : Bs} (h : ∀ g r, s = flat g ++ 34 :: r → ¬ Fit r) : NoWd (34 :: s) := by
  rintro t w r hw hf e
  rcases hw with ⟨rfl, h1, h2⟩ | rfl
  · cases t with
    | nil => exact h1 rfl
    | cons c t =>
      simp only [List.cons_append, List.cons.injEq] at e
      rw [← e.1] at h2
      simp [bareB] at h2
  · simp only [List.cons_append, List.cons.injEq, true_and, List.append_assoc, List.nil_append] at e
    exact h w r e hf
/-- How a text goes on. -/
theorem fit_cases (r : Bs) : r = [] ∨ ∃ c q, r = c :: q := by cases r with
  | nil => exact .inl rfl
  | cons c q => exact .inr ⟨c, q, rfl⟩
theorem not_fit {c : UInt8} {q : Bs} (h : c ≠ 32) : ¬ Fit (c :: q) := by
  rintro (k | ⟨q', k⟩)
  · cases k
  · injection k with k _; exact h k
set_option maxRecDepth 100000 in
theorem takeWord_any (s : Bs) (hs : s ≠ []) (hl : s.length ≤ 1000000) (w : World) (hv : Vars w) : Calls Tryz.prog 34 #[str s] w fun e w' => TwR s e ∧ Below w.heap.size w w' := by
  have hz : (⟨s.toArray⟩ : ByteArray).size = s.length := by show s.toArray.size = _; simp
  obtain ⟨c0, s1, hse⟩ : ∃ c0 s1, s = c0 :: s1 := by cases s with
    | nil => exact absurd rfl hs
    | cons c s => exact ⟨c, s, rfl⟩
  have h0l : 0 < s.length := by rw [hse]; simp
  have hx0 : (⟨s.toArray⟩ : ByteArray)[0]'(by rw [hz]; exact h0l) = c0 := by
    show s[0] = c0
    simp [hse]
  have HSE : Hid (s = c0 :: s1) := hse
  clear hs hse
  unfold str
  by_cases h34 : c0 = 34
  · subst h34
    have hext : (⟨s.toArray⟩ : ByteArray).extract 1 s.length = ⟨s1.toArray⟩ := by rw [ext_eq, HSE.out]; simp
    have HTQ := takeQuoted_any s1 (by have := congrArg List.length HSE.out; simp at this; omega) w hv
    unfold str at HTQ
    go_enter Tryz.func34, Tryz.ntmps34
    go_wp2_with fail
    refine HTQ.mono ?_
    rintro e w1 ⟨⟨h, r, he, rfl⟩ | ⟨hn, rfl⟩, hB1⟩
    · have HNO : Hid (¬ Fit r → NoWd s) := fun hf => by
        rw [HSE.out]
        refine noWd_q (fun g r' e => ?_)
        rw [he] at e
        rw [← (flat_uniq e).2]
        exact hf
      have HYES : Hid (Wd (34 :: (flat h ++ [34])) h ∧ s = (34 :: (flat h ++ [34])) ++ r) := ⟨.inr rfl, by rw [HSE.out, he]; simp⟩
      unfold str
      clear HTQ he
      rcases fit_cases r with hr | ⟨c, q, hr⟩
      · subst hr
        go_wp2
        go_region
        all_goals (
          go_wp2
          go_ret3
          exact ⟨.inl ⟨_, h, _, HYES.out.1, (.inl rfl), HYES.out.2, rfl⟩, hB1.drew⟩)
      · have hrz : (⟨(r).toArray⟩ : ByteArray).size = (r).length := by show (r).toArray.size = _; simp
        have hrl : 0 < (r).length := by rw [hr]; simp
        have hrx : (⟨(r).toArray⟩ : ByteArray)[0]'(by rw [hrz]; exact hrl) = c := by
          show (r)[0] = c
          simp [hr]
        have hre : (r).isEmpty = false := by rw [hr]; rfl
        by_cases h32 : c = 32
        · have HFT : Hid (Fit r) := .inr ⟨q, by rw [hr, h32]⟩
          have hc32 : ((c.toNat : Int) == 32) = true := by rw [h32]; rfl
          clear hr h32
          go_wp2
          go_region
          all_goals (
            go_wp2
            go_ret3
            exact ⟨.inl ⟨_, h, _, HYES.out.1, HFT.out, HYES.out.2, rfl⟩, hB1.drew⟩)
        · have HFT : Hid (¬ Fit r) := by show ¬ _; rw [hr]; exact not_fit h32
          have hc32 : ((c.toNat : Int) == 32) = false := by rw [beq_eq_false_iff_ne]; intro h; exact h32 (u8_eq (by show _ = 32; omega))
          clear hr h32
          go_wp2
          go_region
          all_goals (
            go_wp2
            go_ret3
            exact ⟨.inr ⟨HNO.out HFT.out, h, r, rfl⟩, hB1.drew⟩)
    · have HNO : Hid (NoWd s) := by
        show NoWd s
        rw [HSE.out]
        exact noWd_q (fun g r' e => absurd e (hn g r'))
      unfold str
      clear HTQ hn
      go_wp2
      go_region
      all_goals (
        go_wp2
        go_ret3
        exact ⟨.inr ⟨HNO.out, [], [], rfl⟩, hB1.drew⟩)
  · have h1 : ((c0.toNat : Int) == 34) = false := by rw [beq_eq_false_iff_ne]; intro h; exact h34 (u8_eq (by show _ = 34; omega))
    have HBF := bareFront_any s (by omega) w
    unfold str at HBF
    have hsp := split_bare s
    have HNW : Hid (s.takeWhile bareB = [] ∨ ¬ Fit (s.dropWhile bareB) → NoWd s) := fun h => noWd_bare (by rw [HSE.out]; simpa using h34) h
    have HWD : Hid (s.takeWhile bareB ≠ [] → Wd (s.takeWhile bareB) (s.takeWhile bareB)) := fun h => .inl ⟨rfl, h, List.all_takeWhile⟩
    have hext1 : (⟨s.toArray⟩ : ByteArray).extract 0 (s.takeWhile bareB).length = ⟨(s.takeWhile bareB).toArray⟩ := by
      rw [ext_eq, List.drop_zero]; congr 2
      conv => lhs; arg 2; rw [hsp]
      rw [List.take_left]
    have hext2 : (⟨s.toArray⟩ : ByteArray).extract (s.takeWhile bareB).length s.length = ⟨(s.dropWhile bareB).toArray⟩ := by
      rw [ext_eq, List.take_length]; congr 2
      conv => lhs; arg 2; rw [hsp]
      rw [List.drop_left]
    have hnl : (s.takeWhile bareB).length ≤ s.length := by
      have := congrArg List.length hsp; rw [List.length_append] at this; omega
    have HSP : Hid (s = s.takeWhile bareB ++ s.dropWhile bareB) := hsp
    clear hsp
    generalize s.dropWhile bareB = r at *
    generalize s.takeWhile bareB = t at *
    generalize htn : t.length = n at *
    have HTN : Hid (t.length = n) := htn
    clear htn
    by_cases hn0 : n = 0
    · have HNO : Hid (NoWd s) := HNW.out (.inl (List.length_eq_zero_iff.1 (HTN.out.trans hn0)))
      subst hn0
      go_enter Tryz.func34, Tryz.ntmps34
      go_wp2_with fail
      refine HBF.mono ?_
      rintro e w1 ⟨rfl, hw⟩
      subst w1
      go_wp2
      go_region
      all_goals (
        go_wp2
        go_region
        all_goals (
          go_wp2
          go_ret3
          exact ⟨.inr ⟨HNO.out, [], r, rfl⟩, (Below.refl _ _).drew.drew⟩))
    · have HYES : Hid (Wd t t) := HWD.out (fun h => hn0 (by rw [← HTN.out, h]; rfl))
      have hn1 : 0 < n := by omega
      rcases fit_cases r with hr | ⟨c, q, hr⟩
      · subst hr
        go_enter Tryz.func34, Tryz.ntmps34
        go_wp2_with fail
        refine HBF.mono ?_
        rintro e w1 ⟨rfl, hw⟩
        subst w1
        go_wp2
        go_region
        go_wp2
        go_region
        all_goals (
          go_wp2
          go_ret3
          exact ⟨.inl ⟨t, t, _, HYES.out, (.inl rfl), HSP.out, rfl⟩, (Below.refl _ _).drew.drew⟩)
      · have hrz : (⟨(r).toArray⟩ : ByteArray).size = (r).length := by show (r).toArray.size = _; simp
        have hrl : 0 < (r).length := by rw [hr]; simp
        have hrx : (⟨(r).toArray⟩ : ByteArray)[0]'(by rw [hrz]; exact hrl) = c := by
          show (r)[0] = c
          simp [hr]
        have hre : (r).isEmpty = false := by rw [hr]; rfl
        by_cases h32 : c = 32
        · have HFT : Hid (Fit r) := .inr ⟨q, by rw [hr, h32]⟩
          have hc32 : ((c.toNat : Int) == 32) = true := by rw [h32]; rfl
          clear hr h32
          go_enter Tryz.func34, Tryz.ntmps34
          go_wp2_with fail
          refine HBF.mono ?_
          rintro e w1 ⟨rfl, hw⟩
          subst w1
          go_wp2
          go_region
          go_wp2
          go_region
          all_goals (
            go_wp2
            go_ret3
            exact ⟨.inl ⟨t, t, _, HYES.out, HFT.out, HSP.out, rfl⟩, (Below.refl _ _).drew.drew⟩)
        · have HFT : Hid (¬ Fit r) := by show ¬ _; rw [hr]; exact not_fit h32
          have hc32 : ((c.toNat : Int) == 32) = false := by rw [beq_eq_false_iff_ne]; intro h; exact h32 (u8_eq (by show _ = 32; omega))
          clear hr h32
          go_enter Tryz.func34, Tryz.ntmps34
          go_wp2_with fail
          refine HBF.mono ?_
          rintro e w1 ⟨rfl, hw⟩
          subst w1
          go_wp2
          go_region
          go_wp2
          go_region
          all_goals (
            go_wp2
            go_ret3
            exact ⟨.inr ⟨HNW.out (.inr HFT.out), t, r, rfl⟩, (Below.refl _ _).drew.drew⟩)
end Go.Proofs.YtbckogojnjmjcaaGreatDoor
