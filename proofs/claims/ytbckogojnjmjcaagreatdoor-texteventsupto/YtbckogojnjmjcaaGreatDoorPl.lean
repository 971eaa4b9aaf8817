/-
  Words and lines, plainly.
-/
import Derived.Lib.ItoaNum
import Derived.Lib.AtoiAll
import Derived.Lib.Strings
import Derived.Lib.Join
import Derived.Lib.TrimByte
namespace Go.Proofs.YtbckogojnjmjcaaGreatDoor
open Go

abbrev Bs := List UInt8
/-- May a byte stand in a bare word? -/
def bareB (c : UInt8) : Bool := decide (32 < c.toNat) && decide (c.toNat ≤ 126) && decide (c.toNat ≠ 34)
def hexD (n : Nat) : UInt8 := if n < 10 then UInt8.ofNat (48 + n) else UInt8.ofNat (87 + n)
/-- A byte as it stands in a quoted word. -/
def spell (c : UInt8) : Bs :=
  if c.toNat = 34 ∨ c.toNat = 92 then [92, c] else if 32 ≤ c.toNat ∧ c.toNat ≤ 126 then [c] else [92, 120, hexD (c.toNat / 16), hexD (c.toNat % 16)]
theorem u8_eq {c d : UInt8} (h : c.toNat = d.toNat) : c = d := UInt8.toNat_inj.1 h
theorem u8_ne {c : UInt8} {n : Nat} (hn : n < 256) (h : c.toNat ≠ n) : c ≠ UInt8.ofNat n := fun e => h (by rw [e]; simp; omega)
theorem hexD_inj : ∀ i j : Fin 16, hexD i.val = hexD j.val → i = j := by decide
theorem hexD_inj' {i j : Nat} (hi : i < 16) (hj : j < 16) (h : hexD i = hexD j) : i = j := by
  have := hexD_inj ⟨i, hi⟩ ⟨j, hj⟩ h
  injection this
/-- The three forms of a byte. -/
theorem spell_cases (c : UInt8) : ((c = 34 ∨ c = 92) ∧ spell c = [92, c]) ∨ (32 ≤ c.toNat ∧ c.toNat ≤ 126 ∧ c ≠ 34 ∧ c ≠ 92 ∧ spell c = [c]) ∨ ((c.toNat < 32 ∨ 126 < c.toNat) ∧ spell c = [92, 120, hexD (c.toNat / 16), hexD (c.toNat % 16)]) := by
  unfold spell
  by_cases h1 : c.toNat = 34 ∨ c.toNat = 92
  · refine .inl ⟨?_, by rw [if_pos h1]⟩
    rcases h1 with h | h
    · exact .inl (u8_eq h)
    · exact .inr (u8_eq h)
  · rw [if_neg h1]
    by_cases h2 : 32 ≤ c.toNat ∧ c.toNat ≤ 126
    · refine .inr (.inl ⟨h2.1, h2.2, ?_, ?_, by rw [if_pos h2]⟩)
      · rintro rfl; exact h1 (.inl rfl)
      · rintro rfl; exact h1 (.inr rfl)
    · exact .inr (.inr ⟨by omega, by rw [if_neg h2]⟩)
theorem spell_pf {c d : UInt8} {r s : Bs} (h : spell c ++ r = spell d ++ s) : c = d ∧ r = s := by
  have hc := c.toNat_lt
  have hd := d.toNat_lt
  rcases spell_cases c with ⟨h1, e1⟩ | ⟨a1, b1, n1, m1, e1⟩ | ⟨h1, e1⟩ <;> rcases spell_cases d with ⟨h2, e2⟩ | ⟨a2, b2, n2, m2, e2⟩ | ⟨h2, e2⟩ <;> rw [e1, e2] at h <;> simp only [List.cons_append, List.nil_append, List.cons.injEq] at h
  · exact ⟨h.2.1, h.2.2⟩
  · exact absurd h.1.symm m2
  · rcases h1 with rfl | rfl <;> exact absurd h.2.1 (by decide)
  · exact absurd h.1 m1
  · exact h
  · exact absurd h.1 m1
  · rcases h2 with rfl | rfl <;> exact absurd h.2.1 (by decide)
  · exact absurd h.1.symm m2
  · have x1 := hexD_inj' (by omega) (by omega) h.2.2.1
    have x2 := hexD_inj' (by omega) (by omega) h.2.2.2.1
    exact ⟨u8_eq (by omega), h.2.2.2.2⟩
theorem spell_no34 {c : UInt8} {r s : Bs} (h : 34 :: r = spell c ++ s) : False := by
  rcases spell_cases c with ⟨h1, e1⟩ | ⟨a1, b1, n1, m1, e1⟩ | ⟨h1, e1⟩ <;> rw [e1] at h <;> simp only [List.cons_append, List.nil_append, List.cons.injEq] at h
  · exact absurd h.1 (by decide)
  · exact n1 h.1.symm
  · exact absurd h.1 (by decide)
theorem spell_len (c : UInt8) : 1 ≤ (spell c).length ∧ (spell c).length ≤ 4 := by
  rcases spell_cases c with ⟨h1, e1⟩ | ⟨a1, b1, n1, m1, e1⟩ | ⟨h1, e1⟩ <;> rw [e1] <;> simp
/-- What a quoted word spells. -/
def flat (h : Bs) : Bs := h.flatMap spell
theorem flat_nil : flat [] = [] := rfl
theorem flat_cons (c : UInt8) (h : Bs) : flat (c :: h) = spell c ++ flat h := rfl
theorem flat_snoc (h : Bs) (c : UInt8) : flat (h ++ [c]) = flat h ++ spell c := by simp [flat]
theorem flat_cut : ∀ (h : Bs) {s : Bs} {g r : Bs}, flat h ++ s = flat g ++ 34 :: r → ∃ g', g = h ++ g' ∧ s = flat g' ++ 34 :: r
  | [], s, g, r, e => ⟨g, rfl, e⟩
  | c :: h, s, [], r, e => by
    rw [flat_cons, List.append_assoc, flat_nil, List.nil_append] at e
    exact (spell_no34 e.symm).elim
  | c :: h, s, d :: g, r, e => by
    rw [flat_cons, flat_cons, List.append_assoc, List.append_assoc] at e
    obtain ⟨rfl, e2⟩ := spell_pf e
    obtain ⟨g', rfl, e3⟩ := flat_cut h e2
    exact ⟨g', rfl, e3⟩
theorem flat_uniq {h g r s : Bs} (e : flat h ++ 34 :: r = flat g ++ 34 :: s) : h = g ∧ r = s := by
  obtain ⟨g', rfl, e2⟩ := flat_cut h e
  cases g' with
  | nil => simp only [flat_nil, List.nil_append, List.cons.injEq, true_and] at e2; exact ⟨by simp, e2⟩
  | cons c g' => rw [flat_cons, List.append_assoc] at e2; exact (spell_no34 e2).elim
theorem flat_len (h : Bs) : h.length ≤ (flat h).length ∧ (flat h).length ≤ 4 * h.length := by
  induction h with
  | nil => simp [flat]
  | cons c h ih => have := spell_len c; rw [flat_cons, List.length_append, List.length_cons]; omega
/-- A text that stands for a word. -/
def Wd (t w : Bs) : Prop := (t = w ∧ w ≠ [] ∧ w.all bareB = true) ∨ t = 34 :: (flat w ++ [34])
/-- A word ends here. -/
def Fit (r : Bs) : Prop := r = [] ∨ ∃ q, r = 32 :: q
theorem bareB_iff {c : UInt8} : bareB c = true ↔ 32 < c.toNat ∧ c.toNat ≤ 126 ∧ c.toNat ≠ 34 := by unfold bareB; simp [and_assoc]
theorem bare_while {t r : Bs} (ht : t.all bareB = true) (hr : Fit r) : (t ++ r).takeWhile bareB = t ∧ (t ++ r).dropWhile bareB = r := by
  have h32 : bareB 32 = false := by decide
  induction t with
  | nil =>
    rcases hr with rfl | ⟨q, rfl⟩
    · exact ⟨rfl, rfl⟩
    · simp [h32]
  | cons c t ih =>
    simp only [List.all_cons, Bool.and_eq_true] at ht
    have := ih ht.2
    simp [ht.1, this.1, this.2]
theorem Wd.ne {t w : Bs} (h : Wd t w) : ∃ c q, t = c :: q ∧ c ≠ 32 := by
  rcases h with ⟨rfl, h1, h2⟩ | rfl
  · cases t with
    | nil => exact absurd rfl h1
    | cons c q =>
      refine ⟨c, q, rfl, ?_⟩
      rintro rfl
      simp [bareB] at h2
  · exact ⟨34, _, rfl, by decide⟩
theorem Wd.uniq {t w u v r q : Bs} (h : Wd t w) (k : Wd u v) (hr : Fit r) (hq : Fit q) (e : t ++ r = u ++ q) : w = v ∧ r = q := by
  rcases h with ⟨rfl, h1, h2⟩ | rfl <;> rcases k with ⟨rfl, k1, k2⟩ | rfl
  · have a := bare_while h2 hr
    have b := bare_while k2 hq
    rw [e] at a
    exact ⟨a.1.symm.trans b.1, a.2.symm.trans b.2⟩
  · cases t with
    | nil => exact absurd rfl h1
    | cons c t =>
      simp only [List.cons_append, List.cons.injEq] at e
      rw [e.1] at h2
      simp [bareB] at h2
  · cases u with
    | nil => exact absurd rfl k1
    | cons c u =>
      simp only [List.cons_append, List.cons.injEq] at e
      rw [← e.1] at k2
      simp [bareB] at k2
  · simp only [List.cons_append, List.cons.injEq, true_and, List.append_assoc, List.nil_append] at e
    exact flat_uniq e
/-- A line's words. -/
inductive Ln : Bs → List Bs → Prop
  | nil : Ln [] []
  | blank {s : Bs} {ws : List Bs} : Ln s ws → Ln (32 :: s) ws
  | word {t w r : Bs} {ws : List Bs} : Wd t w → Fit r → Ln r ws → Ln (t ++ r) (w :: ws)
theorem Ln.uniq {s : Bs} {ws : List Bs} (h : Ln s ws) : ∀ vs, Ln s vs → ws = vs := by
  induction h with
  | nil =>
    intro vs k
    generalize e : ([] : Bs) = s at k
    cases k with
    | nil => rfl
    | blank _ => cases e
    | word h1 _ _ =>
      obtain ⟨c, q, rfl, _⟩ := h1.ne
      cases e
  | @blank s ws h ih =>
    intro vs k
    generalize e : 32 :: s = s' at k
    cases k with
    | nil => cases e
    | blank k =>
      injection e with _ e
      subst e
      exact ih _ k
    | word h1 _ _ =>
      obtain ⟨c, q, rfl, hc⟩ := h1.ne
      simp only [List.cons_append, List.cons.injEq] at e
      exact absurd e.1.symm hc
  | @word t w r ws h1 h2 h3 ih =>
    intro vs k
    generalize e : t ++ r = s' at k
    cases k with
    | nil =>
      obtain ⟨c, q, rfl, hc⟩ := h1.ne
      cases e
    | blank k =>
      obtain ⟨c, q, rfl, hc⟩ := h1.ne
      simp only [List.cons_append, List.cons.injEq] at e
      exact absurd e.1 hc
    | word k1 k2 k3 =>
      obtain ⟨rfl, rfl⟩ := h1.uniq k1 h2 k2 e
      rw [ih _ k3]
theorem Ln.unblank {s : Bs} {ws : List Bs} : Ln (32 :: s) ws ↔ Ln s ws := by
  refine ⟨fun h => ?_, .blank⟩
  generalize e : 32 :: s = s' at h
  cases h with
  | nil => cases e
  | blank k => injection e with _ e; subst e; exact k
  | word h1 _ _ =>
    obtain ⟨c, q, rfl, hc⟩ := h1.ne
    simp only [List.cons_append, List.cons.injEq] at e
    exact absurd e.1.symm hc
theorem Ln.trim (s : Bs) (ws : List Bs) : Ln (Lib.trimLeftB s 32) ws ↔ Ln s ws := by
  unfold Lib.trimLeftB
  induction s with
  | nil => exact Iff.rfl
  | cons c s ih =>
    by_cases h : c = 32
    · subst h; simp only [List.dropWhile_cons, beq_self_eq_true, if_true]; exact ih.trans Ln.unblank.symm
    · simp [h]
/-- What stands first is no word. -/
def NoWd (s : Bs) : Prop := ∀ t w r, Wd t w → Fit r → s ≠ t ++ r
theorem NoWd.no {c : UInt8} {s : Bs} (h : NoWd (c :: s)) (hc : c ≠ 32) (ws : List Bs) : ¬ Ln (c :: s) ws := by
  intro k
  generalize e : c :: s = s' at k
  cases k with
  | nil => cases e
  | blank k => injection e with e _; exact hc e
  | word h1 h2 _ => exact h _ _ _ h1 h2 e
theorem Ln.first {t w r : Bs} {vs : List Bs} (h1 : Wd t w) (h2 : Fit r) (k : Ln (t ++ r) vs) : ∃ ws, vs = w :: ws ∧ Ln r ws := by
  generalize e : t ++ r = s' at k
  cases k with
  | nil =>
    obtain ⟨c, q, rfl, hc⟩ := h1.ne
    cases e
  | blank k =>
    obtain ⟨c, q, rfl, hc⟩ := h1.ne
    simp only [List.cons_append, List.cons.injEq] at e
    exact absurd e.1 hc
  | word k1 k2 k3 =>
    obtain ⟨rfl, rfl⟩ := h1.uniq k1 h2 k2 e
    exact ⟨_, rfl, k3⟩
/-- A word that holds a text. -/
def quoteL (s : Bs) : Bs := if s ≠ [] ∧ s.head? ≠ some 35 ∧ s.all bareB = true then s else 34 :: (flat s ++ [34])
theorem quote_wd (s : Bs) : Wd (quoteL s) s := by
  unfold quoteL
  split
  · rename_i h; exact .inl ⟨rfl, h.1, h.2.2⟩
  · exact .inr rfl
/-- The words of a line of words, one blank between. -/
theorem line_words {ts ws : List Bs} (hl : ts.length = ws.length) (h : ∀ i, i < ws.length → Wd (ts.getD i []) (ws.getD i [])) : Ln (Lib.join ts [32]) ws := by
  induction ts generalizing ws with
  | nil => cases ws with
    | nil => exact .nil
    | cons _ _ => cases hl
  | cons t ts ih =>
    cases ws with
    | nil => cases hl
    | cons w ws =>
      have h0 : Wd t w := h 0 (by simp)
      have hr := ih (ws := ws) (by simpa using hl) (fun i hi => by simpa using h (i + 1) (by simpa using hi))
      cases ts with
      | nil =>
        cases ws with
        | nil =>
          have := Ln.word h0 (.inl rfl) .nil
          simpa [Lib.join] using this
        | cons _ _ => cases hl
      | cons t' ts =>
        have := Ln.word h0 (.inr ⟨_, rfl⟩) (.blank hr)
        simpa [Lib.join, List.intercalate] using this
end Go.Proofs.YtbckogojnjmjcaaGreatDoor
