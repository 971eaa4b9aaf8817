/-
  LogNewer: the walk.
-/
import Derived.Test.YteekpfgjpdopmabBl
namespace Go.Proofs.Yteekpfgjpdopmab
open Go.RowKit
set_option linter.unusedVariables false

theorem newer_self (P : PL) : P.newer P.li P.lt = true := by unfold PL.newer; simp
theorem newer_both (P Q : PL) : (P.newer Q.li Q.lt = true ∧ Q.newer P.li P.lt = true ∧ P.li = Q.li ∧ P.lt = Q.lt) ∨ (P.newer Q.li Q.lt = true ∧ Q.newer P.li P.lt = false ∧ ¬ (P.li = Q.li ∧ P.lt = Q.lt)) ∨ (P.newer Q.li Q.lt = false ∧ Q.newer P.li P.lt = true ∧ ¬ (P.li = Q.li ∧ P.lt = Q.lt)) := by
  unfold PL.newer
  generalize P.li = i
  generalize P.lt = t
  generalize Q.li = j
  generalize Q.lt = u
  simp only [Bool.or_eq_true, Bool.and_eq_true, decide_eq_true_eq, beq_iff_eq, Bool.or_eq_false_iff, Bool.and_eq_false_iff, decide_eq_false_iff_not, beq_eq_false_iff_ne]
  omega

set_option maxRecDepth 100000 in
set_option maxHeartbeats 8000000 in
theorem newer_walk (N : Nat) (va vb : Value) (la lb : List Int) (w : World) (ha : ISl N w va la) (hb : ISl N w vb lb) (hN : N ≤ w.heap.size) :
    Calls Try.prog 5 #[va, vb] w fun e w' => e = .returned (.bool true) ∧ Below w.heap.size w w' := by
  obtain ⟨aa, ca, rfl, -⟩ := id ha
  obtain ⟨ab, cb, rfl, -⟩ := id hb
  have hf := first_any w
  by_cases h1 : 200 < la.length
  · have h1' : (200 : Int) < (la.length : Int) := by omega
    clear ha hb
    go_enter Try.func5, Try.ntmps5
    go_wp2_with (go_at_call 6; refine hf.mono ?_; rintro e w1 ⟨rfl, hB1⟩)
    go_ret
    exact ⟨rfl, hB1⟩
  by_cases h2 : 200 < lb.length
  · have h1' : (la.length : Int) ≤ 200 := by omega
    have h2' : (200 : Int) < (lb.length : Int) := by omega
    clear ha hb
    go_enter Try.func5, Try.ntmps5
    go_wp2_with (go_at_call 6; refine hf.mono ?_; rintro e w1 ⟨rfl, hB1⟩)
    go_ret
    exact ⟨rfl, hB1⟩
  have h1' : (la.length : Int) ≤ 200 := by omega
  have h2' : (lb.length : Int) ≤ 200 := by omega
  have HA : Hid (ISl N w (.slice aa la.length ca) la) := ha
  have HBB : Hid (ISl N w (.slice ab lb.length cb) lb) := hb
  clear ha hb
  obtain ⟨P, hP⟩ : ∃ P, blt P0 (risF 1 la) = P := ⟨_, rfl⟩
  obtain ⟨Q, hQ⟩ : ∃ Q, blt P0 (risF 1 lb) = Q := ⟨_, rfl⟩
  have HC : Hid ((P.newer Q.li Q.lt = true ∧ Q.newer P.li P.lt = true ∧ P.li = Q.li ∧ P.lt = Q.lt) ∨ (P.newer Q.li Q.lt = true ∧ Q.newer P.li P.lt = false ∧ ¬ (P.li = Q.li ∧ P.lt = Q.lt)) ∨ (P.newer Q.li Q.lt = false ∧ Q.newer P.li P.lt = true ∧ ¬ (P.li = Q.li ∧ P.lt = Q.lt))) := newer_both P Q
  go_enter Try.func5, Try.ntmps5
  go_wp2_with fail
  refine hf.mono ?_
  rintro e w1 ⟨rfl, hB1⟩
  have HB1 : Hid (Below w.heap.size w w1) := hB1
  clear hB1 hf
  go_wp2_with fail
  refine (rising_any N _ la w1 (HA.out.below (HB1.out.mono hN)) (by have := HB1.out.size; omega) (by omega)).mono ?_
  rintro e w2 ⟨v2, rfl, hO2, hB2⟩
  have HB2 : Hid (Below w.heap.size w w2) := HB1.out.trans (hB2.mono HB1.out.size)
  obtain ⟨a2, c2, rfl, -, -⟩ := hO2.shape
  go_wp2_with fail
  refine (built_any w2.heap.size _ (risF 1 la) w2 (hO2.sl (Nat.le_refl _)) (Nat.le_refl _) (by rw [risF_length]; omega)).mono ?_
  rintro e w3 ⟨b, S, rfl, hL, hB3⟩
  rw [hP] at hL
  have HL3 : Hid (Lg w2.heap.size S w3 b P) := hL
  have HB3 : Hid (Below w.heap.size w w3) := HB2.out.trans (hB3.mono HB2.out.size)
  clear hL hB2 hB3 hO2 HB1 HA
  go_wp2_with fail
  refine (rising_any N _ lb w3 (HBB.out.below (HB3.out.mono hN)) (by have := HB3.out.size; omega) (by omega)).mono ?_
  rintro e w4 ⟨v4, rfl, hO4, hB4⟩
  obtain ⟨a4, c4, rfl, -, -⟩ := hO4.shape
  have HL4 : Hid (Lg w2.heap.size S w4 b P) := HL3.out.below hB4
  have HB4 : Hid (Below w.heap.size w w4) := HB3.out.trans (hB4.mono HB3.out.size)
  go_wp2_with fail
  refine (built_any w4.heap.size _ (risF 1 lb) w4 (hO4.sl (Nat.le_refl _)) (Nat.le_refl _) (by rw [risF_length]; omega)).mono ?_
  rintro e w5 ⟨b', S', rfl, hL', hB5⟩
  rw [hQ] at hL'
  have HL5 : Hid (Lg w2.heap.size S w5 b P) := HL4.out.below hB5
  have HQ5 : Hid (Lg w4.heap.size S' w5 b' Q) := hL'
  have HB5 : Hid (Below w.heap.size w w5) := HB4.out.trans (hB5.mono HB4.out.size)
  clear hL' hB4 hB5 hO4 HB2 HB3 HB4 HL3 HL4 HBB hP hQ
  go_wp2_with fail
  refine (Last_any HL5.out).mono ?_
  rintro e w6 ⟨rfl, hB6⟩
  have HL6 : Hid (Lg w2.heap.size S w6 b P) := HL5.out.below hB6
  have HQ6 : Hid (Lg w4.heap.size S' w6 b' Q) := HQ5.out.below hB6
  have HB6 : Hid (Below w.heap.size w w6) := HB5.out.trans (hB6.mono HB5.out.size)
  clear hB6 HL5 HQ5 HB5
  go_wp2_with fail
  refine (Last_any HQ6.out).mono ?_
  rintro e w7 ⟨rfl, hB7⟩
  have HL7 : Hid (Lg w2.heap.size S w7 b P) := HL6.out.below hB7
  have HQ7 : Hid (Lg w4.heap.size S' w7 b' Q) := HQ6.out.below hB7
  have HB7 : Hid (Below w.heap.size w w7) := HB6.out.trans (hB7.mono HB6.out.size)
  clear hB7 HL6 HQ6 HB6
  go_wp2_with fail
  refine (Newer_any HL7.out Q.li Q.lt).mono ?_
  rintro e w8 ⟨rfl, hB8⟩
  have HL8 : Hid (Lg w2.heap.size S w8 b P) := HL7.out.below hB8
  have HQ8 : Hid (Lg w4.heap.size S' w8 b' Q) := HQ7.out.below hB8
  have HB8 : Hid (Below w.heap.size w w8) := HB7.out.trans (hB8.mono HB7.out.size)
  clear hB8 HL7 HQ7 HB7
  go_wp2_with fail
  refine (Newer_any HQ8.out P.li P.lt).mono ?_
  rintro e w9 ⟨rfl, hB9⟩
  have HB9 : Hid (Below w.heap.size w w9) := HB8.out.trans (hB9.mono HB8.out.size)
  have hlast := Newer_any (HL8.out.below hB9) P.li P.lt
  rw [newer_self] at hlast
  clear hB9 HL8 HQ8 HB8
  generalize P.newer Q.li Q.lt = one at *
  generalize Q.newer P.li P.lt = two at *
  generalize P.li = i at *
  generalize P.lt = t at *
  generalize Q.li = j at *
  generalize Q.lt = u at *
  rcases HC.out with ⟨rfl, rfl, rfl, rfl⟩ | ⟨rfl, rfl, hne⟩ | ⟨rfl, rfl, hne⟩
  · go_wp2_with fail
    refine hlast.mono ?_
    rintro e w10 ⟨rfl, hB10⟩
    go_wp2
    go_ret
    exact ⟨rfl, HB9.out.trans (hB10.mono HB9.out.size)⟩
  · by_cases hij : i = j
    · have htu : (t == u) = false := by simp; intro h; exact hne ⟨hij, h⟩
      subst hij
      clear hne HC
      go_wp2_with fail
      refine hlast.mono ?_
      rintro e w10 ⟨rfl, hB10⟩
      go_wp2
      go_ret
      exact ⟨rfl, HB9.out.trans (hB10.mono HB9.out.size)⟩
    · have hij' : (i == j) = false := by simpa using hij
      clear hne HC hij
      go_wp2_with fail
      refine hlast.mono ?_
      rintro e w10 ⟨rfl, hB10⟩
      go_wp2
      go_ret
      exact ⟨rfl, HB9.out.trans (hB10.mono HB9.out.size)⟩
  · by_cases hij : i = j
    · have htu : (t == u) = false := by simp; intro h; exact hne ⟨hij, h⟩
      subst hij
      clear hne HC
      go_wp2_with fail
      refine hlast.mono ?_
      rintro e w10 ⟨rfl, hB10⟩
      go_wp2
      go_ret
      exact ⟨rfl, HB9.out.trans (hB10.mono HB9.out.size)⟩
    · have hij' : (i == j) = false := by simpa using hij
      clear hne HC hij
      go_wp2_with fail
      refine hlast.mono ?_
      rintro e w10 ⟨rfl, hB10⟩
      go_wp2
      go_ret
      exact ⟨rfl, HB9.out.trans (hB10.mono HB9.out.size)⟩

theorem logNewer_in (w : World) {a0 : Option Addr} {n0 c0 : Nat} (x0 : List Int) (s0 : ISl w.heap.size w (.slice a0 n0 c0) x0) {a1 : Option Addr} {n1 c1 : Nat} (x1 : List Int) (s1 : ISl w.heap.size w (.slice a1 n1 c1) x1) :
    Calls Try.prog 5 #[.slice a0 n0 c0, .slice a1 n1 c1] w fun e w' => e = .returned (.bool true) ∧ Below w.heap.size w w' :=
  newer_walk w.heap.size _ _ x0 x1 w s0 s1 (Nat.le_refl _)
end Go.Proofs.Yteekpfgjpdopmab
