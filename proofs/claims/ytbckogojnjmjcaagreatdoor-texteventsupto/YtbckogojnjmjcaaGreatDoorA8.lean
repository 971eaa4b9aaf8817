/-
  Numbers; words, one behind the other.
-/
import Derived.Test.YtbckogojnjmjcaaGreatDoorRw
import Derived.Test.YtbckogojnjmjcaaGreatDoorNu
import Derived.Lib.AtoiErrMem
namespace Go.Proofs.YtbckogojnjmjcaaGreatDoor
open Go.RowKit Go.Shelf

def isNumB (n : Int) : Bool := decide (-4611686018427387904 ≤ n) && decide (n ≤ 4611686018427387904)
theorem isNumber_any (n : Int) (w : World) : Calls Tryz.prog 78 #[.int .i64 n] w fun e w' => e = .returned (.bool (isNumB n)) ∧ w' = w := by
  unfold isNumB
  cases h1 : decide (-4611686018427387904 ≤ n) <;> cases h2 : decide (n ≤ 4611686018427387904)
  all_goals (
    go_enter Tryz.func78, Tryz.ntmps78
    go_wp2
    go_ret
    exact ⟨rfl, rfl⟩)
/-- What number answers. -/
def NuR (s : Bs) (e : Ending) : Prop := (∃ n, IsNum s n ∧ e = .returned (.tuple #[.int .i64 n, .bool true])) ∨ ((∀ n, ¬ IsNum s n) ∧ e = .returned (.tuple #[.int .i64 0, .bool false]))
/-- How Atoi ends. -/
theorem atoi_any (s : Bs) (hl : s.length ≤ 1000000) (w : World) (hv : Vars w) : Calls Tryz.prog 80 #[.string ⟨s.toArray⟩] w fun e w' => ((∃ v, Lib.atoiAll s = .ok v ∧ e = .returned (.tuple #[.int .i64 v, .nilIface])) ∨ ((∀ v, Lib.atoiAll s ≠ .ok v) ∧ ∃ v t N, e = .returned (.tuple #[.int .i64 v, .iface t (.pointer (some ⟨N, 0, none⟩))]))) ∧ Below w.heap.size w w' := by
  have hz : (⟨s.toArray⟩ : ByteArray).size = s.length := by show s.toArray.size = _; simp
  obtain ⟨tp, q, hs⟩ := hv.syn
  obtain ⟨tp', q', hr⟩ := hv.rng
  cases ha : Lib.atoiAll s with
  | ok v =>
    have k := Any.strconv_Atoi_ok Tryz.laysAtoi ⟨s.toArray⟩ (by rw [hz]; omega) v (by simpa using ha) w
    rw [fAtoi] at k
    refine k.mono ?_
    rintro e w' ⟨rfl, hw⟩
    refine ⟨.inl ⟨v, rfl, rfl⟩, ?_⟩
    rcases hw with rfl | ⟨t, rfl⟩
    · exact Below.refl _ _
    · exact Lib.bytesWorld_below _ _ _
  | «syntax» =>
    have k := Any.strconv_Atoi_syntax_var Tryz.laysAtoi ⟨s.toArray⟩ (by rw [hz]; omega) (by simpa using ha) tp q w hs
    rw [fAtoi] at k
    refine k.mono ?_
    rintro e w' ⟨N, rfl, -, -, hB⟩
    exact ⟨.inr ⟨(fun v h => by cases h), _, _, _, rfl⟩, hB⟩
  | range =>
    have k := Any.strconv_Atoi_range_var Tryz.laysAtoi ⟨s.toArray⟩ (by rw [hz]; omega) (by simpa using ha) tp' q' w hr
    rw [fAtoi] at k
    refine k.mono ?_
    rintro e w' ⟨N, rfl, -, -, hB⟩
    exact ⟨.inr ⟨(fun v h => by cases h), _, _, _, rfl⟩, hB⟩
set_option maxRecDepth 100000 in
theorem number_any (s : Bs) (hl : s.length ≤ 1000000) (w : World) (hv : Vars w) : Calls Tryz.prog 55 #[str s] w fun e w' => NuR s e ∧ Below w.heap.size w w' := by
  have HA := atoi_any s hl w hv
  have HIS := isNumber_any
  unfold str
  go_enter Tryz.func55, Tryz.ntmps55
  go_wp2_with fail
  refine HA.mono ?_
  rintro e w1 ⟨⟨v, hav, rfl⟩ | ⟨hno, v, t, N, rfl⟩, hB1⟩
  · cases hb : isNumB v with
    | false =>
      have HNO : Hid (∀ n, ¬ IsNum s n) := fun n hn => by
        have := atoi_itoa n (by have := hn.1; omega) (by have := hn.2.1; omega)
        rw [hn.2.2, hav] at this
        injection this with this
        subst this
        unfold isNumB at hb
        simp [hn.1, hn.2.1] at hb
      go_wp2_with (go_at_call 78; refine (HIS _ _).mono ?_; rw [hb]; rintro e w2 ⟨rfl, hw⟩; subst w2)
      go_ret2
      exact ⟨.inr ⟨HNO.out, rfl⟩, hB1⟩
    | true =>
      have hr : -4611686018427387904 ≤ v ∧ v ≤ 4611686018427387904 := by unfold isNumB at hb; simpa using hb
      have HIT := itoa_any v (by omega) (by omega) w1 (hv.below hB1)
      unfold str at HIT
      cases hq : (Lib.itoa v == s)
      all_goals go_wp2_with (first
        | (go_at_call 78; refine (HIS _ _).mono ?_; rw [hb]; rintro e w2 ⟨rfl, hw⟩; subst w2)
        | (go_at_call 58; refine HIT.mono ?_; rintro e w3 ⟨rfl, hB3⟩))
      · have HNO : Hid (∀ n, ¬ IsNum s n) := fun n hn => by
          have := atoi_itoa n (by have := hn.1; omega) (by have := hn.2.1; omega)
          rw [hn.2.2, hav] at this
          injection this with this
          subst this
          rw [hn.2.2] at hq
          simp at hq
        go_ret2
        exact ⟨.inr ⟨HNO.out, rfl⟩, hB1.trans (hB3.mono hB1.size)⟩
      · go_ret2
        exact ⟨.inl ⟨v, ⟨hr.1, hr.2, by simpa using hq⟩, rfl⟩, hB1.trans (hB3.mono hB1.size)⟩
  · have HNO : Hid (∀ n, ¬ IsNum s n) := fun n hn => by
      have := atoi_itoa n (by have := hn.1; omega) (by have := hn.2.1; omega)
      rw [hn.2.2] at this
      exact hno _ this
    go_wp2
    go_ret2
    exact ⟨.inr ⟨HNO.out, rfl⟩, hB1⟩
theorem join_any (N : Nat) (w : World) (v : Value) (l : List Bs) (h : SOw N w v l) (hl : l.length ≤ 1000000) (hj : (Lib.join l [32]).length ≤ 1000000000) : Calls Tryz.prog 59 #[v] w fun e w' => e = .returned (str (Lib.join l [32])) ∧ Below w.heap.size w w' := by
  have HJ : Calls Tryz.prog 83 #[v, .string ⟨#[32]⟩] w fun e w' => e = .returned (.string ⟨(Lib.join l [32]).toArray⟩) ∧ Below w.heap.size w w' := by
    have hm : (l.map fun x => (⟨x.toArray⟩ : ByteArray)).map (·.data.toList) = l := by rw [List.map_map]; exact (List.map_congr_left (fun a _ => rfl)).trans (List.map_id l)
    have hm2 : (⟨#[32]⟩ : ByteArray).data.toList = [32] := rfl
    rcases h.parts with ⟨rfl, rfl⟩ | ⟨g, c, rfl, hg1, hg2, hc1, hc2⟩
    · have k := Any.strings_Join_none Tryz.laysJoin extraJ none 0 ⟨#[32]⟩ w
      rw [fJoin] at k
      exact k.mono fun e w' ⟨he, hw⟩ => ⟨he, hw ▸ Below.refl _ _⟩
    · have k := Any.strings_Join Tryz.laysJoin extraJ g 0 c (l.map fun x => (⟨x.toArray⟩ : ByteArray)) ⟨#[32]⟩ w (fun j x hx => by
        rw [List.getElem?_map] at hx
        cases hy : l[j]? with
        | none => rw [hy] at hx; cases hx
        | some y =>
          rw [hy] at hx
          simp only [Option.map_some, Option.some.injEq] at hx
          subst hx
          obtain ⟨hj1, hj2⟩ := List.getElem?_eq_some_iff.1 hy
          have := (h.cell (k := j) hj1).1
          rw [Nat.zero_add, this, List.getD_eq_getElem?_getD, hy]
          rfl) hg2 (by rw [List.length_map]; omega) (by rw [List.length_map]; exact hc1) (by rw [hm, hm2]; omega)
      rw [fJoin, hm, hm2, List.length_map] at k
      exact k
  unfold str
  obtain ⟨a, c, rfl, -, -⟩ := row_shape h
  go_enter Tryz.func59, Tryz.ntmps59
  go_wp2_with (go_at_call 83; refine HJ.mono ?_; rintro e w1 ⟨rfl, hB⟩)
  go_ret
  exact ⟨rfl, hB⟩
end Go.Proofs.YtbckogojnjmjcaaGreatDoor
