/-
  Keyed lists by places: what is put lies at its place.
-/
import Derived.Test.YtglhjgfaelfleaaGreatRa
namespace Go.Proofs.YtglhjgfaelfleaaGreat
open Go.RowKit
set_option linter.unusedVariables false

section
variable {α : Type} {κ : α → Lit}
/-- A key's place. -/
def plK (κ : α → Lit) (k : Lit) (xs : List α) : Nat := (xs.takeWhile (fun x => (κ x).before k)).length
theorem plK_cons_yes {y : α} {q : List α} {k : Lit} (h : (κ y).before k = true) : plK κ k (y :: q) = plK κ k q + 1 := by unfold plK; rw [List.takeWhile_cons, h]; rfl
theorem plK_cons_no {y : α} {q : List α} {k : Lit} (h : (κ y).before k = false) : plK κ k (y :: q) = 0 := by unfold plK; rw [List.takeWhile_cons, h]; rfl
theorem before_asym {a b : Lit} (h : a.before b = true) : b.before a = false := by
  cases q : b.before a
  · rfl
  · have := WideShapes.before_trans h q; rw [WideShapes.before_irrefl] at this; cases this
theorem ins_place (hK : ∀ x, WideAt.IsKeyLit (κ x)) {x : α} (ht : ∀ y, κ y ≠ κ x → (κ y).before (κ x) = true ∨ (κ x).before (κ y) = true) : ∀ {xs : List α}, (∀ y ∈ xs, (κ y).sameKey (κ x) = false) → insK κ x xs = xs.take (plK κ (κ x) xs) ++ x :: xs.drop (plK κ (κ x) xs)
  | [], _ => rfl
  | y :: q, h => by
    by_cases hb : (κ y).before (κ x) = true
    · unfold insK
      rw [if_neg (by rw [before_asym hb]; simp), plK_cons_yes hb, ins_place hK ht (fun z hz => h z (by simp [hz]))]
      rfl
    · have hne : κ y ≠ κ x := fun e => by
        have := h y (by simp)
        rw [e, WideAt.sameKey_self (hK x)] at this; cases this
      have hx : (κ x).before (κ y) = true := (ht y hne).resolve_left hb
      unfold insK
      rw [if_pos hx, plK_cons_no (by simpa using hb)]
      rfl
theorem putK_new (hK : ∀ x, WideAt.IsKeyLit (κ x)) {x : α} (ht : ∀ y, κ y ≠ κ x → (κ y).before (κ x) = true ∨ (κ x).before (κ y) = true) {xs : List α} (hn : lookK κ (κ x) xs = none) : putK κ x xs = xs.take (plK κ (κ x) xs) ++ x :: xs.drop (plK κ (κ x) xs) := by
  unfold putK
  rw [delK_none hn]
  exact ins_place hK ht (lookK_none hn)
theorem del_head (hK : ∀ x, WideAt.IsKeyLit (κ x)) {y : α} {q : List α} (hr : Ris κ (y :: q)) : delK κ (κ y) (y :: q) = q := by
  obtain ⟨h1, h2⟩ := List.pairwise_cons.1 hr
  unfold delK
  rw [List.filter_cons]
  simp only [WideAt.sameKey_self (hK y), Bool.not_true, Bool.false_eq_true, if_false]
  refine List.filter_eq_self.2 (fun z hz => ?_)
  have hb := h1 z hz
  have : (κ z).sameKey (κ y) = false := Maps.sameKey_ne (fun e => by rw [e, WideShapes.before_irrefl] at hb; cases hb)
  simp [this]
theorem del_place (hK : ∀ x, WideAt.IsKeyLit (κ x)) {k : Lit} : ∀ {xs : List α}, Ris κ xs → (h : plK κ k xs < xs.length) → κ xs[plK κ k xs] = k → delK κ k xs = xs.take (plK κ k xs) ++ xs.drop (plK κ k xs + 1)
  | [], _, h, _ => by simp at h
  | y :: q, hr, h, he => by
    cases hb : (κ y).before k with
    | true =>
      have e := plK_cons_yes (q := q) hb
      have h' : plK κ k q < q.length := by rw [e] at h; simpa using h
      have he' : κ q[plK κ k q] = k := by
        have : (y :: q)[plK κ k (y :: q)] = q[plK κ k q] := by simp only [e, List.getElem_cons_succ]
        rw [← this]; exact he
      have hne : (κ y).sameKey k = false := Maps.sameKey_ne (fun e' => by rw [e', WideShapes.before_irrefl] at hb; cases hb)
      have ih := del_place hK (List.pairwise_cons.1 hr).2 h' he'
      rw [e]
      have e2 : delK κ k (y :: q) = y :: delK κ k q := by unfold delK; rw [List.filter_cons, hne]; rfl
      rw [e2, ih]
      rfl
    | false =>
      have e := plK_cons_no (q := q) hb
      have he' : κ y = k := by
        have : (y :: q)[plK κ k (y :: q)] = y := by simp only [e, List.getElem_cons_zero]
        rw [← this]; exact he
      subst he'
      rw [e, del_head hK hr]
      rfl
theorem put_place (hK : ∀ x, WideAt.IsKeyLit (κ x)) {x : α} : ∀ {xs : List α}, Ris κ xs → (h : plK κ (κ x) xs < xs.length) → κ xs[plK κ (κ x) xs] = κ x → putK κ x xs = xs.set (plK κ (κ x) xs) x
  | [], _, h, _ => by simp at h
  | y :: q, hr, h, he => by
    cases hb : (κ y).before (κ x) with
    | true =>
      have e := plK_cons_yes (q := q) hb
      have h' : plK κ (κ x) q < q.length := by rw [e] at h; simpa using h
      have he' : κ q[plK κ (κ x) q] = κ x := by
        have : (y :: q)[plK κ (κ x) (y :: q)] = q[plK κ (κ x) q] := by simp only [e, List.getElem_cons_succ]
        rw [← this]; exact he
      have hne : (κ y).sameKey (κ x) = false := Maps.sameKey_ne (fun e' => by rw [e', WideShapes.before_irrefl] at hb; cases hb)
      have ih := put_place hK (List.pairwise_cons.1 hr).2 h' he'
      rw [e]
      have e2 : putK κ x (y :: q) = y :: putK κ x q := by
        unfold putK delK
        rw [List.filter_cons, hne]
        show insK κ x (y :: _) = _
        conv => lhs; unfold insK
        rw [if_neg (by rw [before_asym hb]; simp)]
      rw [e2, ih]
      rfl
    | false =>
      have e := plK_cons_no (q := q) hb
      have he' : κ y = κ x := by
        have : (y :: q)[plK κ (κ x) (y :: q)] = y := by simp only [e, List.getElem_cons_zero]
        rw [← this]; exact he
      rw [e]
      unfold putK
      rw [← he', del_head hK hr]
      obtain ⟨h1, h2⟩ := List.pairwise_cons.1 hr
      cases q with
      | nil => rfl
      | cons z r =>
        have hz := h1 z (by simp)
        rw [he'] at hz
        conv => lhs; unfold insK
        rw [if_pos hz]
        rfl
end
theorem plc_eq (key : Bs) (ps : List (Bs × Bs)) : plK kP (.string key) ps = plc key ps := rfl
theorem totP (x : Bs × Bs) : ∀ y : Bs × Bs, kP y ≠ kP x → (kP y).before (kP x) = true ∨ (kP x).before (kP y) = true := fun y h => WideAt.bytes_total y.1 x.1 (fun e => h (by simp [kP, e]))
theorem totS (x : Se) : ∀ y : Se, kS y ≠ kS x → (kS y).before (kS x) = true ∨ (kS x).before (kS y) = true := fun y h => by
  have : y.cl ≠ x.cl := fun e => h (by simp [kS, e])
  simp [kS, Lit.before]; omega
end Go.Proofs.YtglhjgfaelfleaaGreat
