/-
  Lists by rising keys: what a map reads as.
-/
import Derived.Test.YtglhjgfaelfleaaGreatProg
import Derived.Below
import Derived.WalkKit
import Derived.WalkSpells
import Derived.WalkLawsBesides
import Derived.Maps.AppendAt
import Derived.Maps.RangeWalk
import Derived.Maps.OwnSet
namespace Go.Proofs.YtglhjgfaelfleaaGreat
open Go.RowKit

/-- How an element of a map reads: as it is. -/
def rdV (v : Value) : Option (DataW Value × List MemPlace) := some (.held v, [])
theorem rdV_inv {v u : Value} {ps : List MemPlace} (h : rdV v = some (.held u, ps)) : v = u := by
  simp [rdV] at h; exact h.1

section
variable {α : Type} (κ : α → Lit) (ν : α → Value)
def ent (x : α) : Lit × DataW Value := (κ x, .held (ν x))
def entsL (xs : List α) : DataW Value := .map (xs.map (ent κ ν))
def lookK (k : Lit) (xs : List α) : Option α := xs.find? (fun x => (κ x).sameKey k)
def delK (k : Lit) (xs : List α) : List α := xs.filter (fun x => !(κ x).sameKey k)
def insK (x : α) : List α → List α
  | [] => [x]
  | y :: q => if (κ x).before (κ y) then x :: y :: q else y :: insK x q
def putK (x : α) (xs : List α) : List α := insK κ x (delK κ (κ x) xs)
/-- By rising keys. -/
def Ris (xs : List α) : Prop := xs.Pairwise (fun x y => (κ x).before (κ y) = true)

theorem has_ents (xs : List α) (k : Lit) : Maps.has (entsL κ ν xs) k = (lookK κ k xs).isSome := by
  unfold entsL lookK
  rw [Maps.has_eq, List.any_map]
  induction xs with
  | nil => rfl
  | cons r q ih =>
    simp only [List.any_cons, List.find?_cons, Function.comp, ent]
    cases h : (κ r).sameKey k
    · simpa [Function.comp, ent] using ih
    · simp
theorem atKey_ents (xs : List α) (k : Lit) (zd : DataW Value) : (entsL κ ν xs).atKey k zd = match lookK κ k xs with | some x => .held (ν x) | none => zd := by
  unfold entsL DataW.atKey lookK
  induction xs with
  | nil => rfl
  | cons r q ih =>
    simp only [List.map_cons, List.find?_cons, ent]
    cases h : (κ r).sameKey k
    · simpa [ent] using ih
    · rfl
theorem del_ents (xs : List α) (k : Lit) : (entsL κ ν xs).del k = entsL κ ν (delK κ k xs) := by
  unfold entsL DataW.del delK
  simp only [List.filter_map]
  rfl
theorem insert_ents (x : α) (xs : List α) : DataW.insert (ent κ ν x) (xs.map (ent κ ν)) = (insK κ x xs).map (ent κ ν) := by
  induction xs with
  | nil => rfl
  | cons y q ih =>
    simp only [List.map_cons, insK, DataW.insert]
    by_cases h : (κ x).before (κ y)
    · rw [if_pos h, if_pos (by simpa [ent] using h)]; rfl
    · rw [if_neg h, if_neg (by simpa [ent] using h), ih]; rfl
theorem put_ents (xs : List α) (x : α) : (entsL κ ν xs).put (κ x) (.held (ν x)) = entsL κ ν (putK κ x xs) := by
  unfold putK
  show DataW.map (DataW.insert (ent κ ν x) _) = _
  unfold entsL
  rw [← insert_ents]
  simp only [delK, List.filter_map]
  rfl
theorem size_ents (xs : List α) : Maps.size (entsL κ ν xs) = xs.length := by simp [entsL, Maps.size]

variable {κ} {ν}
theorem mem_insK {x r : α} {xs : List α} : x ∈ insK κ r xs ↔ x = r ∨ x ∈ xs := by
  induction xs with
  | nil => simp [insK]
  | cons y q ih =>
    unfold insK
    split
    · simp
    · simp only [List.mem_cons, ih]
      constructor
      · rintro (h | h | h) <;> simp [h]
      · rintro (h | h | h) <;> simp [h]
theorem len_insK {r : α} {xs : List α} : (insK κ r xs).length = xs.length + 1 := by
  induction xs with
  | nil => rfl
  | cons y q ih => unfold insK; split <;> simp [ih]
theorem mem_delK {k : Lit} {xs : List α} {x : α} : x ∈ delK κ k xs ↔ x ∈ xs ∧ (κ x).sameKey k = false := by simp [delK]
theorem mem_putK {x r : α} {xs : List α} (h : x ∈ putK κ r xs) : x = r ∨ x ∈ xs := by
  rcases mem_insK.1 h with h | h
  · exact .inl h
  · exact .inr (mem_delK.1 h).1
theorem len_delK (k : Lit) (xs : List α) : (delK κ k xs).length ≤ xs.length := List.length_filter_le _ _
theorem lookK_some {k : Lit} {xs : List α} {x : α} (h : lookK κ k xs = some x) : x ∈ xs ∧ (κ x).sameKey k = true :=
  ⟨List.mem_of_find?_eq_some h, by simpa using List.find?_some h⟩
theorem lookK_none {k : Lit} {xs : List α} (h : lookK κ k xs = none) : ∀ x ∈ xs, (κ x).sameKey k = false := fun x hx => by
  have := List.find?_eq_none.1 h x hx
  simpa using this
theorem delK_none {k : Lit} {xs : List α} (h : lookK κ k xs = none) : delK κ k xs = xs := by
  unfold delK
  exact List.filter_eq_self.2 (fun x hx => by simp [lookK_none h x hx])
theorem len_putK_new {x : α} {xs : List α} (h : lookK κ (κ x) xs = none) : (putK κ x xs).length = xs.length + 1 := by
  unfold putK; rw [len_insK, delK_none h]
theorem len_delK_lt {k : Lit} {xs : List α} {x : α} (hx : lookK κ k xs = some x) : (delK κ k xs).length + 1 ≤ xs.length := by
  unfold delK
  have h1 := lookK_some hx
  have h2 := (List.length_filter_lt_length_iff_exists (p := fun x => !(κ x).sameKey k)).2 ⟨x, h1.1, (by simp [h1.2] : ¬ (!(κ x).sameKey k) = true)⟩
  omega
theorem len_putK_old {x : α} {xs : List α} {y : α} (h : lookK κ (κ x) xs = some y) : (putK κ x xs).length ≤ xs.length := by
  unfold putK; rw [len_insK]; exact len_delK_lt h
end
end Go.Proofs.YtglhjgfaelfleaaGreat
