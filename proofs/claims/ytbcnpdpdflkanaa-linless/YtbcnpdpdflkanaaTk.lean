/-
  The tasks of a search: a key's operations that count, each with its number, its bit and those ahead of it.
-/
import Derived.Test.YtbcnpdpdflkanaaRw
namespace Go.Proofs.Ytbcnpdpdflkanaa
open Go.RowKit

structure Tk where
  op : Lo
  num : Nat
  bit : Nat
  ah : Nat
def Tk.cells (t : Tk) : List Value := [.int .i64 t.op.cl, .int .i64 t.op.sq, .int .i64 t.op.kind, str t.op.key, str t.op.val, str t.op.old, .int .i64 t.op.call, .int .i64 t.op.back, .int .i64 t.op.rp.code, str t.op.rp.val, .int .i64 t.num, .int .u64 t.bit, .int .u64 t.ah]
def Tk.v (t : Tk) : Value := .agg #[.int .i64 t.op.cl, .int .i64 t.op.sq, .int .i64 t.op.kind, str t.op.key, str t.op.val, str t.op.old, .int .i64 t.op.call, .int .i64 t.op.back, .int .i64 t.op.rp.code, str t.op.rp.val, .int .i64 t.num, .int .u64 t.bit, .int .u64 t.ah]
def tCells (ts : List Tk) : List Value := ts.flatMap Tk.cells
theorem tyT : Ty 66 77 (.agg (⟨lo0, 0, 0, 0⟩ : Tk).cells.toArray) 13 136 := ⟨Try.underlying66, by kernel_rfl, rfl, by decide, by decide⟩

theorem flat_get {α : Type} (f : α → List Value) {sz : Nat} (hf : ∀ x, (f x).length = sz) : ∀ (l : List α) (i j : Nat) (hi : i < l.length), j < sz → (l.flatMap f)[i * sz + j]? = (f l[i])[j]?
  | [], i, j, hi, _ => by simp at hi
  | x :: l, 0, j, hi, hj => by
    rw [List.flatMap_cons, List.getElem?_append_left (by rw [hf]; omega)]
    simp
  | x :: l, i + 1, j, hi, hj => by
    rw [List.flatMap_cons, List.getElem?_append_right (by rw [hf, Nat.add_mul]; omega), hf, show (i + 1) * sz + j - sz = i * sz + j by rw [Nat.add_mul]; omega, flat_get f hf l i j (by simpa using hi) hj]
    simp
theorem flat_len {α : Type} (f : α → List Value) {sz : Nat} (hf : ∀ x, (f x).length = sz) : ∀ (l : List α), (l.flatMap f).length = l.length * sz
  | [] => by simp
  | x :: l => by rw [List.flatMap_cons, List.length_append, hf, flat_len f hf l, List.length_cons, Nat.add_mul]; omega
theorem flat_take {α : Type} (f : α → List Value) {sz : Nat} (hf : ∀ x, (f x).length = sz) (l m : List α) : ((l ++ m).flatMap f).take (l.length * sz) = l.flatMap f := by
  rw [List.flatMap_append, ← flat_len f hf l, List.take_left']
  rfl
theorem tCells_len (ts : List Tk) : (tCells ts).length = ts.length * 13 := flat_len Tk.cells (fun _ => rfl) ts

/-- The thirteen cells of a task. -/
def TAt (w : World) (g i : Nat) (t : Tk) : Prop :=
  OpAt w g (i * 13) t.op ∧ w.cell? ⟨g, i * 13 + 10, none⟩ = some (.int .i64 t.num) ∧ w.cell? ⟨g, i * 13 + 11, none⟩ = some (.int .u64 t.bit) ∧ w.cell? ⟨g, i * 13 + 12, none⟩ = some (.int .u64 t.ah)
def tk0 : Tk := ⟨lo0, 0, 0, 0⟩
def tat (ts : List Tk) (i : Nat) : Tk := ts[i]?.getD tk0
/-- Tasks of the call's own. -/
def TOw (N : Nat) (w : World) (v : Value) (ts : List Tk) : Prop := w.ownsRow N 77 13 v ts.length (tCells ts)

theorem TOw.at {N : Nat} {w : World} {gg c : Nat} {ts : List Tk} (h : TOw N w (.slice (some ⟨gg, 0, none⟩) ts.length c) ts) {i : Nat} (hi : i < ts.length) : TAt w gg i (tat ts i) ∧ ∀ j, j < 13 → w.frozen? ⟨gg, i * 13 + j, none⟩ = false := by
  have key : ∀ j, j < 13 → w.cell? ⟨gg, i * 13 + j, none⟩ = some ((tat ts i).cells.getD j undef) := fun j hj => by
    rw [(row_cell h (by omega)).1]
    have := flat_get Tk.cells (fun _ => rfl) ts i j hi hj
    unfold tCells tat
    rw [List.getD_eq_getElem?_getD, this, List.getElem?_eq_getElem hi, ← List.getD_eq_getElem?_getD]
    rfl
  refine ⟨⟨⟨key 0 (by omega), key 1 (by omega), key 2 (by omega), key 3 (by omega), key 4 (by omega), key 5 (by omega), key 6 (by omega), key 7 (by omega), key 8 (by omega), key 9 (by omega)⟩, key 10 (by omega), key 11 (by omega), key 12 (by omega)⟩, fun j hj => (row_cell h (by omega)).2⟩

/-! ### which they are -/
/-- The tasks of the numbers ns, with their masks f. -/
def tl (h : List Lo) (ns : List Nat) (f : Nat → Nat) : List Tk := (List.range ns.length).map fun j => ⟨oat h (ns.getD j 0), ns.getD j 0, 2 ^ j, f j⟩
theorem tl_len (h : List Lo) (ns : List Nat) (f : Nat → Nat) : (tl h ns f).length = ns.length := by simp [tl]
theorem tl_at (h : List Lo) (ns : List Nat) (f : Nat → Nat) {i : Nat} (hi : i < ns.length) : tat (tl h ns f) i = ⟨oat h (ns.getD i 0), ns.getD i 0, 2 ^ i, f i⟩ := by
  unfold tat tl
  simp [List.getElem?_map, List.getElem?_range hi]
theorem tl_snoc (h : List Lo) (ns : List Nat) (k : Nat) : tl h (ns ++ [k]) (fun _ => 0) = tl h ns (fun _ => 0) ++ [⟨oat h k, k, 2 ^ ns.length, 0⟩] := by
  unfold tl
  rw [List.length_append, List.length_singleton, List.range_succ, List.map_append]
  congr 1
  · apply List.map_congr_left
    intro j hj
    have hj' := List.mem_range.1 hj
    simp only [List.getD_eq_getElem?_getD, List.getElem?_append_left hj']
  · simp
theorem tl_congr (h : List Lo) (ns : List Nat) {f g : Nat → Nat} (he : ∀ j, j < ns.length → f j = g j) : tl h ns f = tl h ns g := by
  unfold tl
  apply List.map_congr_left
  intro j hj
  rw [he j (List.mem_range.1 hj)]
theorem tCells_set (ts : List Tk) (i x : Nat) (hi : i < ts.length) : (tCells ts).set (i * 13 + 12) (.int .u64 x) = tCells (ts.set i { tat ts i with ah := x }) := by
  induction ts generalizing i with
  | nil => simp at hi
  | cons t ts ih =>
    cases i with
    | zero => rfl
    | succ i =>
      have := ih i (by simpa using hi)
      show (t.cells ++ tCells ts).set _ _ = t.cells ++ tCells (ts.set i _)
      rw [show (i + 1) * 13 + 12 = (i * 13 + 12) + 13 by omega]
      have hs : ∀ (u : List Value) (x : Value) (k : Nat), (t.cells ++ u).set (k + 13) x = t.cells ++ u.set k x := fun u x k => by
        rw [List.set_append_right _ _ (by show 13 ≤ _; omega)]
        rfl
      rw [hs, this]
      rfl
theorem tl_set (h : List Lo) (ns : List Nat) (f : Nat → Nat) (i x : Nat) (hi : i < ns.length) : (tl h ns f).set i { tat (tl h ns f) i with ah := x } = tl h ns (fun j => if j = i then x else f j) := by
  apply List.ext_getElem?
  intro j
  rw [List.getElem?_set, tl_len, tl_at h ns f hi]
  by_cases e : i = j
  · subst e
    rw [if_pos rfl, if_pos hi]
    unfold tl
    simp [List.getElem?_map, List.getElem?_range hi]
  · rw [if_neg e]
    unfold tl
    rw [List.getElem?_map, List.getElem?_map]
    by_cases hj : j < ns.length
    · rw [List.getElem?_range hj]
      simp [Ne.symm e]
    · rw [List.getElem?_eq_none (by simpa using hj)]
      rfl

/-- Those of the first m that were answered ahead of i's call. -/
def isAh (ops : Nat → Lo) (i m : Nat) : Bool := decide ((ops m).back ≠ 0) && decide ((ops m).back < (ops i).call)
def ahM (ops : Nat → Lo) (i : Nat) : Nat → Nat
  | 0 => 0
  | m + 1 => if isAh ops i m then ahM ops i m ||| 2 ^ m else ahM ops i m
theorem ahM_test (ops : Nat → Lo) (i : Nat) : ∀ (m j : Nat), (ahM ops i m).testBit j = (decide (j < m) && isAh ops i j)
  | 0, j => by simp [ahM]
  | m + 1, j => by
    unfold ahM
    by_cases hc : isAh ops i m = true
    · rw [if_pos hc, Nat.testBit_or, ahM_test ops i m j, Nat.testBit_two_pow]
      by_cases e : m = j
      · subst e; simp [hc]
      · by_cases hj : j < m
        · simp [hj, e, show j < m + 1 by omega]
        · simp [hj, e, show ¬ j < m + 1 by omega]
    · rw [if_neg hc, ahM_test ops i m j]
      by_cases e : m = j
      · subst e; simp at hc; simp [hc]
      · by_cases hj : j < m
        · simp [hj, show j < m + 1 by omega]
        · simp [hj, show ¬ j < m + 1 by omega]
theorem ahM_lt (ops : Nat → Lo) (i : Nat) : ∀ (m : Nat), ahM ops i m < 2 ^ m
  | 0 => by simp [ahM]
  | m + 1 => by
    unfold ahM
    have h1 := ahM_lt ops i m
    have h2 : (2 : Nat) ^ m < 2 ^ (m + 1) := Nat.pow_lt_pow_right (by omega) (by omega)
    split
    · exact Nat.or_lt_two_pow (by omega) h2
    · omega
theorem pow_le {m : Nat} (h : m ≤ 12) : (2 : Nat) ^ m ≤ 4096 := Nat.le_trans (Nat.pow_le_pow_right (by omega) h) (by decide)
/-- The operations of the numbers. -/
def nops (h : List Lo) (ns : List Nat) (j : Nat) : Lo := oat h (ns.getD j 0)
def tasks (h : List Lo) (key : Bs) : List Tk := tl h (nums h key) (fun j => ahM (nops h (nums h key)) j (nums h key).length)
end Go.Proofs.Ytbcnpdpdflkanaa
