/-
  The document's disk: a file is put among the others.
-/
import Derived.Test.YtbjnhohfdpdcnaaRd1
import Derived.BigQuiet
import Derived.WideAt
import Derived.WideShapes
namespace Go.Proofs.Ytbjnhohfdpdcnaa
open Go.RowKit Go.Shelf Go.WideShapes Go.WideAt
set_option linter.unusedVariables false

/-- Where a file of that name goes. -/
def spot (nm : List UInt8) : List Fl → Nat
  | [] => 0
  | f :: r => if Op.bytesLess f.nm nm then spot nm r + 1 else 0
def insF (f : Fl) : List Fl → List Fl
  | [] => [f]
  | y :: q => if Op.bytesLess y.nm f.nm then y :: insF f q else f :: y :: q
theorem spot_le (nm : List UInt8) : ∀ fs : List Fl, spot nm fs ≤ fs.length
  | [] => Nat.le_refl _
  | f :: r => by
    have := spot_le nm r
    unfold spot
    split <;> simp <;> omega
theorem insF_spot (f : Fl) : ∀ fs : List Fl, insF f fs = fs.take (spot f.nm fs) ++ [f] ++ fs.drop (spot f.nm fs)
  | [] => rfl
  | y :: q => by
    have ih := insF_spot f q
    unfold insF spot
    split
    · rw [ih]; simp
    · simp
theorem cellsOf_append (a b : List Fl) : cellsOf (a ++ b) = cellsOf a ++ cellsOf b := by simp [cellsOf]
theorem cellsOf_len (a : List Fl) : (cellsOf a).length = a.length * 3 := by
  induction a with
  | nil => rfl
  | cons f r ih => simp only [cellsOf, List.map_cons, List.flatten_cons, List.length_append, List.length_cons] at *; rw [ih]; simp [Fl.cells]; omega
theorem getD_take {fs : List Fl} {i j : Nat} (h : j < i) : (fs.take i).getD j nilFl = fs.getD j nilFl := by
  simp only [List.getD_eq_getElem?_getD]
  rw [List.getElem?_take_of_lt h]
theorem getD_drop {fs : List Fl} {i j : Nat} : (fs.drop i).getD j nilFl = fs.getD (i + j) nilFl := by
  simp only [List.getD_eq_getElem?_getD]
  rw [List.getElem?_drop]
theorem cellsOf_one {fs : List Fl} : ∀ u ∈ cellsOf fs, u.oneCell' = true := by
  intro u hu
  simp only [cellsOf, List.mem_flatten, List.mem_map] at hu
  obtain ⟨l, ⟨f, -, rfl⟩, hu⟩ := hu
  simp [Fl.cells, Fl.x] at hu
  rcases hu with rfl | rfl | rfl <;> rfl
theorem less_before : ∀ a b : List UInt8, Op.bytesLess a b = bytesBefore a b
  | [], [] => rfl
  | [], _ :: _ => rfl
  | _ :: _, [] => rfl
  | a :: r, b :: s => by simp [Op.bytesLess, bytesBefore, less_before r s]
/-- Among names that rise, where no name is twice: the same place. -/
theorem insF_says (f : Fl) (g : PF) (hfg : f.says = g.says) : ∀ {fs : List Fl} {ps : List PF}, fs.map Fl.says = ps.map PF.says → (∀ q ∈ ps, q.nm ≠ g.nm) → (insF f fs).map Fl.says = (insP g ps).map PF.says
  | [], [], _, _ => by simp [insF, insP, hfg]
  | [], _ :: _, h, _ => by simp at h
  | _ :: _, [], h, _ => by simp at h
  | y :: r, q :: s, h, hn => by
    have h0 := h
    simp only [List.map_cons, List.cons.injEq] at h
    have e1 : y.nm = q.nm := by have := h.1; simp [Fl.says, PF.says] at this; exact this.1
    have e2 : f.nm = g.nm := by have := hfg; simp [Fl.says, PF.says] at this; exact this.1
    have hne := hn q (by simp)
    have ih := insF_says f g hfg h.2 (fun q hq => hn q (by simp [hq]))
    unfold insF insP
    rw [e1, e2, less_before]
    cases hb : bytesBefore q.nm g.nm
    · have : bytesBefore g.nm q.nm = true := (bytes_total q.nm g.nm hne).resolve_left (by simp [hb])
      rw [this]
      simp [hfg, h.1, h.2]
    · have : bytesBefore g.nm q.nm = false := by
        cases hc : bytesBefore g.nm q.nm
        · rfl
        · have := bytes_trans _ _ _ hb hc
          rw [bytes_irrefl] at this
          cases this
      rw [this]
      simp [h.1, ih]

/-- Cells of files that lie in memory. -/
theorem FlsAt.cellsAt {N : Nat} {w : World} {b off : Nat} {fs : List Fl} (h : ∀ i, i < fs.length → FlAt N w b (off + i * 3) (fs.getD i nilFl)) : ∀ j u, (cellsOf fs)[j]? = some u → w.cell? ⟨b, off + j, none⟩ = some u := by
  intro j u hj
  have hl : j < (cellsOf fs).length := (List.getElem?_eq_some_iff.1 hj).1
  rw [cellsOf_len] at hl
  have e := cellsOf_at fs (j / 3) (j % 3) (by omega) (by omega)
  rw [show j / 3 * 3 + j % 3 = j by omega, hj] at e
  obtain ⟨c0, c1, c2, -⟩ := h (j / 3) (by omega)
  have hm : j % 3 = 0 ∨ j % 3 = 1 ∨ j % 3 = 2 := by omega
  rcases hm with hm | hm | hm
  · rw [hm] at e
    have : u = .string ⟨(fs.getD (j / 3) nilFl).nm.toArray⟩ := by simpa [Fl.cells] using e
    rw [this, ← c0]; congr 2; omega
  · rw [hm] at e
    have : u = (fs.getD (j / 3) nilFl).x := by simpa [Fl.cells] using e
    rw [this, ← c1]; congr 2; omega
  · rw [hm] at e
    have : u = .int .i64 (fs.getD (j / 3) nilFl).syn := by simpa [Fl.cells] using e
    rw [this, ← c2]; congr 2; omega
end Go.Proofs.Ytbjnhohfdpdcnaa
