/-
  The document's disk: Create, of a disk that is up and not armed.
-/
import Derived.Test.YtbjnhohfdpdcnaaRd4
import Derived.Test.YtbjnhohfdpdcnaaRdn
namespace Go.Proofs.Ytbjnhohfdpdcnaa
open Go.RowKit Go.Shelf
set_option linter.unusedVariables false

theorem says_nm : ∀ {fs : List Fl} {ps : List PF}, fs.map Fl.says = ps.map PF.says → ∀ nm, (∃ f ∈ fs, f.nm = nm) ↔ (lookP nm ps).isSome = true
  | [], [], _, nm => by simp [lookP]
  | [], _ :: _, h, _ => by simp at h
  | _ :: _, [], h, _ => by simp at h
  | f :: r, q :: s, h, nm => by
    simp only [List.map_cons, List.cons.injEq, Fl.says, PF.says, Prod.mk.injEq] at h
    have ih := says_nm h.2 nm
    unfold lookP at ih ⊢
    rw [List.find?_cons]
    by_cases hq : q.nm = nm
    · simp [hq, h.1.1]
    · have : (q.nm == nm) = false := by simpa using hq
      rw [this]
      simp only [List.mem_cons, exists_eq_or_imp, h.1.1, hq, false_or]
      exact ih
theorem sumF_ins (f : Fl) : ∀ fs : List Fl, sumF (insF f fs) = f.dat.length + sumF fs
  | [] => by simp [insF, sumF]
  | y :: q => by
    have ih := sumF_ins f q
    unfold insF
    split
    · simp only [sumF, List.map_cons, List.sum_cons] at *; omega
    · simp [sumF]
theorem len_ins (f : Fl) : ∀ fs : List Fl, (insF f fs).length = fs.length + 1
  | [] => rfl
  | y :: q => by
    have ih := len_ins f q
    unfold insF
    split <;> simp [ih]
/-- What Create leaves of the document's disk. -/
theorem create_rd {N : Nat} {w w' : World} {B : Nat} {p : PD} {v v' : Value} {fs : List Fl} {l nm : List UInt8} (h : RD N w B p v fs l) (hl : (nm == l) = false) (hnone : ∀ f ∈ fs, f.nm ≠ nm) (hfw : fs.length < 256)
    (hd : w'.heap[B]? = some (.cells #[v', .int .i64 (p.arm : Int), .bool p.dn, .string ⟨l.toArray⟩] 30 (0, 0))) (hfi : FilesIn N w' v' (insF ⟨nm, none, 0, [], 0⟩ fs)) : RD N w' B { p with fs := insP ⟨nm, [], 0, false⟩ p.fs } v' (insF ⟨nm, none, 0, [], 0⟩ fs) l := by
  have hps : ∀ q ∈ p.fs, q.nm ≠ nm := fun q hq e => by
    have : (lookP nm p.fs).isSome = true := by
      unfold lookP
      rw [List.find?_isSome]
      exact ⟨q, hq, by simpa using e⟩
    obtain ⟨f, hf, e2⟩ := (says_nm h.sy nm).2 this
    exact hnone f hf e2
  have hsy : (insF ⟨nm, none, 0, [], 0⟩ fs).map Fl.says = (insP ⟨nm, [], 0, false⟩ p.fs).map PF.says := insF_says ⟨nm, none, 0, [], 0⟩ ⟨nm, [], 0, false⟩ rfl h.sy hps
  refine ⟨h.le, hd, hfi, hsy, by rw [len_ins]; omega, ?_, ?_⟩
  · have e := sum_says hsy
    rw [sumF_ins, sum_says h.sy] at e
    have := h.sm
    simp at e
    show sumP (insP ⟨nm, [], 0, false⟩ p.fs) ≤ 16777216
    omega
  · intro f hf
    rcases mem_insP.1 hf with rfl | hf
    · exact hl.symm
    · exact h.la f hf

end Go.Proofs.Ytbjnhohfdpdcnaa
