/-
  A row that was answered, written over from the front on; List and Row beside the two networks.
-/
import Derived.Test.YtefbfjlmhfmiiaaFu
import Derived.Test.YtefbfjlmhfmiiaaLs
import Derived.Test.YtefbfjlmhfmiiaaRt
namespace Go.Proofs.Ytefbfjlmhfmiiaa
open Go.RowKit
set_option linter.unusedVariables false

/-- A row of K's own blocks, the first k of which were written over. -/
def WoR (K : Nat) (w : World) (fa : Option Addr) (fs : List Ml) (k : Nat) : Prop :=
  (fs = [] ∨ ∃ g cur, fa = some ⟨g, 0, none⟩ ∧ K ≤ g ∧ w.heap[g]? = some (.cells cur 41 (0, 0)) ∧ fs.length * 5 ≤ cur.size ∧ ∀ o, k * 5 ≤ o → o < fs.length * 5 → cur.toList[o]? = (mlCells fs)[o]?) ∧
  ∀ e ∈ fs, ∃ l', l'.length = e.d.length ∧ Ow K w (.slice e.a l'.length e.c) l'

theorem WoR.start {K : Nat} {w : World} {fa : Option Addr} {fc : Nat} {fs : List Ml} (h : MlsOw 41 K w (.slice fa fs.length fc) fs) : WoR K w fa fs 0 := by
  refine ⟨?_, fun e he => ⟨e.d, rfl, h.dat e he⟩⟩
  rcases h.row.2 with ⟨h0, h1⟩ | ⟨g, cap, cur, hv, hg, hb, h1, h2, h3, h4⟩
  · exact .inl (by simpa using h1)
  · cases hv
    refine .inr ⟨g, cur, rfl, hg, hb, by rw [h3]; exact Nat.mul_le_mul_right 5 h1, fun o _ ho => ?_⟩
    rw [← h4, List.getElem?_take, if_pos ho]
theorem WoR.below {K : Nat} {w w' : World} {fa : Option Addr} {fs : List Ml} {k : Nat} (h : WoR K w fa fs k) (hB : Below w.heap.size w w') : WoR K w' fa fs k := by
  refine ⟨?_, fun e he => ?_⟩
  · rcases h.1 with h0 | ⟨g, cur, h1, h2, h3, h4⟩
    · exact .inl h0
    · exact .inr ⟨g, cur, h1, h2, (hB.block g (Array.getElem?_eq_some_iff.1 h3).1).trans h3, h4⟩
  · obtain ⟨l', h1, h2⟩ := h.2 e he
    exact ⟨l', h1, h2.below hB (Nat.le_refl _)⟩
/-- What stands at a place that was not yet written over. -/
theorem WoR.at {K : Nat} {w : World} {fa : Option Addr} {fs : List Ml} {k : Nat} (h : WoR K w fa fs k) (hk : k < fs.length) : ∃ g, fa = some ⟨g, 0, none⟩ ∧ K ≤ g ∧ g < w.heap.size ∧ w.cell? ⟨g, k * 5 + 3, none⟩ = some (.slice (fs.getD k nilMl).a (fs.getD k nilMl).d.length (fs.getD k nilMl).c) ∧ (∀ j, j < 5 → ∃ u, w.cell? ⟨g, k * 5 + j, none⟩ = some u) ∧ ∀ o, w.frozen? ⟨g, o, none⟩ = false := by
  rcases h.1 with h0 | ⟨g, cur, h1, h2, h3, h4, h5⟩
  · rw [h0] at hk; simp at hk
  · have hlt := (Array.getElem?_eq_some_iff.1 h3).1
    have hm := mlCells_at fs k hk
    have hc : ∀ j, j < 5 → w.cell? ⟨g, k * 5 + j, none⟩ = (mlCells fs)[k * 5 + j]? := fun j hj => by
      simp only [World.cell?, h3]
      rw [← h5 (k * 5 + j) (by omega) (by omega)]
      simp
    refine ⟨g, h1, h2, hlt, (hc 3 (by omega)).trans hm.2.2.2.1, fun j hj => ?_, fun o => by simp [World.frozen?, h3]⟩
    have := hc j hj
    rw [List.getElem?_eq_getElem (by rw [mlCells_length]; omega)] at this
    exact ⟨_, this⟩
/-- Its data's room may be written over. -/
theorem WoR.dat {K : Nat} {w : World} {fa : Option Addr} {fs : List Ml} {k : Nat} (h : WoR K w fa fs k) (hk : k < fs.length) {j : Nat} (hj : j < (fs.getD k nilMl).d.length) (x : UInt8) : ∃ ge u, (fs.getD k nilMl).a = some ⟨ge, 0, none⟩ ∧ w.cell? ⟨ge, j, none⟩ = some u ∧ w.frozen? ⟨ge, j, none⟩ = false ∧ ge < w.heap.size ∧ WoR K (w.setCell ⟨ge, j, none⟩ (encB x)) fa fs k ∧ Below K w (w.setCell ⟨ge, j, none⟩ (encB x)) := by
  obtain ⟨l', h1, h2⟩ := h.2 _ (getD_mem' hk)
  obtain ⟨ge, u, ha, hc, hf, hl⟩ := h2.can j (by omega)
  have hK : K ≤ ge := by rw [ha] at h2; exact (h2.lt (g := ge) rfl).1
  refine ⟨ge, u, ha, hc, hf, hl, ⟨?_, fun e he => ?_⟩, (Below.refl _ w).setCell (by exact hK) _⟩
  · rcases h.1 with h0 | ⟨g, cur, q1, q2, q3, q4⟩
    · exact .inl h0
    · refine .inr ⟨g, cur, q1, q2, (Below.heap_setCell _ _ _ _ (fun e => ?_)).trans q3, q4⟩
      rw [ha] at h2
      exact h2.not_at q3 (by decide) (by rw [show g = ge from e]; rfl)
  · obtain ⟨m, m1, m2⟩ := h.2 e he
    by_cases hb : (Value.slice e.a m.length e.c).ownBlock = some ge
    · rcases m2.2 with ⟨n1, n2⟩ | ⟨g, cap, cur, hv, r⟩
      · rw [n1] at hb; cases hb
      · have hea : e.a = some ⟨g, 0, none⟩ := by injection hv
        rw [hea] at hb m2 ⊢
        have hgg : g = ge := by cases hb; rfl
        subst hgg
        exact ⟨m.set j x, by simpa using m1, by have := m2.store j x; simpa using this⟩
    · exact ⟨m, m1, m2.out (X := fun i => i = ge) (Out.set rfl) (fun g hg e => hb (by rw [hg, e]))⟩
/-- One more written over. -/
theorem WoR.next {K : Nat} {w w' : World} {g : Nat} {fs : List Ml} {k : Nat} (h : WoR K w (some ⟨g, 0, none⟩) fs k) (hk : k < fs.length) (vs : List Value) (hv : vs.length = 5) (hw : w' = w.setCells g (k * 5) vs) : WoR K w' (some ⟨g, 0, none⟩) fs (k + 1) ∧ Below K w w' := by
  subst hw
  rcases h.1 with h0 | ⟨g', cur, q1, q2, q3, q4, q5⟩
  · rw [h0] at hk; simp at hk
  · have e : g = g' := by cases q1; rfl
    subst e
    obtain ⟨cur', c1, c2, c3⟩ := heap_setCells g vs (k * 5) w cur 41 (0, 0) q3
    obtain ⟨o1, o2⟩ := out_setCells g vs (k * 5) w
    have hgl := (Array.getElem?_eq_some_iff.1 q3).1
    refine ⟨⟨.inr ⟨g, cur', rfl, q2, c1, by omega, fun o ho hl => ?_⟩, fun e he => ?_⟩, ?_⟩
    · rw [c3 o, if_neg (by omega)]
      exact q5 o (by omega) hl
    · obtain ⟨m, m1, m2⟩ := h.2 e he
      exact ⟨m, m1, m2.out o1 (fun g' hg' e' => by have e2 : g' = g := e'; rw [e2] at hg'; exact m2.not_at q3 (by decide) hg')⟩
    · by_cases hz : K ≤ w.heap.size
      · exact o1.below hz (fun i hi => by rw [show i = g from hi]; exact q2)
      · omega

/-- What List answers, and that Row holds it for the document's row. -/
theorem FS.list {G : Nat} {w wr : World} {b c m n : Nat} (h : FS G w wr b c m n) : Calls Try.prog 12 #[.pointer (some ⟨b, 0, none⟩)] wr fun r w6 => ∃ (fa : Option Addr) (fs : List Ml) (fc : Nat) (va : Option Addr) (vn : Nat), r = .returned (.slice fa fs.length fc) ∧ (fs.length ≤ 2000 ∧ fs.length ≤ fc ∧ fc ≤ 9223372036854775807) ∧ Below wr.heap.size wr w6 ∧ WoR wr.heap.size w6 fa fs 0 ∧ (∀ e ∈ fs, e.d.length ≤ 140737488355328) ∧ (w6.cell? ⟨c, 1, none⟩ = some (.slice va fs.length vn) ∧ c < w6.heap.size ∧ wr.cell? ⟨c, 1, none⟩ = some (.slice va fs.length vn)) ∧ Calls Try.prog 13 #[.slice fa fs.length fc, .slice va fs.length vn] w6 fun r w7 => r = .returned (.bool true) ∧ Below w6.heap.size w6 w7 := by
  obtain ⟨P, S, T, C, h1, h2, h3, h4⟩ := h
  refine (List_any h1.nt).mono ?_
  rintro r w6 ⟨v, fs, rfl, hR, hs, hB⟩
  obtain ⟨fa, fc, rfl, hfc, hfm⟩ := hR.shape
  have hr6 := h1.rn.below hB
  obtain ⟨va, vn, es, ca, cn, hm, hl, -, -, -, -, -⟩ := hr6.cells
  have hfl : fs.length = P.E.length := by rw [← hs]; simp
  have hc := h1.rn.inn _ h1.rn.Sb
  have hz := hB.size
  have hc6 : w6.cell? ⟨c, 1, none⟩ = some (.slice va fs.length vn) := by rw [hfl]; simp only [World.cell?, hm.blk]; rfl
  refine ⟨fa, fs, fc, va, vn, rfl, ⟨by rw [hfl]; exact h1.rn.ok.row, hfc, by unfold maxLen at hfm; omega⟩, hB, WoR.start hR, fun e he => ?_, ⟨hc6, by omega, ?_⟩, ?_⟩
  · exact h1.nt.ok.dl e.says (by rw [← hs]; exact List.mem_map_of_mem he)
  · rw [← hc6]; exact (hB.cell (p := ⟨c, 1, none⟩) hc).symm
  · have hm' := hm.row
    rw [← hl] at hm'
    have := Row_same (w := w6) fs es (by rw [hs, hm.says]) fa va fc vn hR.at hm'.at (by have := h1.rn.ok.row; omega)
    rw [hl, ← hfl] at this
    exact this
theorem FS.below {G : Nat} {w wr w' : World} {b c m n : Nat} (h : FS G w wr b c m n) (hG : G ≤ w.heap.size) (hB : Below wr.heap.size wr w') : FS G w w' b c m n := by
  obtain ⟨P, S, T, C, h1, h2, h3, h4⟩ := h
  exact ⟨P, S, T, C, h1.below hB, h2.trans (hB.mono (by have := h2.size; omega)), h3, h4⟩
theorem FS.list2 {G : Nat} {w wr : World} {b c m n : Nat} (h : FS G w wr b c m n) {va : Option Addr} {q vn : Nat} (hcl : wr.cell? ⟨c, 1, none⟩ = some (.slice va q vn)) : Calls Try.prog 12 #[.pointer (some ⟨b, 0, none⟩)] wr fun r w6 => ∃ (fa : Option Addr) (fc : Nat), r = .returned (.slice fa q fc) ∧ w6.cell? ⟨c, 1, none⟩ = some (.slice va q vn) ∧ Calls Try.prog 13 #[.slice fa q fc, .slice va q vn] w6 fun r w7 => r = .returned (.bool true) ∧ w7.cell? ⟨c, 1, none⟩ = some (.slice va q vn) ∧ Below wr.heap.size wr w7 := by
  refine h.list.mono ?_
  rintro r w6 ⟨fa, fs, fc, va', vn', rfl, -, hB, -, -, ⟨hc6, hcw, hcr⟩, hR⟩
  have he := hcl.symm.trans hcr
  injection he with he
  injection he with e1 e2 e3
  subst e1 e2 e3
  refine ⟨fa, fc, rfl, hc6, hR.mono ?_⟩
  rintro r w7 ⟨rfl, hB7⟩
  exact ⟨rfl, (hB7.cell (p := ⟨c, 1, none⟩) hcw).trans hc6, hB.trans (hB7.mono hB.size)⟩
end Go.Proofs.Ytefbfjlmhfmiiaa
