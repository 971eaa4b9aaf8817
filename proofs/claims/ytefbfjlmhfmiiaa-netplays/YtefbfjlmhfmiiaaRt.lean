/-
  Both networks: rows that are the same.
-/
import Derived.Test.YtefbfjlmhfmiiaaRr
namespace Go.Proofs.Ytefbfjlmhfmiiaa
open Go.RowKit
set_option linter.unusedVariables false

set_option maxRecDepth 100000 in
set_option maxHeartbeats 8000000 in
/-- Row, of two that say the same. -/
theorem Row_same {w : World} (es fs : List Ml) (hs : es.map Ml.says = fs.map Ml.says) (va fa : Option Addr) (vc fc : Nat) (he : MlsAt w.heap.size w va es) (hf : MlsAt w.heap.size w fa fs) (hn : es.length ≤ 100000) :
    Calls Try.prog 13 #[.slice va es.length vc, .slice fa fs.length fc] w fun r w' => r = .returned (.bool true) ∧ Below w.heap.size w w' := by
  have hl : fs.length = es.length := by have := congrArg List.length hs; simpa using this.symm
  rw [hl]
  have HE : Hid (MlsAt w.heap.size w va es) := he
  have HF : Hid (MlsAt w.heap.size w fa fs) := hf
  have HS : Hid (es.map Ml.says = fs.map Ml.says) := hs
  have HL : Hid (fs.length = es.length) := hl
  clear he hf hs hl
  go_enter Try.func13, Try.ntmps13
  go_wp2_with fail
  go_loopw [5] (fun iv wr => ∃ k : Nat, iv = .int .i64 (k : Int) ∧ k ≤ es.length ∧ Below w.heap.size w wr) (fun iv _ => es.length - (intOf iv).toNat)
  case atStart => exact ⟨0, rfl, Nat.zero_le _, Below.refl _ _⟩
  case round =>
    obtain ⟨k, rfl, hk, hB⟩ := hrel
    have HB : Hid (Below w.heap.size w wr) := hB
    clear hB
    by_cases hlt : k < es.length
    · obtain ⟨g, off, rfl, hg, he⟩ := HE.out.at hlt
      obtain ⟨g', off', rfl, hg', hf⟩ := HF.out.at (i := k) (by rw [HL.out]; exact hlt)
      have he1 := he.below hg HB.out
      have hf1 := hf.below hg' HB.out
      have hsy : (es.getD k nilMl).says = (fs.getD k nilMl).says := by
        have h1 := congrArg (fun l => l[k]?) HS.out
        simp only [List.getElem?_map, List.getElem?_eq_getElem hlt, List.getElem?_eq_getElem (show k < fs.length by rw [HL.out]; exact hlt), Option.map_some, Option.some.injEq] at h1
        rw [List.getD_eq_getElem?_getD, List.getD_eq_getElem?_getD, List.getElem?_eq_getElem hlt, List.getElem?_eq_getElem (show k < fs.length by rw [HL.out]; exact hlt)]
        exact h1
      generalize es.getD k nilMl = e at *
      generalize fs.getD k nilMl = f at *
      have hzw := HB.out.size
      have HMS : Hid (∀ n, Calls Try.prog 31 #[.agg #[.int .i64 e.n, .int .i64 e.f, .int .i64 e.t, e.x, .bool e.s], .agg #[.int .i64 f.n, .int .i64 f.f, .int .i64 f.t, f.x, .bool f.s]] (wr.drewN n) fun r w' => r = .returned (.bool true) ∧ Below w.heap.size w w') := fun n => by
        refine (Mail_same (w := wr.drewN n) (M := wr.heap.size) e f hsy ((he1.mono hzw).2.2.2.2.2.below (below_drewN (Below.refl _ wr) n)) ((hf1.mono hzw).2.2.2.2.2.below (below_drewN (Below.refl _ wr) n)) (Nat.le_refl _)).mono ?_
        rintro r w' ⟨rfl, h2⟩
        exact ⟨rfl, (below_drewN HB.out n).trans (h2.mono hzw)⟩
      obtain ⟨d0, d1, d2, d3, d4, -⟩ := he1
      obtain ⟨f0, f1, f2, f3, f4, -⟩ := hf1
      have i0 : (0 : Int) ≤ (k : Int) := by omega
      have i1 : (k : Int) < (es.length : Int) := by omega
      unfold Ml.x at d3 f3 HMS
      clear he hf hsy
      go_wp2_with fail
      go_region_law (first
        | (go_simp; go_at_call 31; refine (HMS.out 1).mono ?_; rintro r w2 ⟨rfl, hB2⟩; have HB2 : Hid (Below w.heap.size w w2) := hB2; clear hB2)
        | fail)
      all_goals go_wp2
      all_goals exact ⟨⟨k + 1, by go_num, by omega, HB2.out⟩, by simp [intOf]; omega⟩
    · have hke : ¬ (k : Int) < (es.length : Int) := by omega
      go_wp2
      go_ret
      exact ⟨rfl, HB.out⟩
end Go.Proofs.Ytefbfjlmhfmiiaa
