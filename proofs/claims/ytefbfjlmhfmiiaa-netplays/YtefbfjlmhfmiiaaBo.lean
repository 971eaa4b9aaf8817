/-
  Both networks, apart.
-/
import Derived.Test.YtefbfjlmhfmiiaaRg
import Derived.Test.YtefbfjlmhfmiiaaRp2
import Derived.Test.YtefbfjlmhfmiiaaRl
import Derived.Test.YtefbfjlmhfmiiaaRt
namespace Go.Proofs.Ytefbfjlmhfmiiaa
open Go.RowKit
set_option linter.unusedVariables false

/-- Both networks are one plain network; their blocks are apart. -/
structure Bo (N : Nat) (S T : Nat → Prop) (w : World) (b c : Nat) (P : PN) (C : List Pr) : Prop where
  nt : Nt N S w b P
  rn : Rn N T w c P C
  ap : ∀ i, S i → ¬ T i
/-- The document's, behind a deed of the other. -/
theorem Bo.mid {N : Nat} {S T : Nat → Prop} {w w1 : World} {b c : Nat} {P P' : PN} {C : List Pr} (h : Bo N S T w b c P C) (h1 : NTh N S w w1 b P') : Rn N T w1 c P C :=
  h.rn.out h1.out (fun i hi hs => h.ap i hs hi)
/-- Behind a deed of both. -/
theorem Bo.step {N : Nat} {S T : Nat → Prop} {w w1 w2 : World} {b c : Nat} {P P' : PN} {C C' : List Pr} (h : Bo N S T w b c P C) (hN : N ≤ w.heap.size) (h1 : NTh N S w w1 b P') (h2 : RTh N T w1 w2 c P' C') : Bo N (grew S w w1) (grew T w1 w2) w2 b c P' C' ∧ Below N w w2 := by
  have hz := h1.out.size
  refine ⟨⟨h1.q.out h2.out (fun i hi ht => ?_), h2.q, fun i hi ht => ?_⟩, (h1.bel hN).trans (h2.bel (by omega))⟩
  · have hlt := h.rn.inn i ht
    rcases hi with hi | hi
    · exact h.ap i hi ht
    · have := hi.1; omega
  · rcases hi with hi | hi
    · rcases ht with ht | ht
      · exact h.ap i hi ht
      · have h3 := h.nt.inn i hi
        have := ht.1
        omega
    · rcases ht with ht | ht
      · have h3 := h.rn.inn i ht
        have := hi.1
        omega
      · have h3 := hi.2
        have := ht.1
        omega
end Go.Proofs.Ytefbfjlmhfmiiaa
