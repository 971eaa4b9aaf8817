/-
  does: any operation.
-/
import Derived.Test.YthaoobfldponpaaDqf
import Derived.Test.YthaoobfldponpaaDq3
import Derived.Test.YthaoobfldponpaaDq5
import Derived.Test.YthaoobfldponpaaDq1e
import Derived.Test.YthaoobfldponpaaDq2e
import Derived.Test.YthaoobfldponpaaDq2
import Derived.Test.YthaoobfldponpaaDq1
import Derived.Test.YthaoobfldponpaaDq0
import Derived.Test.YthaoobfldponpaaDq4l
import Derived.Test.YthaoobfldponpaaDq4n
import Derived.Test.YthaoobfldponpaaDq4e
import Derived.Test.YthaoobfldponpaaDq4m
namespace Go.Proofs.Ythaoobfldponpaa
open Go.RowKit
set_option linter.unusedVariables false

theorem does_any {N : Nat} {S S' : Nat → Prop} {w : World} {p R q R' : Nat} {la lb : List Int} {va vb : Value} (h : Qp N S S' w p R q R' la lb va vb) (hN : N ≤ w.heap.size) (k n ln : Int) :
    Calls Try.prog 11 #[.pointer (some ⟨p, 0, none⟩), .pointer (some ⟨q, 0, none⟩), va, vb, .int .i64 (R : Int), .int .i64 (R' : Int), .agg #[.int .i64 k, .int .i64 n, .int .i64 ln]] w fun e w' => Dn N w p R q R' (doL R' R la lb k n).1 (doL R' R la lb k n).2 e w' := by
  unfold doL
  by_cases h0 : k = 0
  · subst h0
    rw [if_pos rfl]
    unfold putL
    by_cases hf : la.length < R
    · rw [if_pos hf]; exact does0 h hN 0 n ln hf
    · rw [if_neg hf]; exact does0f h hN 0 n ln hf
  rw [if_neg h0]
  by_cases h1 : k = 1
  · subst h1
    rw [if_pos rfl]
    cases la with
    | nil => exact does1e h hN 1 n ln rfl
    | cons x l => exact does1 h hN 1 n ln x l rfl
  rw [if_neg h1]
  by_cases h2 : k = 2
  · subst h2
    rw [if_pos rfl]
    cases la with
    | nil => exact does2e h hN 2 n ln rfl
    | cons x l => exact does2 h hN 2 n ln x l rfl
  rw [if_neg h2]
  by_cases h3 : k = 3
  · subst h3; rw [if_pos rfl]; exact does3 h hN 3 n ln
  rw [if_neg h3]
  by_cases h4 : k = 4
  · subst h4
    rw [if_pos rfl]
    rcases h.ra.2 with ⟨hv, _⟩ | ⟨g, cap, cur, hv, _, _, hc, _⟩
    · exact does4nil h hN 4 n ln hv
    · by_cases hp : 0 < la.length
      · by_cases hlt : mvN R' la lb n < cap
        · exact does4lt h hN 4 n ln g cap hv hp hlt
        · have : mvN R' la lb n = cap := by have : mvN R' la lb n ≤ la.length := (by unfold mvN; omega); omega
          exact does4eq h hN 4 n ln g (by rw [hv, this]) hp
      · have hz : la.length = 0 := by omega
        exact does4emp h hN 4 n ln g cap (by rw [hv, hz])
  rw [if_neg h4]
  exact does5 h hN k n ln h0 h1 h2 h3 h4

end Go.Proofs.Ythaoobfldponpaa
