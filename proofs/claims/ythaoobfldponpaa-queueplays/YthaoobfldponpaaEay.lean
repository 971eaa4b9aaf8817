/-
  What Each yields, in the form that a range over it asks for.
-/
import Derived.Test.YthaoobfldponpaaEac
import Derived.Test.YthaoobfldponpaaMarks
namespace Go.Proofs.Ythaoobfldponpaa
open Go.RowKit Go.Shelf
set_option linter.unusedVariables false

theorem each_yields (n : Nat) (hn : 1 ≤ n) (B N b R : Nat) (S X : Nat → Prop) (L : List Int) (w : World) (hX : ∀ i, X i → i < w.heap.size) (hbox : Boxed w B 24 (.pointer (some ⟨b, 0, none⟩))) (hq : Qu N S w b R L) :
    Yields n 49 #[.pointer (some ⟨B, 0, none⟩)] encP (fun pre x _ _ => x = (pre.length, L[pre.length]?.getD 0)) (KeepX X) (fun xs => xs = prs L L.length) (fun pre => ∃ k, k < L.length ∧ pre = prs L (k + 1)) L.length w :=
  fun l J Jx W hW hJ _ hY h0 => (each1_in n hn l B N b R S X L J Jx hJ hY W (fun i hi => Nat.lt_of_lt_of_le (hX i hi) hW.size) (hbox.kept (Below.grownBy' hW none) (by simp)) (hq.below hW) h0).mono (fun e W' h => ⟨h.1, h.2.imp (fun h1 => ⟨_, rfl, h1⟩) (fun ⟨k, hk, h2⟩ => ⟨_, ⟨k, hk, rfl⟩, h2⟩)⟩)

theorem KeepX.trans {X : Nat → Prop} {A B C : World} (h : KeepX X A B) (k : KeepX X B C) : KeepX X A C := ⟨Nat.le_trans h.1 k.1, fun i c t z hi hx => k.2 i c t z (h.2 i c t z hi hx) hx⟩
theorem KeepX.putObj {X : Nat → Prop} (W : World) (l : Nat) (o o' : Obj) (hl : W.heap[l]? = some o) (ho : o.isCells = false) : KeepX X W (W.putObj l o') := by
  refine ⟨by simp [World.putObj], fun i c t z hi hx => ?_⟩
  refine (World.putObj_heap_other (fun e => ?_)).trans hi
  subst e
  rw [hl] at hi
  cases hi
  cases ho
theorem eql_nil (B : Nat) (w : World) : (binOp .eql 74 (.func (.func 49) #[] #[.pointer (some ⟨B, 0, none⟩)]) .nilFunc).run Try.prog w = .ok (.bool false) w := by kernel_rfl

end Go.Proofs.Ythaoobfldponpaa
