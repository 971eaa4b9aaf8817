/-
  A region that draws its order, within a round of a range over a function: what holds outside a round holds in it, where nothing is deferred.
-/
import Derived.OrdersIn
import Derived.RangeFuncCalls
import Derived.WalkKit
import Derived.OwnWalkIn
namespace Go.Proofs.Ytglhjgfaelfleab

variable {F : Fence} {n : Nat} {P : Program} {ops : Array Oper} {Q : Exit → Act → World → Prop} {md : Region.Mode}

theorem uponIn_round_of {l : Nat} {o : Oper} {a : Act} {K : Act → World → Prop} (r : Result Next) (h : Oper.uponIn F n P o a K Q r) : Oper.uponIn (F.inRound l) n P o a K Q r := by
  cases r with
  | ok x w' => cases x <;> exact h
  | halt x w' => cases x <;> exact h

theorem wpOp_round {l : Nat} {o : Oper} {a : Act} {w : World} {K : Act → World → Prop} (hro : F.round = none) (hd : ∀ c, o.op ≠ .defer c) (h : o.wpIn F n P a w K Q) : o.wpIn (F.inRound l) n P a w K Q := by
  unfold Oper.wpIn at *
  refine ⟨h.1, ?_⟩
  rw [Oper.semAt_eq _ _ _ hd]
  have h2 := h.2
  rw [hro, Oper.semAt_none] at h2
  exact uponIn_round_of _ h2

theorem wpOpIn_round {l i : Nat} {a : Act} {w : World} {K : Act → World → Prop} (hro : F.round = none) (hd : ∀ (i : Nat) (o : Oper), ops[i]? = some o → ∀ c, o.op ≠ .defer c) (h : wpOpIn F n P ops Q i K a w) : wpOpIn (F.inRound l) n P ops Q i K a w := by
  unfold wpOpIn at *
  split
  · rename_i ho; simp only [ho] at h; exact h
  · rename_i o ho
    simp only [ho] at h
    split
    · rename_i hw; simp only [hw, if_true] at h; exact wpOp_round hro (hd i o ho) h
    · rename_i hw; simp only [hw] at h; exact h

theorem wpAnyIn_round {l : Nat} (hro : F.round = none) (hd : ∀ (i : Nat) (o : Oper), ops[i]? = some o → ∀ c, o.op ≠ .defer c) : ∀ (fuel : Nat) (listed : Array Bool) (a : Act) (w : World),
    wpAnyIn F n P md ops Q fuel listed a w → wpAnyIn (F.inRound l) n P md ops Q fuel listed a w
  | 0, _, _, _, h => h
  | fuel + 1, _, _, _, h => ⟨h.1, fun i hi => wpOpIn_round hro hd (wpOpIn_mono (fun a w h => wpAnyIn_round hro hd fuel _ a w h) (h.2 i hi))⟩

/-- No operation of the region is deferred: asked of a program. -/
def noDefer (ops : Array Oper) : Bool := ops.all fun o => match o.op with | .defer _ => false | _ => true

theorem noDefer_spec (h : noDefer ops = true) : ∀ (i : Nat) (o : Oper), ops[i]? = some o → ∀ c, o.op ≠ .defer c := by
  intro i o ho c hc
  unfold noDefer at h
  rw [Array.all_eq_true] at h
  obtain ⟨hi, ho'⟩ := Array.getElem?_eq_some_iff.1 ho
  have := h i hi
  rw [ho', hc] at this
  cases this

theorem region_round {id l : Nat} {a : Act} {w : World} (hm : P.follows .mixedOrders = true) (hd : noDefer ops = true)
    (h : wpAnyIn Fence.wide n P .any ops Q ops.size (Array.replicate ops.size false) a w.drew) : (Code.region id ops true).wpIn (Fence.wide.inRound l) n P Q a w :=
  wpIn_region_any hm (wpAnyIn_round rfl (noDefer_spec hd) _ _ _ _ h)

end Go.Proofs.Ytglhjgfaelfleab
