/-
  A sequence that is gone over: where each frame stands, and what the round keeps.
-/
import Derived.Test.YthhnjiodfbckcaaIter
import Derived.Test.YthhnjiodfbckcaaMarks
namespace Go.Proofs.Ythhnjiodfbckcaa
open Go.RowKit Go.Shelf

theorem from_place : ∀ (ps : List (Nat × List UInt8)) (q : Nat × List UInt8) (f : Nat) (b : List UInt8) (k : Nat), ps ++ [q] <+: framesFrom f b k → q.1 = (ps.getLast?.map (fun p => p.1 + 8 + p.2.length)).getD k
  | ps, q, 0, b, k, h => by simp [framesFrom] at h
  | [], q, f + 1, b, k, h => by
    simp only [framesFrom] at h
    split at h
    · simp only [List.nil_append] at h
      have := (List.cons_prefix_cons.1 h).1
      rw [this]; simp
    · simp at h
  | p :: ps, q, f + 1, b, k, h => by
    simp only [framesFrom] at h
    split at h
    · rename_i h0
      have hgo := getAt_ok b k h0
      rw [List.cons_append] at h
      obtain ⟨e, h2⟩ := List.cons_prefix_cons.1 h
      have ih := from_place ps q f b _ h2
      rw [ih, List.getLast?_cons]
      cases hl : ps.getLast? with
      | none => simp [e]; omega
      | some z => simp
    · simp at h

theorem place_eq (pre : List FrD) (x : FrD) (b : List UInt8) (h : (pre ++ [x]).map FrD.key <+: framesOf b) : x.place = lastEnd pre ∧ (framesOf b)[pre.length]? = some x.key := by
  rw [List.map_append] at h
  refine ⟨?_, ?_⟩
  · exact from_place (pre.map FrD.key) x.key _ b 0 h
  · obtain ⟨t, ht⟩ := h
    rw [← ht]
    simp

/-- The law's own variables, as they stand behind the frames pre: how many have come, where they end, the round. -/
def RI (S Kb Ab Rb : Nat) (r : Nat) (Wst : World) (pre : List FrD) (W : World) : Prop :=
  Boxed W Kb 3 (.int .i64 (pre.length : Int)) ∧ Boxed W Ab 3 (.int .i64 (lastEnd pre : Int)) ∧ Boxed W Rb 3 (.int .i64 (r : Int)) ∧ Below S Wst W ∧ KeepsFrom S Wst W

theorem ri_own (S Kb Ab Rb r : Nat) (Wst : World) (hS : S ≤ Wst.heap.size) (B : Nat) (hB : Wst.heap.size ≤ B) : OwnFrom B (RI S Kb Ab Rb r Wst) :=
  OwnFrom.and (Own.from (boxed_own _ _ (fun pre : List FrD => .int .i64 (pre.length : Int))) _) (OwnFrom.and (Own.from (boxed_own _ _ (fun pre => .int .i64 (lastEnd pre : Int))) _)
    (OwnFrom.and (Own.from (boxed_own _ _ (fun _ => .int .i64 (r : Int))) _) (OwnFrom.and (ownFrom_below hS (Nat.le_trans hS hB)) (ownFrom_keepsFrom hB))))

/-- A frame more. -/
theorem ri_more {S Kb Ab Rb r : Nat} {Wst W : World} {pre : List FrD} {x : FrD} (h : RI S Kb Ab Rb r Wst pre W) (hK : S ≤ Kb) (hA : S ≤ Ab) (h1 : Kb ≠ Ab) (h2 : Kb ≠ Rb) (h3 : Ab ≠ Rb) (n : Nat) :
    RI S Kb Ab Rb r Wst (pre ++ [x]) (((W.drewN n).setCell ⟨Ab, 0, none⟩ (.int .i64 (lastEnd (pre ++ [x]) : Int))).setCell ⟨Kb, 0, none⟩ (.int .i64 ((pre ++ [x]).length : Int))) ∧
    KeepsFrom 0 W (((W.drewN n).setCell ⟨Ab, 0, none⟩ (.int .i64 (lastEnd (pre ++ [x]) : Int))).setCell ⟨Kb, 0, none⟩ (.int .i64 ((pre ++ [x]).length : Int))) ∧
    Below S W (((W.drewN n).setCell ⟨Ab, 0, none⟩ (.int .i64 (lastEnd (pre ++ [x]) : Int))).setCell ⟨Kb, 0, none⟩ (.int .i64 ((pre ++ [x]).length : Int))) := by
  obtain ⟨b1, b2, b3, hB, hF⟩ := h
  have hd : Below S W (W.drewN n) := (Below.refl _ _).trans ⟨rfl, rfl, rfl, Nat.le_refl _, fun _ _ => rfl⟩
  have d1 : Boxed (W.drewN n) Kb 3 (.int .i64 (pre.length : Int)) := b1
  have d2 : Boxed (W.drewN n) Ab 3 (.int .i64 (lastEnd pre : Int)) := b2
  have d3 : Boxed (W.drewN n) Rb 3 (.int .i64 (r : Int)) := b3
  have hB1 : Below S W (((W.drewN n).setCell ⟨Ab, 0, none⟩ (.int .i64 (lastEnd (pre ++ [x]) : Int))).setCell ⟨Kb, 0, none⟩ (.int .i64 ((pre ++ [x]).length : Int))) := (hd.setCell (p := ⟨Ab, 0, none⟩) hA _).setCell (p := ⟨Kb, 0, none⟩) hK _
  have kd : KeepsOthers W (W.drewN n) := ⟨Nat.le_refl _, fun _ _ h _ => h⟩
  have k1 : KeepsOthers W (((W.drewN n).setCell ⟨Ab, 0, none⟩ (.int .i64 (lastEnd (pre ++ [x]) : Int))).setCell ⟨Kb, 0, none⟩ (.int .i64 ((pre ++ [x]).length : Int))) := (kd.trans (KeepsOthers.setCell _ _ _)).trans (KeepsOthers.setCell _ _ _)
  exact ⟨⟨(d1.other (B' := Ab) h1 _).set _, (d2.set _).other (Ne.symm h1) _, (d3.other (Ne.symm h3) _).other (Ne.symm h2) _, hB.trans hB1, hF.trans (k1.from S)⟩, k1.from 0, hB1⟩
end Go.Proofs.Ythhnjiodfbckcaa
