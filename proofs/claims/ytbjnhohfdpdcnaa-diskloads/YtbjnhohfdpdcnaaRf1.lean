/-
  The program's disk and the document's, side by side.
-/
import Derived.Test.YtbjnhohfdpdcnaaRe5
import Derived.Test.YtbjnhohfdpdcnaaRe6
namespace Go.Proofs.Ytbjnhohfdpdcnaa
open Go.RowKit Go.Shelf
set_option linter.unusedVariables false

/-- Both disks say the same, in memory from N on. -/
structure Bth (N : Nat) (S1 S2 : Nat → Prop) (w0 w : World) (d B : Nat) (q : PD) : Prop where
  dsk : Dsk N w S1 d q
  rds : RDs S2 w B q
  ap : ∀ j, S1 j → ¬ S2 j
  fr : ∀ j, S2 j → N ≤ j
  bel : Below N w0 w
  hN : N ≤ w0.heap.size
  good : Good q
theorem Bth.sz {N : Nat} {S1 S2 : Nat → Prop} {w0 w : World} {d B : Nat} {q : PD} (h : Bth N S1 S2 w0 w d B q) : N ≤ w.heap.size := Nat.le_trans h.hN h.bel.size
/-- Only new blocks were made. -/
theorem Bth.below {N : Nat} {S1 S2 : Nat → Prop} {w0 w w' : World} {d B : Nat} {q : PD} (h : Bth N S1 S2 w0 w d B q) (hB : Below w.heap.size w w') : Bth N S1 S2 w0 w' d B q :=
  ⟨h.dsk.below hB, h.rds.out (X := fun _ => False) (Out.of_below hB) (fun _ _ hf => hf), h.ap, h.fr, h.bel.trans (hB.mono h.sz), h.hN, h.good⟩
theorem Bth.drew {N : Nat} {S1 S2 : Nat → Prop} {w0 w : World} {d B : Nat} {q : PD} (h : Bth N S1 S2 w0 w d B q) : Bth N S1 S2 w0 w.drew d B q := h.below ⟨rfl, rfl, rfl, Nat.le_refl _, fun _ _ => rfl⟩
/-- Blocks outside both were turned. -/
theorem Bth.out {N : Nat} {S1 S2 X : Nat → Prop} {w0 w w' : World} {d B : Nat} {q : PD} (h : Bth N S1 S2 w0 w d B q) (hO : Out X w w') (h1 : ∀ i, S1 i → ¬ X i) (h2 : ∀ i, S2 i → ¬ X i) (hX : ∀ i, X i → N ≤ i) : Bth N S1 S2 w0 w' d B q :=
  ⟨h.dsk.out hO h1, h.rds.out hO h2, h.ap, h.fr, h.bel.trans (hO.below h.sz hX), h.hN, h.good⟩
theorem arm_fail (p : PD) : p.fail.arm ≤ p.arm := by unfold PD.fail; split <;> simp
theorem told_arm {p : PD} (h : p.arm ≤ 9223372036854775807) (o : Opn) (ho : o.n < 9223372036854775808) : (toldP p o).2.arm ≤ 9223372036854775807 := by
  have hf := arm_fail p
  unfold toldP
  split
  · unfold doCreate
    repeat' split
    all_goals (simp only; omega)
  split
  · unfold doAppend
    repeat' split
    all_goals (simp only; omega)
  split
  · unfold doSync
    repeat' split
    all_goals (simp only; omega)
  split
  · unfold doCut
    repeat' split
    all_goals (simp only; omega)
  split
  · unfold doRename
    repeat' split
    all_goals (simp only; omega)
  split
  · unfold doRemove
    repeat' split
    all_goals (simp only; omega)
  split
  · simp only; omega
  split
  · simp [doCrash]
  · simp only; omega
theorem good_told {N : Nat} {S : Nat → Prop} {w : World} {d : Nat} {p : PD} (hG : Good p) (o : Opn) (ho : o.n < 9223372036854775808) (h : Dsk N w S d (toldP p o).2) : Good (toldP p o).2 :=
  ⟨h.shape.1, told_names hG.nms o, h.shape.2.1, told_arm hG.arm o ho⟩
/-- The program's, then the document's. -/
theorem Bth.cd {N : Nat} {S1 S2 : Nat → Prop} {w0 w w5 w6 : World} {d B : Nat} {p p' : PD} (h : Bth N S1 S2 w0 w d B p) (hT : Then N S1 w w5 d p') (hO : Out S2 w5 w6) (hR : RDs (grew S2 w5 w6) w6 B p') (hg : Good p') : Bth N (grew S1 w w5) (grew S2 w5 w6) w0 w6 d B p' := by
  have hap : ∀ j, grew S1 w w5 j → ¬ grew S2 w5 w6 j := fun j hj hk => by
    rcases hk with hk | hk
    · rcases hj with hj | hj
      · exact h.ap j hj hk
      · have := h.rds.inn j hk; omega
    · have := hT.dsk.inn j hj; omega
  have h5 := Nat.le_trans h.sz hT.out.size
  exact ⟨hT.dsk.out hO (fun j hj hk => hap j hj (.inl hk)), hR, hap, fun j hj => hj.elim (h.fr j) (fun h9 => by omega), (h.bel.trans hT.bel).trans (hO.below h5 h.fr), h.hN, hg⟩
/-- The document's, then the program's. -/
theorem Bth.dc {N : Nat} {S1 S2 : Nat → Prop} {w0 w w5 w6 : World} {d B : Nat} {p p' : PD} (h : Bth N S1 S2 w0 w d B p) (hO : Out S2 w w5) (hR : RDs (grew S2 w w5) w5 B p') (hT : Then N S1 w5 w6 d p') (hg : Good p') : Bth N (grew S1 w5 w6) (grew S2 w w5) w0 w6 d B p' := by
  have hap : ∀ j, grew S1 w5 w6 j → ¬ grew S2 w w5 j := fun j hj hk => by
    rcases hj with hj | hj
    · rcases hk with hk | hk
      · exact h.ap j hj hk
      · have := h.dsk.inn j hj; omega
    · have := hR.inn j hk; omega
  have h5 := Nat.le_trans h.sz hO.size
  exact ⟨hT.dsk, hR.out hT.out (fun j hj hk => hap j (.inl hk) hj), hap, fun j hj => hj.elim (h.fr j) (fun h9 => by have := h.sz; omega), (h.bel.trans (hO.below h.sz h.fr)).trans hT.bel, h.hN, hg⟩
theorem done_then {N : Nat} {S : Nat → Prop} {w : World} {d : Nat} {F : Nat} {args : Array Value} {x : Nat × PD} (hS : ∀ i, S i → N ≤ i) (hN : N ≤ w.heap.size) (hc : Calls Try.prog F args w fun r w' => Done S w d x r w') : Calls Try.prog F args w fun r w' => r = .returned (.int .i64 (x.1 : Int)) ∧ Then N S w w' d x.2 := by
  refine hc.mono ?_
  rintro r w' ⟨k', rfl, hA, hp⟩
  exact ⟨rfl, Then.of hA hp hS hN⟩
/-- An operation of the program's disk, by its number. -/
theorem code_op {N : Nat} {S : Nat → Prop} {w : World} {d : Nat} {p : PD} (h : Dsk N w S d p) (hN : N ≤ w.heap.size) {F : Nat} {args : Array Value} {X : PD → Nat × PD} (hc : ∀ k, DkC S w d k → (∀ i, S i → N ≤ i) → Calls Try.prog F args w fun r w' => Done S w d (X k.pd) r w') : Calls Try.prog F args w fun r w' => r = .returned (.int .i64 ((X p).1 : Int)) ∧ Then N S w w' d (X p).2 := by
  obtain ⟨k, hk, rfl, hS⟩ := h
  exact done_then hS hN (hc k hk hS)
end Go.Proofs.Ytbjnhohfdpdcnaa
