/-
  The chapter's example.
-/
import Derived.Test.YtglhjgfaelfleaaGreatCi
namespace Go.Proofs.YtglhjgfaelfleaaGreat
open Go.RowKit
set_option linter.unusedVariables false

/-- A step of a store that stands above a start. -/
structure Up (w W : World) (b mp ms : Nat) (K : KV) : Prop where
  st : St W b mp ms K
  bel : Below w.heap.size w W
  lm : w.heap.size ≤ mp ∧ w.heap.size ≤ ms
theorem Up.alloc {w W : World} {b mp ms : Nat} {K : KV} (h : Up w W b mp ms K) (o : Obj) : Up w (W.alloc o) b mp ms K := ⟨h.st.alloc o, Below.alloc' h.bel o, h.lm⟩
theorem Up.below {w W W' : World} {b mp ms : Nat} {K : KV} (h : Up w W b mp ms K) (hB : Below W.heap.size W W') : Up w W' b mp ms K := ⟨h.st.below hB, h.bel.trans (hB.mono h.bel.size), h.lm⟩
theorem out_bel {w W W' : World} {mp ms : Nat} (hB : Below w.heap.size w W) (hO : Out (Mx mp ms) W W') (hl : w.heap.size ≤ mp ∧ w.heap.size ≤ ms) : Below w.heap.size w W' :=
  hB.trans ⟨hO.os, hO.tape, hO.output, hO.size, fun i hi => hO.block i (by have := hB.size; omega) (fun e => by rcases e with e | e <;> omega)⟩
/-- What was there, but the two maps. -/
def Kpt (mp ms : Nat) (W W' : World) : Prop := W.heap.size ≤ W'.heap.size ∧ ∀ (i : Nat) (x : Obj), (∀ es c, x ≠ .map es c) → W.heap[i]? = some x → W'.heap[i]? = some x
theorem kpt_of {W W' : World} {b mp ms : Nat} {K : KV} (h : St W b mp ms K) (hO : Out (Mx mp ms) W W') : Kpt mp ms W W' := by
  refine ⟨hO.size, fun i x hx hi => (hO.block i (Array.getElem?_eq_some_iff.1 hi).1 (fun e => ?_)).trans hi⟩
  rcases e with rfl | rfl
  · obtain ⟨es, cl, hb, _⟩ := h.hp; rw [hb] at hi; cases hi; exact hx _ _ rfl
  · obtain ⟨es, cl, hb, _⟩ := h.hs; rw [hb] at hi; cases hi; exact hx _ _ rfl
theorem up_do {w W : World} {b mp ms : Nat} {K : KV} (h : Up w W b mp ms K) (c : Cm) :
    Calls Tryz.prog 14 #[.pointer (some ⟨b, 0, none⟩), .agg #[.int .i64 c.op, .int .i64 c.cl, .int .i64 c.sq, .string ⟨c.key.toArray⟩, .string ⟨c.val.toArray⟩, .string ⟨c.old.toArray⟩]] W fun e w' => e = .returned (.tuple #[.agg #[.int .i64 (doF K c).2.code, .string ⟨(doF K c).2.val.toArray⟩], .int .i64 (c.ck : Int)]) ∧ Up w w' b mp ms (doF K c).1 ∧ Kpt mp ms W w' ∧ Out (Mx mp ms) W w' :=
  (do_any h.st c).mono fun e w' ⟨h1, h2, h3⟩ => ⟨h1, ⟨h2, out_bel h.bel h3 h.lm, h.lm⟩, kpt_of h.st h3, h3⟩
theorem up_new (w : World) : Calls Tryz.prog 16 #[] w fun e W => ∃ b mp ms, e = .returned (.pointer (some ⟨b, 0, none⟩)) ∧ Up w W b mp ms ⟨[], []⟩ :=
  (new_any w).mono fun e W ⟨h1, h2, h3, h4⟩ => ⟨_, _, _, h1, h2, h3, by omega, by omega⟩

def fK1 : KV := ⟨[([97], [120])], [⟨1, 1, ⟨1, []⟩⟩]⟩
def fK2 : KV := ⟨[([97], [120])], [⟨1, 1, ⟨1, []⟩⟩, ⟨2, 1, ⟨3, [120]⟩⟩]⟩
theorem fd1 : doF ⟨[], []⟩ ⟨2, 1, 1, [97], [120], []⟩ = (fK1, ⟨1, []⟩) := by kernel_rfl
theorem fd2 : doF fK1 ⟨2, 1, 1, [97], [121], []⟩ = (fK1, ⟨1, []⟩) := by kernel_rfl
theorem fd3 : doF fK1 ⟨4, 2, 1, [97], [122], [121]⟩ = (fK2, ⟨3, [120]⟩) := by kernel_rfl
theorem fd4 : doF fK2 ⟨1, 0, 0, [], [], []⟩ = (fK2, ⟨0, []⟩) := by kernel_rfl
theorem fc1 : Cm.ck ⟨2, 1, 1, [97], [120], []⟩ = 0 := by kernel_rfl
theorem fc2 : Cm.ck ⟨2, 1, 1, [97], [121], []⟩ = 0 := by kernel_rfl
theorem fc3 : Cm.ck ⟨4, 2, 1, [97], [122], [121]⟩ = 0 := by kernel_rfl
theorem fc4 : Cm.ck ⟨1, 0, 0, [], [], []⟩ = 6 := by kernel_rfl
theorem fg : getF fK2 [97] = ⟨1, [120]⟩ := by kernel_rfl
theorem eql_ptr_nil (W : World) (b : Nat) : (binOp .eql 27 (.pointer (some ⟨b, 0, none⟩)) (.pointer none)).run Tryz.prog W = .ok (.bool false) W := by kernel_rfl
/-- A reply that lies by itself. -/
def Rb (W : World) (r : Nat) (c : Int) (v : Bs) : Prop := W.heap[r]? = some (.cells #[.int .i64 c, .string ⟨v.toArray⟩] 40)
theorem Rb.cells {W : World} {r : Nat} {c : Int} {v : Bs} (h : Rb W r c v) : W.cell? ⟨r, 0, none⟩ = some (.int .i64 c) ∧ W.cell? ⟨r, 1, none⟩ = some (.string ⟨v.toArray⟩) := by
  constructor <;> (simp only [World.cell?, show W.heap[r]? = _ from h]; rfl)
theorem Rb.kpt {mp ms : Nat} {W W' : World} {r : Nat} {c : Int} {v : Bs} (h : Rb W r c v) (hk : Kpt mp ms W W') : Rb W' r c v := hk.2 r _ (by simp) h
theorem Rb.below {W W' : World} {r : Nat} {c : Int} {v : Bs} (h : Rb W r c v) (hk : Below W.heap.size W W') : Rb W' r c v := (hk.block r (Array.getElem?_eq_some_iff.1 h).1).trans h
theorem Rb.alloc {W : World} {r : Nat} {c : Int} {v : Bs} (h : Rb W r c v) (o : Obj) : Rb (W.alloc o) r c v := h.below ((Below.refl _ _).alloc (Nat.le_refl _) _)
theorem Rb.new (W : World) (c : Int) (v : Bs) : Rb (W.alloc (.cells #[.int .i64 c, .string ⟨v.toArray⟩] 40)) W.heap.size c v := heap_alloc_new W _

set_option maxRecDepth 100000 in
set_option maxHeartbeats 4000000 in
theorem first_any (w : World) : Calls Tryz.prog 4 #[] w fun e w' => e = .returned (.bool true) ∧ Below w.heap.size w w' := by
  have hnl := fun (W : World) (b : Nat) => eql_ptr_nil W b
  go_enter Tryz.func4, Tryz.ntmps4
  go_wp2_with fail
  refine (up_new w).mono ?_
  rintro e W1 ⟨b, mp, ms, rfl, hU⟩
  have HU1 : Hid (Up w W1 b mp ms ⟨[], []⟩) := hU
  clear hU
  have CD1 := up_do HU1.out ⟨2, 1, 1, [97], [120], []⟩
  rw [fd1, fc1] at CD1
  dsimp only at CD1
  have HD1 : Hid (Calls _ _ _ _ _) := CD1
  clear CD1
  go_wp2_with fail
  refine HD1.out.mono ?_
  rintro e V1 ⟨rfl, hU, hk, -⟩
  have HR1 : Hid (Rb (V1.alloc (.cells #[.int .i64 1, .string ⟨[].toArray⟩] 40)) V1.heap.size 1 []) := Rb.new _ _ _
  have HU2 : Hid (Up w (V1.alloc (.cells #[.int .i64 1, .string ⟨[].toArray⟩] 40)) b mp ms fK1) := hU.alloc _
  clear hU hk HD1 HU1
  have CD2 := up_do HU2.out ⟨2, 1, 1, [97], [121], []⟩
  rw [fd2, fc2] at CD2
  dsimp only at CD2
  have HD2 : Hid (Calls _ _ _ _ _) := CD2
  clear CD2
  go_wp2_with fail
  refine HD2.out.mono ?_
  rintro e V2 ⟨rfl, hU, hk, -⟩
  have HR2 : Hid (Rb (V2.alloc (.cells #[.int .i64 1, .string ⟨[].toArray⟩] 40)) V2.heap.size 1 []) := Rb.new _ _ _
  have HU3 : Hid (Up w (V2.alloc (.cells #[.int .i64 1, .string ⟨[].toArray⟩] 40)) b mp ms fK1) := hU.alloc _
  replace HR1 : Hid (Rb (V2.alloc (.cells #[.int .i64 1, .string ⟨[].toArray⟩] 40)) V1.heap.size 1 []) := (HR1.out.kpt hk).alloc _
  clear hU hk HD2 HU2
  have CD3 := up_do HU3.out ⟨4, 2, 1, [97], [122], [121]⟩
  rw [fd3, fc3] at CD3
  dsimp only at CD3
  have HD3 : Hid (Calls _ _ _ _ _) := CD3
  clear CD3
  go_wp2_with fail
  refine HD3.out.mono ?_
  rintro e V3 ⟨rfl, hU, hk, -⟩
  have HR3 : Hid (Rb (V3.alloc (.cells #[.int .i64 3, .string ⟨[120].toArray⟩] 40)) V3.heap.size 3 [120]) := Rb.new _ _ _
  have HU4 : Hid (Up w (V3.alloc (.cells #[.int .i64 3, .string ⟨[120].toArray⟩] 40)) b mp ms fK2) := hU.alloc _
  replace HR1 : Hid (Rb (V3.alloc (.cells #[.int .i64 3, .string ⟨[120].toArray⟩] 40)) V1.heap.size 1 []) := (HR1.out.kpt hk).alloc _
  replace HR2 : Hid (Rb (V3.alloc (.cells #[.int .i64 3, .string ⟨[120].toArray⟩] 40)) V2.heap.size 1 []) := (HR2.out.kpt hk).alloc _
  clear hU hk HD3 HU3
  have CD4 := up_do HU4.out ⟨1, 0, 0, [], [], []⟩
  rw [fd4, fc4] at CD4
  dsimp only at CD4
  have HD4 : Hid (Calls _ _ _ _ _) := CD4
  clear CD4
  go_wp2_with fail
  refine HD4.out.mono ?_
  rintro e V4 ⟨rfl, hU, hk, -⟩
  have HR4 : Hid (Rb (V4.alloc (.cells #[.int .i64 0, .string ⟨[].toArray⟩] 40)) V4.heap.size 0 []) := Rb.new _ _ _
  have HU5 : Hid (Up w (V4.alloc (.cells #[.int .i64 0, .string ⟨[].toArray⟩] 40)) b mp ms fK2) := hU.alloc _
  replace HR1 : Hid (Rb (V4.alloc (.cells #[.int .i64 0, .string ⟨[].toArray⟩] 40)) V1.heap.size 1 []) := (HR1.out.kpt hk).alloc _
  replace HR2 : Hid (Rb (V4.alloc (.cells #[.int .i64 0, .string ⟨[].toArray⟩] 40)) V2.heap.size 1 []) := (HR2.out.kpt hk).alloc _
  replace HR3 : Hid (Rb (V4.alloc (.cells #[.int .i64 0, .string ⟨[].toArray⟩] 40)) V3.heap.size 3 [120]) := (HR3.out.kpt hk).alloc _
  clear hU hk HD4 HU4
  obtain ⟨a0, a1⟩ := HR1.out.cells
  obtain ⟨b0, b1⟩ := HR2.out.cells
  obtain ⟨d0, d1⟩ := HR3.out.cells
  have CG := get_any HU5.out.st [97] (by decide)
  rw [fg] at CG
  have HG : Hid (Calls _ _ _ _ _) := CG
  clear CG
  go_wp2_with (first
    | (go_at_call 17; refine HG.out.mono ?_; rintro e W6 ⟨rfl, hB6⟩; have HU6 : Hid (Up w W6 b mp ms fK2) := HU5.out.below hB6; clear hB6; dsimp only [Rp.v, str])
    | (go_at_call 10; refine (num_any _ _).mono ?_; rintro e wz ⟨rfl, hz⟩; subst wz)
    | (go_at_call 18; refine (len_any HU6.out.st).mono ?_; rintro e wz ⟨rfl, hz⟩; subst wz))
  go_ret
  exact ⟨rfl, HU6.out.bel⟩
end Go.Proofs.YtglhjgfaelfleaaGreat
