/-
  Votes in memory; what NewVotes, Put, Result, Counts do.
-/
import Derived.Test.YtdgaimiggejleaaCq
import Derived.Handy
namespace Go.Proofs.Ytdgaimiggejleaa
open Go.RowKit
set_option linter.unusedVariables false

/-- Votes, plainly: the nodes, who has voted (by id less 1), granted, refused. -/
structure PV where
  nd : Int
  V : Nat → Bool
  g : Int
  r : Int
def PV.row (v : PV) : Array Value := #[.int .i64 v.nd, .bool (v.V 0), .bool (v.V 1), .bool (v.V 2), .bool (v.V 3), .bool (v.V 4), .bool (v.V 5), .bool (v.V 6), .int .i64 v.g, .int .i64 v.r]
def VE (w : World) (b : Nat) (v : PV) : Prop := w.heap[b]? = some (.cells v.row 59 (0, 0))
theorem VE.lt {w : World} {b : Nat} {v : PV} (h : VE w b v) : b < w.heap.size := (Array.getElem?_eq_some_iff.1 h).1
theorem VE.out {X : Nat → Prop} {w w' : World} {b : Nat} {v : PV} (h : VE w b v) (hO : Out X w w') (hx : ¬ X b) : VE w' b v := (hO.block b h.lt hx).trans h
theorem VE.below {w w' : World} {b : Nat} {v : PV} (h : VE w b v) (hB : Below w.heap.size w w') : VE w' b v := (hB.block b h.lt).trans h
theorem VE.drew {w : World} {b : Nat} {v : PV} (h : VE w b v) (n : Nat) : VE (w.drewN n) b v := h
theorem VE.cells {w : World} {b : Nat} {v : PV} (h : VE w b v) : (w.cell? ⟨b, 0, none⟩ = some (.int .i64 v.nd) ∧ w.cell? ⟨b, 1, none⟩ = some (.bool (v.V 0)) ∧ w.cell? ⟨b, 2, none⟩ = some (.bool (v.V 1)) ∧ w.cell? ⟨b, 3, none⟩ = some (.bool (v.V 2)) ∧ w.cell? ⟨b, 4, none⟩ = some (.bool (v.V 3)) ∧ w.cell? ⟨b, 5, none⟩ = some (.bool (v.V 4)) ∧ w.cell? ⟨b, 6, none⟩ = some (.bool (v.V 5)) ∧ w.cell? ⟨b, 7, none⟩ = some (.bool (v.V 6)) ∧ w.cell? ⟨b, 8, none⟩ = some (.int .i64 v.g) ∧ w.cell? ⟨b, 9, none⟩ = some (.int .i64 v.r)) ∧ ∀ o, w.frozen? ⟨b, o, none⟩ = false := by
  refine ⟨⟨?_, ?_, ?_, ?_, ?_, ?_, ?_, ?_, ?_, ?_⟩, fun o => ?_⟩
  all_goals (unfold VE PV.row at h; simp [World.cell?, World.frozen?, h])

/-- Whether a vote counts; what it makes. -/
def PV.putY (v : PV) (id : Int) : Bool := decide (1 ≤ id) && decide (id ≤ v.nd) && !v.V (id - 1).toNat
def PV.mark (v : PV) (k : Nat) (yes : Bool) : PV := ⟨v.nd, fun j => if j = k then true else v.V j, if yes then v.g + 1 else v.g, if yes then v.r else v.r + 1⟩
def PV.put (v : PV) (id : Int) (yes : Bool) : PV := if v.putY id then v.mark (id - 1).toNat yes else v

/-- Numbers that are in question. -/
structure PV.Ok (v : PV) : Prop where
  n1 : 1 ≤ v.nd
  n7 : v.nd ≤ 7
  g0 : 0 ≤ v.g
  r0 : 0 ≤ v.r
  g1 : v.g ≤ 100000
  r1 : v.r ≤ 100000


set_option maxRecDepth 100000 in
theorem put_0 {w : World} {b : Nat} {v : PV} (h : VE w b v) (ho : v.Ok) (yes : Bool) (hn : 1 ≤ v.nd) :
    Calls Try.prog 17 #[.pointer (some ⟨b, 0, none⟩), .int .i64 1, .bool yes] w fun e w' => e = .returned (.bool (!v.V 0)) ∧ VE w' b (if v.V 0 then v else v.mark 0 yes) ∧ Out (fun i => i = b) w w' := by
  obtain ⟨⟨c0, c1, c2, c3, c4, c5, c6, c7, c8, c9⟩, cf⟩ := h.cells
  have hwg : IntKind.i64.wrap (v.g + 1) = v.g + 1 := by rw [IntKind.wrap_i64]; have := ho.g0; have := ho.g1; omega
  have hwr : IntKind.i64.wrap (v.r + 1) = v.r + 1 := by rw [IntKind.wrap_i64]; have := ho.r0; have := ho.r1; omega
  have hnn : decide (v.nd < 1) = false := by simp; omega
  cases hv : v.V 0 with
  | true =>
    rw [hv] at c1
    have HE : Hid (VE w b v ∧ Out (fun i => i = b) w w) := ⟨h, Out.refl _ _⟩
    clear h ho hn
    go_enter Try.func17, Try.ntmps17
    go_wp2
    go_ret
    exact ⟨rfl, HE.out⟩
  | false =>
    rw [hv] at c1
    cases yes with
    | true =>
      have HE : Hid (VE ((w.setCell ⟨b, 1, none⟩ (.bool true)).setCell ⟨b, 8, none⟩ (.int .i64 (v.g + 1))) b (v.mark 0 true) ∧ Out (fun i => i = b) w ((w.setCell ⟨b, 1, none⟩ (.bool true)).setCell ⟨b, 8, none⟩ (.int .i64 (v.g + 1)))) := by
        refine ⟨?_, Out.put (Out.put (Out.refl _ _) (by rfl)) (by rfl)⟩
        have h2 : VE _ _ _ := h
        unfold VE at h2 ⊢
        simpa [PV.row, PV.mark] using heap_set (heap_set h2 1 (.bool true)) 8 (.int .i64 (v.g + 1))
      clear h ho hn
      go_enter Try.func17, Try.ntmps17
      go_wp2
      go_ret
      exact ⟨rfl, HE.out⟩
    | false =>
      have HE : Hid (VE ((w.setCell ⟨b, 1, none⟩ (.bool true)).setCell ⟨b, 9, none⟩ (.int .i64 (v.r + 1))) b (v.mark 0 false) ∧ Out (fun i => i = b) w ((w.setCell ⟨b, 1, none⟩ (.bool true)).setCell ⟨b, 9, none⟩ (.int .i64 (v.r + 1)))) := by
        refine ⟨?_, Out.put (Out.put (Out.refl _ _) (by rfl)) (by rfl)⟩
        have h2 : VE _ _ _ := h
        unfold VE at h2 ⊢
        simpa [PV.row, PV.mark] using heap_set (heap_set h2 1 (.bool true)) 9 (.int .i64 (v.r + 1))
      clear h ho hn
      go_enter Try.func17, Try.ntmps17
      go_wp2
      go_ret
      exact ⟨rfl, HE.out⟩

set_option maxRecDepth 100000 in
theorem put_1 {w : World} {b : Nat} {v : PV} (h : VE w b v) (ho : v.Ok) (yes : Bool) (hn : 2 ≤ v.nd) :
    Calls Try.prog 17 #[.pointer (some ⟨b, 0, none⟩), .int .i64 2, .bool yes] w fun e w' => e = .returned (.bool (!v.V 1)) ∧ VE w' b (if v.V 1 then v else v.mark 1 yes) ∧ Out (fun i => i = b) w w' := by
  obtain ⟨⟨c0, c1, c2, c3, c4, c5, c6, c7, c8, c9⟩, cf⟩ := h.cells
  have hwg : IntKind.i64.wrap (v.g + 1) = v.g + 1 := by rw [IntKind.wrap_i64]; have := ho.g0; have := ho.g1; omega
  have hwr : IntKind.i64.wrap (v.r + 1) = v.r + 1 := by rw [IntKind.wrap_i64]; have := ho.r0; have := ho.r1; omega
  have hnn : decide (v.nd < 2) = false := by simp; omega
  cases hv : v.V 1 with
  | true =>
    rw [hv] at c2
    have HE : Hid (VE w b v ∧ Out (fun i => i = b) w w) := ⟨h, Out.refl _ _⟩
    clear h ho hn
    go_enter Try.func17, Try.ntmps17
    go_wp2
    go_ret
    exact ⟨rfl, HE.out⟩
  | false =>
    rw [hv] at c2
    cases yes with
    | true =>
      have HE : Hid (VE ((w.setCell ⟨b, 2, none⟩ (.bool true)).setCell ⟨b, 8, none⟩ (.int .i64 (v.g + 1))) b (v.mark 1 true) ∧ Out (fun i => i = b) w ((w.setCell ⟨b, 2, none⟩ (.bool true)).setCell ⟨b, 8, none⟩ (.int .i64 (v.g + 1)))) := by
        refine ⟨?_, Out.put (Out.put (Out.refl _ _) (by rfl)) (by rfl)⟩
        have h2 : VE _ _ _ := h
        unfold VE at h2 ⊢
        simpa [PV.row, PV.mark] using heap_set (heap_set h2 2 (.bool true)) 8 (.int .i64 (v.g + 1))
      clear h ho hn
      go_enter Try.func17, Try.ntmps17
      go_wp2
      go_ret
      exact ⟨rfl, HE.out⟩
    | false =>
      have HE : Hid (VE ((w.setCell ⟨b, 2, none⟩ (.bool true)).setCell ⟨b, 9, none⟩ (.int .i64 (v.r + 1))) b (v.mark 1 false) ∧ Out (fun i => i = b) w ((w.setCell ⟨b, 2, none⟩ (.bool true)).setCell ⟨b, 9, none⟩ (.int .i64 (v.r + 1)))) := by
        refine ⟨?_, Out.put (Out.put (Out.refl _ _) (by rfl)) (by rfl)⟩
        have h2 : VE _ _ _ := h
        unfold VE at h2 ⊢
        simpa [PV.row, PV.mark] using heap_set (heap_set h2 2 (.bool true)) 9 (.int .i64 (v.r + 1))
      clear h ho hn
      go_enter Try.func17, Try.ntmps17
      go_wp2
      go_ret
      exact ⟨rfl, HE.out⟩

set_option maxRecDepth 100000 in
theorem put_2 {w : World} {b : Nat} {v : PV} (h : VE w b v) (ho : v.Ok) (yes : Bool) (hn : 3 ≤ v.nd) :
    Calls Try.prog 17 #[.pointer (some ⟨b, 0, none⟩), .int .i64 3, .bool yes] w fun e w' => e = .returned (.bool (!v.V 2)) ∧ VE w' b (if v.V 2 then v else v.mark 2 yes) ∧ Out (fun i => i = b) w w' := by
  obtain ⟨⟨c0, c1, c2, c3, c4, c5, c6, c7, c8, c9⟩, cf⟩ := h.cells
  have hwg : IntKind.i64.wrap (v.g + 1) = v.g + 1 := by rw [IntKind.wrap_i64]; have := ho.g0; have := ho.g1; omega
  have hwr : IntKind.i64.wrap (v.r + 1) = v.r + 1 := by rw [IntKind.wrap_i64]; have := ho.r0; have := ho.r1; omega
  have hnn : decide (v.nd < 3) = false := by simp; omega
  cases hv : v.V 2 with
  | true =>
    rw [hv] at c3
    have HE : Hid (VE w b v ∧ Out (fun i => i = b) w w) := ⟨h, Out.refl _ _⟩
    clear h ho hn
    go_enter Try.func17, Try.ntmps17
    go_wp2
    go_ret
    exact ⟨rfl, HE.out⟩
  | false =>
    rw [hv] at c3
    cases yes with
    | true =>
      have HE : Hid (VE ((w.setCell ⟨b, 3, none⟩ (.bool true)).setCell ⟨b, 8, none⟩ (.int .i64 (v.g + 1))) b (v.mark 2 true) ∧ Out (fun i => i = b) w ((w.setCell ⟨b, 3, none⟩ (.bool true)).setCell ⟨b, 8, none⟩ (.int .i64 (v.g + 1)))) := by
        refine ⟨?_, Out.put (Out.put (Out.refl _ _) (by rfl)) (by rfl)⟩
        have h2 : VE _ _ _ := h
        unfold VE at h2 ⊢
        simpa [PV.row, PV.mark] using heap_set (heap_set h2 3 (.bool true)) 8 (.int .i64 (v.g + 1))
      clear h ho hn
      go_enter Try.func17, Try.ntmps17
      go_wp2
      go_ret
      exact ⟨rfl, HE.out⟩
    | false =>
      have HE : Hid (VE ((w.setCell ⟨b, 3, none⟩ (.bool true)).setCell ⟨b, 9, none⟩ (.int .i64 (v.r + 1))) b (v.mark 2 false) ∧ Out (fun i => i = b) w ((w.setCell ⟨b, 3, none⟩ (.bool true)).setCell ⟨b, 9, none⟩ (.int .i64 (v.r + 1)))) := by
        refine ⟨?_, Out.put (Out.put (Out.refl _ _) (by rfl)) (by rfl)⟩
        have h2 : VE _ _ _ := h
        unfold VE at h2 ⊢
        simpa [PV.row, PV.mark] using heap_set (heap_set h2 3 (.bool true)) 9 (.int .i64 (v.r + 1))
      clear h ho hn
      go_enter Try.func17, Try.ntmps17
      go_wp2
      go_ret
      exact ⟨rfl, HE.out⟩

set_option maxRecDepth 100000 in
theorem put_3 {w : World} {b : Nat} {v : PV} (h : VE w b v) (ho : v.Ok) (yes : Bool) (hn : 4 ≤ v.nd) :
    Calls Try.prog 17 #[.pointer (some ⟨b, 0, none⟩), .int .i64 4, .bool yes] w fun e w' => e = .returned (.bool (!v.V 3)) ∧ VE w' b (if v.V 3 then v else v.mark 3 yes) ∧ Out (fun i => i = b) w w' := by
  obtain ⟨⟨c0, c1, c2, c3, c4, c5, c6, c7, c8, c9⟩, cf⟩ := h.cells
  have hwg : IntKind.i64.wrap (v.g + 1) = v.g + 1 := by rw [IntKind.wrap_i64]; have := ho.g0; have := ho.g1; omega
  have hwr : IntKind.i64.wrap (v.r + 1) = v.r + 1 := by rw [IntKind.wrap_i64]; have := ho.r0; have := ho.r1; omega
  have hnn : decide (v.nd < 4) = false := by simp; omega
  cases hv : v.V 3 with
  | true =>
    rw [hv] at c4
    have HE : Hid (VE w b v ∧ Out (fun i => i = b) w w) := ⟨h, Out.refl _ _⟩
    clear h ho hn
    go_enter Try.func17, Try.ntmps17
    go_wp2
    go_ret
    exact ⟨rfl, HE.out⟩
  | false =>
    rw [hv] at c4
    cases yes with
    | true =>
      have HE : Hid (VE ((w.setCell ⟨b, 4, none⟩ (.bool true)).setCell ⟨b, 8, none⟩ (.int .i64 (v.g + 1))) b (v.mark 3 true) ∧ Out (fun i => i = b) w ((w.setCell ⟨b, 4, none⟩ (.bool true)).setCell ⟨b, 8, none⟩ (.int .i64 (v.g + 1)))) := by
        refine ⟨?_, Out.put (Out.put (Out.refl _ _) (by rfl)) (by rfl)⟩
        have h2 : VE _ _ _ := h
        unfold VE at h2 ⊢
        simpa [PV.row, PV.mark] using heap_set (heap_set h2 4 (.bool true)) 8 (.int .i64 (v.g + 1))
      clear h ho hn
      go_enter Try.func17, Try.ntmps17
      go_wp2
      go_ret
      exact ⟨rfl, HE.out⟩
    | false =>
      have HE : Hid (VE ((w.setCell ⟨b, 4, none⟩ (.bool true)).setCell ⟨b, 9, none⟩ (.int .i64 (v.r + 1))) b (v.mark 3 false) ∧ Out (fun i => i = b) w ((w.setCell ⟨b, 4, none⟩ (.bool true)).setCell ⟨b, 9, none⟩ (.int .i64 (v.r + 1)))) := by
        refine ⟨?_, Out.put (Out.put (Out.refl _ _) (by rfl)) (by rfl)⟩
        have h2 : VE _ _ _ := h
        unfold VE at h2 ⊢
        simpa [PV.row, PV.mark] using heap_set (heap_set h2 4 (.bool true)) 9 (.int .i64 (v.r + 1))
      clear h ho hn
      go_enter Try.func17, Try.ntmps17
      go_wp2
      go_ret
      exact ⟨rfl, HE.out⟩

set_option maxRecDepth 100000 in
theorem put_4 {w : World} {b : Nat} {v : PV} (h : VE w b v) (ho : v.Ok) (yes : Bool) (hn : 5 ≤ v.nd) :
    Calls Try.prog 17 #[.pointer (some ⟨b, 0, none⟩), .int .i64 5, .bool yes] w fun e w' => e = .returned (.bool (!v.V 4)) ∧ VE w' b (if v.V 4 then v else v.mark 4 yes) ∧ Out (fun i => i = b) w w' := by
  obtain ⟨⟨c0, c1, c2, c3, c4, c5, c6, c7, c8, c9⟩, cf⟩ := h.cells
  have hwg : IntKind.i64.wrap (v.g + 1) = v.g + 1 := by rw [IntKind.wrap_i64]; have := ho.g0; have := ho.g1; omega
  have hwr : IntKind.i64.wrap (v.r + 1) = v.r + 1 := by rw [IntKind.wrap_i64]; have := ho.r0; have := ho.r1; omega
  have hnn : decide (v.nd < 5) = false := by simp; omega
  cases hv : v.V 4 with
  | true =>
    rw [hv] at c5
    have HE : Hid (VE w b v ∧ Out (fun i => i = b) w w) := ⟨h, Out.refl _ _⟩
    clear h ho hn
    go_enter Try.func17, Try.ntmps17
    go_wp2
    go_ret
    exact ⟨rfl, HE.out⟩
  | false =>
    rw [hv] at c5
    cases yes with
    | true =>
      have HE : Hid (VE ((w.setCell ⟨b, 5, none⟩ (.bool true)).setCell ⟨b, 8, none⟩ (.int .i64 (v.g + 1))) b (v.mark 4 true) ∧ Out (fun i => i = b) w ((w.setCell ⟨b, 5, none⟩ (.bool true)).setCell ⟨b, 8, none⟩ (.int .i64 (v.g + 1)))) := by
        refine ⟨?_, Out.put (Out.put (Out.refl _ _) (by rfl)) (by rfl)⟩
        have h2 : VE _ _ _ := h
        unfold VE at h2 ⊢
        simpa [PV.row, PV.mark] using heap_set (heap_set h2 5 (.bool true)) 8 (.int .i64 (v.g + 1))
      clear h ho hn
      go_enter Try.func17, Try.ntmps17
      go_wp2
      go_ret
      exact ⟨rfl, HE.out⟩
    | false =>
      have HE : Hid (VE ((w.setCell ⟨b, 5, none⟩ (.bool true)).setCell ⟨b, 9, none⟩ (.int .i64 (v.r + 1))) b (v.mark 4 false) ∧ Out (fun i => i = b) w ((w.setCell ⟨b, 5, none⟩ (.bool true)).setCell ⟨b, 9, none⟩ (.int .i64 (v.r + 1)))) := by
        refine ⟨?_, Out.put (Out.put (Out.refl _ _) (by rfl)) (by rfl)⟩
        have h2 : VE _ _ _ := h
        unfold VE at h2 ⊢
        simpa [PV.row, PV.mark] using heap_set (heap_set h2 5 (.bool true)) 9 (.int .i64 (v.r + 1))
      clear h ho hn
      go_enter Try.func17, Try.ntmps17
      go_wp2
      go_ret
      exact ⟨rfl, HE.out⟩

set_option maxRecDepth 100000 in
theorem put_5 {w : World} {b : Nat} {v : PV} (h : VE w b v) (ho : v.Ok) (yes : Bool) (hn : 6 ≤ v.nd) :
    Calls Try.prog 17 #[.pointer (some ⟨b, 0, none⟩), .int .i64 6, .bool yes] w fun e w' => e = .returned (.bool (!v.V 5)) ∧ VE w' b (if v.V 5 then v else v.mark 5 yes) ∧ Out (fun i => i = b) w w' := by
  obtain ⟨⟨c0, c1, c2, c3, c4, c5, c6, c7, c8, c9⟩, cf⟩ := h.cells
  have hwg : IntKind.i64.wrap (v.g + 1) = v.g + 1 := by rw [IntKind.wrap_i64]; have := ho.g0; have := ho.g1; omega
  have hwr : IntKind.i64.wrap (v.r + 1) = v.r + 1 := by rw [IntKind.wrap_i64]; have := ho.r0; have := ho.r1; omega
  have hnn : decide (v.nd < 6) = false := by simp; omega
  cases hv : v.V 5 with
  | true =>
    rw [hv] at c6
    have HE : Hid (VE w b v ∧ Out (fun i => i = b) w w) := ⟨h, Out.refl _ _⟩
    clear h ho hn
    go_enter Try.func17, Try.ntmps17
    go_wp2
    go_ret
    exact ⟨rfl, HE.out⟩
  | false =>
    rw [hv] at c6
    cases yes with
    | true =>
      have HE : Hid (VE ((w.setCell ⟨b, 6, none⟩ (.bool true)).setCell ⟨b, 8, none⟩ (.int .i64 (v.g + 1))) b (v.mark 5 true) ∧ Out (fun i => i = b) w ((w.setCell ⟨b, 6, none⟩ (.bool true)).setCell ⟨b, 8, none⟩ (.int .i64 (v.g + 1)))) := by
        refine ⟨?_, Out.put (Out.put (Out.refl _ _) (by rfl)) (by rfl)⟩
        have h2 : VE _ _ _ := h
        unfold VE at h2 ⊢
        simpa [PV.row, PV.mark] using heap_set (heap_set h2 6 (.bool true)) 8 (.int .i64 (v.g + 1))
      clear h ho hn
      go_enter Try.func17, Try.ntmps17
      go_wp2
      go_ret
      exact ⟨rfl, HE.out⟩
    | false =>
      have HE : Hid (VE ((w.setCell ⟨b, 6, none⟩ (.bool true)).setCell ⟨b, 9, none⟩ (.int .i64 (v.r + 1))) b (v.mark 5 false) ∧ Out (fun i => i = b) w ((w.setCell ⟨b, 6, none⟩ (.bool true)).setCell ⟨b, 9, none⟩ (.int .i64 (v.r + 1)))) := by
        refine ⟨?_, Out.put (Out.put (Out.refl _ _) (by rfl)) (by rfl)⟩
        have h2 : VE _ _ _ := h
        unfold VE at h2 ⊢
        simpa [PV.row, PV.mark] using heap_set (heap_set h2 6 (.bool true)) 9 (.int .i64 (v.r + 1))
      clear h ho hn
      go_enter Try.func17, Try.ntmps17
      go_wp2
      go_ret
      exact ⟨rfl, HE.out⟩

set_option maxRecDepth 100000 in
theorem put_6 {w : World} {b : Nat} {v : PV} (h : VE w b v) (ho : v.Ok) (yes : Bool) (hn : 7 ≤ v.nd) :
    Calls Try.prog 17 #[.pointer (some ⟨b, 0, none⟩), .int .i64 7, .bool yes] w fun e w' => e = .returned (.bool (!v.V 6)) ∧ VE w' b (if v.V 6 then v else v.mark 6 yes) ∧ Out (fun i => i = b) w w' := by
  obtain ⟨⟨c0, c1, c2, c3, c4, c5, c6, c7, c8, c9⟩, cf⟩ := h.cells
  have hwg : IntKind.i64.wrap (v.g + 1) = v.g + 1 := by rw [IntKind.wrap_i64]; have := ho.g0; have := ho.g1; omega
  have hwr : IntKind.i64.wrap (v.r + 1) = v.r + 1 := by rw [IntKind.wrap_i64]; have := ho.r0; have := ho.r1; omega
  have hnn : decide (v.nd < 7) = false := by simp; omega
  cases hv : v.V 6 with
  | true =>
    rw [hv] at c7
    have HE : Hid (VE w b v ∧ Out (fun i => i = b) w w) := ⟨h, Out.refl _ _⟩
    clear h ho hn
    go_enter Try.func17, Try.ntmps17
    go_wp2
    go_ret
    exact ⟨rfl, HE.out⟩
  | false =>
    rw [hv] at c7
    cases yes with
    | true =>
      have HE : Hid (VE ((w.setCell ⟨b, 7, none⟩ (.bool true)).setCell ⟨b, 8, none⟩ (.int .i64 (v.g + 1))) b (v.mark 6 true) ∧ Out (fun i => i = b) w ((w.setCell ⟨b, 7, none⟩ (.bool true)).setCell ⟨b, 8, none⟩ (.int .i64 (v.g + 1)))) := by
        refine ⟨?_, Out.put (Out.put (Out.refl _ _) (by rfl)) (by rfl)⟩
        have h2 : VE _ _ _ := h
        unfold VE at h2 ⊢
        simpa [PV.row, PV.mark] using heap_set (heap_set h2 7 (.bool true)) 8 (.int .i64 (v.g + 1))
      clear h ho hn
      go_enter Try.func17, Try.ntmps17
      go_wp2
      go_ret
      exact ⟨rfl, HE.out⟩
    | false =>
      have HE : Hid (VE ((w.setCell ⟨b, 7, none⟩ (.bool true)).setCell ⟨b, 9, none⟩ (.int .i64 (v.r + 1))) b (v.mark 6 false) ∧ Out (fun i => i = b) w ((w.setCell ⟨b, 7, none⟩ (.bool true)).setCell ⟨b, 9, none⟩ (.int .i64 (v.r + 1)))) := by
        refine ⟨?_, Out.put (Out.put (Out.refl _ _) (by rfl)) (by rfl)⟩
        have h2 : VE _ _ _ := h
        unfold VE at h2 ⊢
        simpa [PV.row, PV.mark] using heap_set (heap_set h2 7 (.bool true)) 9 (.int .i64 (v.r + 1))
      clear h ho hn
      go_enter Try.func17, Try.ntmps17
      go_wp2
      go_ret
      exact ⟨rfl, HE.out⟩

set_option maxRecDepth 100000 in
theorem Put_any {w : World} {b : Nat} {v : PV} (h : VE w b v) (ho : v.Ok) (id : Int) (yes : Bool) :
    Calls Try.prog 17 #[.pointer (some ⟨b, 0, none⟩), .int .i64 id, .bool yes] w fun e w' => e = .returned (.bool (v.putY id)) ∧ VE w' b (v.put id yes) ∧ Out (fun i => i = b) w w' := by
  by_cases h1 : 1 ≤ id
  · by_cases h2 : id ≤ v.nd
    · have hc : id = 1 ∨ id = 2 ∨ id = 3 ∨ id = 4 ∨ id = 5 ∨ id = 6 ∨ id = 7 := by have := ho.n7; omega
      have key : ∀ k : Nat, id = (k : Int) + 1 → v.putY id = !v.V k ∧ v.put id yes = if v.V k then v else v.mark k yes := fun k e => by
        have hk : (id - 1).toNat = k := by omega
        have hy : v.putY id = !v.V k := by simp [PV.putY, hk, h1, h2]
        refine ⟨hy, ?_⟩
        rw [PV.put, hy, hk]
        cases v.V k <;> simp
      rcases hc with rfl | hc
      · rw [(key 0 (by omega)).1, (key 0 (by omega)).2]; exact put_0 h ho yes h2
      rcases hc with rfl | hc
      · rw [(key 1 (by omega)).1, (key 1 (by omega)).2]; exact put_1 h ho yes h2
      rcases hc with rfl | hc
      · rw [(key 2 (by omega)).1, (key 2 (by omega)).2]; exact put_2 h ho yes h2
      rcases hc with rfl | hc
      · rw [(key 3 (by omega)).1, (key 3 (by omega)).2]; exact put_3 h ho yes h2
      rcases hc with rfl | hc
      · rw [(key 4 (by omega)).1, (key 4 (by omega)).2]; exact put_4 h ho yes h2
      rcases hc with rfl | hc
      · rw [(key 5 (by omega)).1, (key 5 (by omega)).2]; exact put_5 h ho yes h2
      subst hc
      rw [(key 6 (by omega)).1, (key 6 (by omega)).2]; exact put_6 h ho yes h2
    · have hy : v.putY id = false := by simp [PV.putY, h2]
      obtain ⟨⟨c0, -⟩, -⟩ := h.cells
      have hnn : decide (v.nd < id) = true := by simp; omega
      have HE : Hid (VE w b (v.put id yes) ∧ Out (fun i => i = b) w w) := ⟨by rw [PV.put, hy]; exact h, Out.refl _ _⟩
      rw [hy]
      clear h ho hy
      go_enter Try.func17, Try.ntmps17
      go_wp2
      go_ret
      exact ⟨rfl, HE.out⟩
  · have hy : v.putY id = false := by simp [PV.putY, h1]
    have hnn : decide (id < 1) = true := by simp; omega
    have HE : Hid (VE w b (v.put id yes) ∧ Out (fun i => i = b) w w) := ⟨by rw [PV.put, hy]; exact h, Out.refl _ _⟩
    rw [hy]
    clear h ho hy
    go_enter Try.func17, Try.ntmps17
    go_wp2
    go_ret
    exact ⟨rfl, HE.out⟩

/-- What they say. -/
def PV.res (v : PV) : Int := if qrm v.nd ≤ v.g then 1 else if v.nd - v.r < qrm v.nd then 2 else 0

set_option maxRecDepth 100000 in
theorem Result_any {w : World} {b : Nat} {v : PV} (h : VE w b v) (ho : v.Ok) :
    Calls Try.prog 21 #[.pointer (some ⟨b, 0, none⟩)] w fun e w' => e = .returned (.int .i64 v.res) ∧ ∃ n, w' = w.drewN n := by
  obtain ⟨⟨c0, -, -, -, -, -, -, -, c8, c9⟩, cf⟩ := h.cells
  have HQ : Hid (Calls _ _ _ _ _) := Quorum_any v.nd w
  have hw : IntKind.i64.wrap (v.nd - v.r) = v.nd - v.r := by rw [IntKind.wrap_i64]; have := ho.r0; have := ho.r1; have := ho.n1; have := ho.n7; omega
  clear h ho
  by_cases h1 : qrm v.nd ≤ v.g
  · rw [PV.res, if_pos h1]
    generalize qrm v.nd = q at *
    go_enter Try.func21, Try.ntmps21
    go_wp2_with (go_at_call 12; refine HQ.out.mono ?_; rintro r w1 ⟨rfl, hw1⟩; subst w1)
    go_ret
    exact ⟨rfl, 0, rfl⟩
  · by_cases h2 : v.nd - v.r < qrm v.nd
    · rw [PV.res, if_neg h1, if_pos h2]
      generalize qrm v.nd = q at *
      go_enter Try.func21, Try.ntmps21
      go_wp2_with (go_at_call 12; refine HQ.out.mono ?_; rintro r w1 ⟨rfl, hw1⟩; subst w1)
      go_quiet (fail)
      go_wp2
      go_ret
      exact ⟨rfl, _, rfl⟩
    · rw [PV.res, if_neg h1, if_neg h2]
      generalize qrm v.nd = q at *
      go_enter Try.func21, Try.ntmps21
      go_wp2_with (go_at_call 12; refine HQ.out.mono ?_; rintro r w1 ⟨rfl, hw1⟩; subst w1)
      go_quiet (fail)
      go_wp2
      go_ret
      exact ⟨rfl, _, rfl⟩

theorem Counts_any {w : World} {b : Nat} {v : PV} (h : VE w b v) :
    Calls Try.prog 19 #[.pointer (some ⟨b, 0, none⟩)] w fun e w' => e = .returned (.tuple #[.int .i64 v.g, .int .i64 v.r]) ∧ ∃ n, w' = w.drewN n := by
  obtain ⟨⟨c0, -, -, -, -, -, -, -, c8, c9⟩, cf⟩ := h.cells
  clear h
  go_enter Try.func19, Try.ntmps19
  go_wp2
  go_quiet (fail)
  go_wp2
  go_ret2
  exact ⟨rfl, _, rfl⟩

def pV0 (n : Int) : PV := ⟨n, fun _ => false, 0, 0⟩
theorem NewVotes_any (n : Int) (w : World) (h1 : 1 ≤ n) (h2 : n ≤ 7) :
    Calls Try.prog 15 #[.int .i64 n] w fun e w' => e = .returned (.pointer (some ⟨w.heap.size, 0, none⟩)) ∧ VE w' w.heap.size (pV0 n) ∧ Below w.heap.size w w' := by
  have HM : Hid (Calls _ _ _ _ _) := may7_any n w
  have hb : (decide (1 ≤ n) && decide (n ≤ 7)) = true := by simp; omega
  rw [hb] at HM
  have HE : Hid (VE (w.alloc (.cells #[.int .i64 n, .bool false, .bool false, .bool false, .bool false, .bool false, .bool false, .bool false, .int .i64 0, .int .i64 0] 59)) w.heap.size (pV0 n)) := heap_alloc_new w _
  have HB : Hid (∀ cs, Below w.heap.size w (w.alloc (.cells cs 59))) := fun _ => (Below.refl _ w).alloc (Nat.le_refl _) _
  clear h1 h2 hb
  go_enter Try.func15, Try.ntmps15
  go_wp2_with (go_at_call 43; refine HM.out.mono ?_; rintro r w1 ⟨rfl, hw1⟩; subst w1)
  go_ret
  exact ⟨rfl, HE.out, HB.out _⟩
theorem NewVotes_none (n : Int) (w : World) (h : ¬ (1 ≤ n ∧ n ≤ 7)) :
    Calls Try.prog 15 #[.int .i64 n] w fun e w' => e = .returned (.pointer none) ∧ w' = w := by
  have HM : Hid (Calls _ _ _ _ _) := may7_any n w
  have hb : (decide (1 ≤ n) && decide (n ≤ 7)) = false := by simp; omega
  rw [hb] at HM
  clear h hb
  go_enter Try.func15, Try.ntmps15
  go_wp2_with (go_at_call 43; refine HM.out.mono ?_; rintro r w1 ⟨rfl, hw1⟩; subst w1)
  go_ret
  exact ⟨rfl, rfl⟩

end Go.Proofs.Ytdgaimiggejleaa
