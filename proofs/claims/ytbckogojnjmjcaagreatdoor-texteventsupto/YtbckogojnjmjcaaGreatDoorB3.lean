/-
  What a word says is put into its field.
-/
import Derived.Test.YtbckogojnjmjcaaGreatDoorB2
import Derived.Test.YtbckogojnjmjcaaGreatDoorA8
namespace Go.Proofs.YtbckogojnjmjcaaGreatDoor
open Go.RowKit Go.Shelf

/-- An act in a block. -/
def AcAt (W : World) (b : Nat) (a : Ac) : Prop := W.heap[b]? = some (.cells a.cells 34)
theorem AcAt.out {X : Nat → Prop} {W W' : World} {b : Nat} {a : Ac} (h : AcAt W b a) (hO : Out X W W') (hx : ¬ X b) : AcAt W' b a := (hO.block b (Array.getElem?_eq_some_iff.1 h).1 hx).trans h
theorem AcAt.below {W W' : World} {b : Nat} {a : Ac} (h : AcAt W b a) (hO : Below W.heap.size W W') : AcAt W' b a := (hO.block b (Array.getElem?_eq_some_iff.1 h).1).trans h
theorem AcAt.lt {W : World} {b : Nat} {a : Ac} (h : AcAt W b a) : b < W.heap.size := (Array.getElem?_eq_some_iff.1 h).1
theorem AcAt.cell {W : World} {b : Nat} {a : Ac} (h : AcAt W b a) (j : Nat) : W.cell? ⟨b, j, none⟩ = a.cells[j]? := by unfold AcAt at h; simp only [World.cell?, h]; rfl
theorem AcAt.frz {W : World} {b : Nat} {a : Ac} (h : AcAt W b a) (j : Nat) : W.frozen? ⟨b, j, none⟩ = false := by unfold AcAt at h; simp [World.frozen?, h]
theorem AcAt.set {W : World} {b : Nat} {a a' : Ac} (h : AcAt W b a) (o : Nat) (u : Value) (e : a.cells.setIfInBounds o u = a'.cells) : AcAt (W.setCell ⟨b, o, none⟩ u) b a' := by
  unfold AcAt
  rw [← e]
  exact heap_set h o u
theorem AcAt.setA {W : World} {b : Nat} {a a' : Ac} {o : Nat} {u : Value} {ob : Obj} (h : AcAt W b a) (e : a.cells.setIfInBounds o u = a'.cells) : AcAt ((W.setCell ⟨b, o, none⟩ u).alloc ob) b a' := (h.set o u e).below ((Below.refl _ _).alloc (Nat.le_refl _) _)
theorem AcAt.cells {W : World} {b : Nat} {a : Ac} (h : AcAt W b a) : W.cell? ⟨b, 0, none⟩ = some (.int .i64 a.kind) ∧ W.cell? ⟨b, 1, none⟩ = some (.int .i64 a.node) ∧ W.cell? ⟨b, 2, none⟩ = some (.int .i64 a.client) ∧ W.cell? ⟨b, 3, none⟩ = some (.int .i64 a.n) ∧ W.cell? ⟨b, 4, none⟩ = some (.int .i64 a.m) ∧ W.cell? ⟨b, 5, none⟩ = some (.int .i64 a.op) ∧
    W.cell? ⟨b, 6, none⟩ = some (.string ⟨a.key.toArray⟩) ∧ W.cell? ⟨b, 7, none⟩ = some (.string ⟨a.val.toArray⟩) ∧ W.cell? ⟨b, 8, none⟩ = some (.string ⟨a.old.toArray⟩) :=
  ⟨h.cell 0, h.cell 1, h.cell 2, h.cell 3, h.cell 4, h.cell 5, h.cell 6, h.cell 7, h.cell 8⟩
theorem neqS1 (k : Nat) (W : World) : (binOp BinOp.neq 111 (.func (.func k) #[] #[]) .nilFunc).run Tryz.prog W = .ok (.bool true) W := by kernel_rfl
theorem neqS0 (W : World) : (binOp BinOp.neq 111 .nilFunc .nilFunc).run Tryz.prog W = .ok (.bool false) W := by kernel_rfl
theorem neqI1 (k : Nat) (W : World) : (binOp BinOp.neq 110 (.func (.func k) #[] #[]) .nilFunc).run Tryz.prog W = .ok (.bool true) W := by kernel_rfl
theorem neqI0 (W : World) : (binOp BinOp.neq 110 .nilFunc .nilFunc).run Tryz.prog W = .ok (.bool false) W := by kernel_rfl
/-- What read answers. -/
def RdR (p : Pc) (a : Ac) (s : Bs) (b : Nat) (e : Ending) (w' : World) : Prop := match p.rd a s with
  | .error k => e = .returned (.int .i64 (k : Int)) ∧ AcAt w' b a
  | .ok a' => e = .returned (.int .i64 0) ∧ AcAt w' b a'
set_option maxRecDepth 100000 in
theorem read_key (a : Ac) (s : Bs) (_hl : s.length ≤ 1000000) (b : Nat) (w : World) (_hv : Vars w) (hA : AcAt w b a) :
    Calls Tryz.prog 46 #[.agg (Pc.fns .key).toArray, .pointer (some ⟨b, 0, none⟩), str s] w fun e w' => RdR .key a s b e w' ∧ Out (fun i => i = b) w w' := by
  have HF : ∀ W, Calls Tryz.prog 95 #[.pointer (some ⟨b, 0, none⟩)] W fun e w' => e = .returned (.pointer (some ⟨b, 6, none⟩)) ∧ w' = W := fun W => fn_any .key b W
  have hn1 := neqS1
  have hn2 := neqS0
  have hn3 := neqI1
  have hn4 := neqI0
  have hb := hA.lt
  have HAL : Hid (∀ o, AcAt (w.alloc o) b a) := fun o => hA.below ((Below.refl _ _).alloc (Nat.le_refl _) o)
  have HOL : Hid (∀ o, Out (fun i => i = b) w (w.alloc o)) := fun o => (Out.refl _ w).alloc o
  show Calls _ _ #[.agg #[.nilFunc, .nilFunc, .func (.func 95) #[] #[]], _, _] _ _
  have hc := hA.cell 6
  have hc' : w.cell? ⟨b, 6, none⟩ = some (.string ⟨a.key.toArray⟩) := hc
  have hfr := hA.frz 6
  have HA0 : Hid (AcAt w b a) := hA
  clear hc hA
  unfold str
  go_enter Tryz.func46, Tryz.ntmps46
  go_wp2_with (go_at_call 95; refine (HF _).mono ?_; rintro e w1 ⟨rfl, hw⟩; subst w1)
  go_ret
  exact ⟨⟨rfl, HA0.out.setA rfl⟩, Out.alloc (Out.put (X := fun i => i = b) (Out.refl _ w) rfl) _⟩
set_option maxRecDepth 100000 in
theorem read_val (a : Ac) (s : Bs) (_hl : s.length ≤ 1000000) (b : Nat) (w : World) (_hv : Vars w) (hA : AcAt w b a) :
    Calls Tryz.prog 46 #[.agg (Pc.fns .val).toArray, .pointer (some ⟨b, 0, none⟩), str s] w fun e w' => RdR .val a s b e w' ∧ Out (fun i => i = b) w w' := by
  have HF : ∀ W, Calls Tryz.prog 96 #[.pointer (some ⟨b, 0, none⟩)] W fun e w' => e = .returned (.pointer (some ⟨b, 7, none⟩)) ∧ w' = W := fun W => fn_any .val b W
  have hn1 := neqS1
  have hn2 := neqS0
  have hn3 := neqI1
  have hn4 := neqI0
  have hb := hA.lt
  have HAL : Hid (∀ o, AcAt (w.alloc o) b a) := fun o => hA.below ((Below.refl _ _).alloc (Nat.le_refl _) o)
  have HOL : Hid (∀ o, Out (fun i => i = b) w (w.alloc o)) := fun o => (Out.refl _ w).alloc o
  show Calls _ _ #[.agg #[.nilFunc, .nilFunc, .func (.func 96) #[] #[]], _, _] _ _
  have hc := hA.cell 7
  have hc' : w.cell? ⟨b, 7, none⟩ = some (.string ⟨a.val.toArray⟩) := hc
  have hfr := hA.frz 7
  have HA0 : Hid (AcAt w b a) := hA
  clear hc hA
  unfold str
  go_enter Tryz.func46, Tryz.ntmps46
  go_wp2_with (go_at_call 96; refine (HF _).mono ?_; rintro e w1 ⟨rfl, hw⟩; subst w1)
  go_ret
  exact ⟨⟨rfl, HA0.out.setA rfl⟩, Out.alloc (Out.put (X := fun i => i = b) (Out.refl _ w) rfl) _⟩
set_option maxRecDepth 100000 in
theorem read_old (a : Ac) (s : Bs) (_hl : s.length ≤ 1000000) (b : Nat) (w : World) (_hv : Vars w) (hA : AcAt w b a) :
    Calls Tryz.prog 46 #[.agg (Pc.fns .old).toArray, .pointer (some ⟨b, 0, none⟩), str s] w fun e w' => RdR .old a s b e w' ∧ Out (fun i => i = b) w w' := by
  have HF : ∀ W, Calls Tryz.prog 97 #[.pointer (some ⟨b, 0, none⟩)] W fun e w' => e = .returned (.pointer (some ⟨b, 8, none⟩)) ∧ w' = W := fun W => fn_any .old b W
  have hn1 := neqS1
  have hn2 := neqS0
  have hn3 := neqI1
  have hn4 := neqI0
  have hb := hA.lt
  have HAL : Hid (∀ o, AcAt (w.alloc o) b a) := fun o => hA.below ((Below.refl _ _).alloc (Nat.le_refl _) o)
  have HOL : Hid (∀ o, Out (fun i => i = b) w (w.alloc o)) := fun o => (Out.refl _ w).alloc o
  show Calls _ _ #[.agg #[.nilFunc, .nilFunc, .func (.func 97) #[] #[]], _, _] _ _
  have hc := hA.cell 8
  have hc' : w.cell? ⟨b, 8, none⟩ = some (.string ⟨a.old.toArray⟩) := hc
  have hfr := hA.frz 8
  have HA0 : Hid (AcAt w b a) := hA
  clear hc hA
  unfold str
  go_enter Tryz.func46, Tryz.ntmps46
  go_wp2_with (go_at_call 97; refine (HF _).mono ?_; rintro e w1 ⟨rfl, hw⟩; subst w1)
  go_ret
  exact ⟨⟨rfl, HA0.out.setA rfl⟩, Out.alloc (Out.put (X := fun i => i = b) (Out.refl _ w) rfl) _⟩
set_option maxRecDepth 100000 in
theorem read_node (a : Ac) (s : Bs) (hl : s.length ≤ 1000000) (b : Nat) (w : World) (hv : Vars w) (hA : AcAt w b a) :
    Calls Tryz.prog 46 #[.agg (Pc.fns .node).toArray, .pointer (some ⟨b, 0, none⟩), str s] w fun e w' => RdR .node a s b e w' ∧ Out (fun i => i = b) w w' := by
  have HF : ∀ W, Calls Tryz.prog 90 #[.pointer (some ⟨b, 0, none⟩)] W fun e w' => e = .returned (.pointer (some ⟨b, 1, none⟩)) ∧ w' = W := fun W => fn_any .node b W
  have hn1 := neqS1
  have hn2 := neqS0
  have hn3 := neqI1
  have hn4 := neqI0
  have hb := hA.lt
  have HAL : Hid (∀ o, AcAt (w.alloc o) b a) := fun o => hA.below ((Below.refl _ _).alloc (Nat.le_refl _) o)
  have HOL : Hid (∀ o, Out (fun i => i = b) w (w.alloc o)) := fun o => (Out.refl _ w).alloc o
  show Calls _ _ #[.agg #[.func (.func 90) #[] #[], .nilFunc, .nilFunc], _, _] _ _
  have HN := fun W (h : Vars W) => number_any s hl W h
  have HV : Hid (∀ o, Vars (w.alloc o)) := fun o => hv.below ((Below.refl _ _).alloc (Nat.le_refl _) o)
  unfold str at HN ⊢
  go_enter Tryz.func46, Tryz.ntmps46
  go_wp2_with fail
  refine (HN _ (HV.out _)).mono ?_
  rintro e w1 ⟨⟨n, hn, rfl⟩ | ⟨hn, rfl⟩, hB1⟩
  · have hA1 : AcAt w1 b a := (HAL.out _).below hB1
    have HA1 : Hid (AcAt w1 b a) := hA1
    have HO1 : Hid (Out (fun i => i = b) w w1) := (HOL.out _).trans (Y := fun _ => False) (Out.of_below hB1) (fun _ h _ => h.elim)
    have HR : Hid (Pc.rd .node a s = .ok { a with node := n }) := by show _ = _; simp only [Pc.rd, numOf_some.2 hn]
    have hc' : w1.cell? ⟨b, 1, none⟩ = some (.int .i64 a.node) := hA1.cell 1
    have hfr := hA1.frz 1
    have hbx : w1.cell? ⟨w.heap.size, 0, none⟩ = some (.func (.func 90) #[] #[]) := box_cell hB1 0
    clear hn hA1 hA
    go_wp2_with (go_at_call 90; refine (HF _).mono ?_; rintro e w2 ⟨rfl, hw⟩; subst w2)
    go_ret
    refine ⟨?_, HO1.out.put rfl⟩
    unfold RdR
    rw [HR.out]
    exact ⟨rfl, HA1.out.set 1 _ rfl⟩
  · have HA1 : Hid (AcAt w1 b a) := (HAL.out _).below hB1
    have HO1 : Hid (Out (fun i => i = b) w w1) := (HOL.out _).trans (Y := fun _ => False) (Out.of_below hB1) (fun _ h _ => h.elim)
    have HR : Hid (Pc.rd .node a s = .error 22) := by show _ = _; simp only [Pc.rd, numOf_none hn]
    clear hn hA
    go_wp2
    go_ret
    refine ⟨?_, HO1.out⟩
    unfold RdR
    rw [HR.out]
    exact ⟨rfl, HA1.out⟩
set_option maxRecDepth 100000 in
theorem read_client (a : Ac) (s : Bs) (hl : s.length ≤ 1000000) (b : Nat) (w : World) (hv : Vars w) (hA : AcAt w b a) :
    Calls Tryz.prog 46 #[.agg (Pc.fns .client).toArray, .pointer (some ⟨b, 0, none⟩), str s] w fun e w' => RdR .client a s b e w' ∧ Out (fun i => i = b) w w' := by
  have HF : ∀ W, Calls Tryz.prog 91 #[.pointer (some ⟨b, 0, none⟩)] W fun e w' => e = .returned (.pointer (some ⟨b, 2, none⟩)) ∧ w' = W := fun W => fn_any .client b W
  have hn1 := neqS1
  have hn2 := neqS0
  have hn3 := neqI1
  have hn4 := neqI0
  have hb := hA.lt
  have HAL : Hid (∀ o, AcAt (w.alloc o) b a) := fun o => hA.below ((Below.refl _ _).alloc (Nat.le_refl _) o)
  have HOL : Hid (∀ o, Out (fun i => i = b) w (w.alloc o)) := fun o => (Out.refl _ w).alloc o
  show Calls _ _ #[.agg #[.func (.func 91) #[] #[], .nilFunc, .nilFunc], _, _] _ _
  have HN := fun W (h : Vars W) => number_any s hl W h
  have HV : Hid (∀ o, Vars (w.alloc o)) := fun o => hv.below ((Below.refl _ _).alloc (Nat.le_refl _) o)
  unfold str at HN ⊢
  go_enter Tryz.func46, Tryz.ntmps46
  go_wp2_with fail
  refine (HN _ (HV.out _)).mono ?_
  rintro e w1 ⟨⟨n, hn, rfl⟩ | ⟨hn, rfl⟩, hB1⟩
  · have hA1 : AcAt w1 b a := (HAL.out _).below hB1
    have HA1 : Hid (AcAt w1 b a) := hA1
    have HO1 : Hid (Out (fun i => i = b) w w1) := (HOL.out _).trans (Y := fun _ => False) (Out.of_below hB1) (fun _ h _ => h.elim)
    have HR : Hid (Pc.rd .client a s = .ok { a with client := n }) := by show _ = _; simp only [Pc.rd, numOf_some.2 hn]
    have hc' : w1.cell? ⟨b, 2, none⟩ = some (.int .i64 a.client) := hA1.cell 2
    have hfr := hA1.frz 2
    have hbx : w1.cell? ⟨w.heap.size, 0, none⟩ = some (.func (.func 91) #[] #[]) := box_cell hB1 0
    clear hn hA1 hA
    go_wp2_with (go_at_call 91; refine (HF _).mono ?_; rintro e w2 ⟨rfl, hw⟩; subst w2)
    go_ret
    refine ⟨?_, HO1.out.put rfl⟩
    unfold RdR
    rw [HR.out]
    exact ⟨rfl, HA1.out.set 2 _ rfl⟩
  · have HA1 : Hid (AcAt w1 b a) := (HAL.out _).below hB1
    have HO1 : Hid (Out (fun i => i = b) w w1) := (HOL.out _).trans (Y := fun _ => False) (Out.of_below hB1) (fun _ h _ => h.elim)
    have HR : Hid (Pc.rd .client a s = .error 22) := by show _ = _; simp only [Pc.rd, numOf_none hn]
    clear hn hA
    go_wp2
    go_ret
    refine ⟨?_, HO1.out⟩
    unfold RdR
    rw [HR.out]
    exact ⟨rfl, HA1.out⟩
set_option maxRecDepth 100000 in
theorem read_n (a : Ac) (s : Bs) (hl : s.length ≤ 1000000) (b : Nat) (w : World) (hv : Vars w) (hA : AcAt w b a) :
    Calls Tryz.prog 46 #[.agg (Pc.fns .n).toArray, .pointer (some ⟨b, 0, none⟩), str s] w fun e w' => RdR .n a s b e w' ∧ Out (fun i => i = b) w w' := by
  have HF : ∀ W, Calls Tryz.prog 92 #[.pointer (some ⟨b, 0, none⟩)] W fun e w' => e = .returned (.pointer (some ⟨b, 3, none⟩)) ∧ w' = W := fun W => fn_any .n b W
  have hn1 := neqS1
  have hn2 := neqS0
  have hn3 := neqI1
  have hn4 := neqI0
  have hb := hA.lt
  have HAL : Hid (∀ o, AcAt (w.alloc o) b a) := fun o => hA.below ((Below.refl _ _).alloc (Nat.le_refl _) o)
  have HOL : Hid (∀ o, Out (fun i => i = b) w (w.alloc o)) := fun o => (Out.refl _ w).alloc o
  show Calls _ _ #[.agg #[.func (.func 92) #[] #[], .nilFunc, .nilFunc], _, _] _ _
  have HN := fun W (h : Vars W) => number_any s hl W h
  have HV : Hid (∀ o, Vars (w.alloc o)) := fun o => hv.below ((Below.refl _ _).alloc (Nat.le_refl _) o)
  unfold str at HN ⊢
  go_enter Tryz.func46, Tryz.ntmps46
  go_wp2_with fail
  refine (HN _ (HV.out _)).mono ?_
  rintro e w1 ⟨⟨n, hn, rfl⟩ | ⟨hn, rfl⟩, hB1⟩
  · have hA1 : AcAt w1 b a := (HAL.out _).below hB1
    have HA1 : Hid (AcAt w1 b a) := hA1
    have HO1 : Hid (Out (fun i => i = b) w w1) := (HOL.out _).trans (Y := fun _ => False) (Out.of_below hB1) (fun _ h _ => h.elim)
    have HR : Hid (Pc.rd .n a s = .ok { a with n := n }) := by show _ = _; simp only [Pc.rd, numOf_some.2 hn]
    have hc' : w1.cell? ⟨b, 3, none⟩ = some (.int .i64 a.n) := hA1.cell 3
    have hfr := hA1.frz 3
    have hbx : w1.cell? ⟨w.heap.size, 0, none⟩ = some (.func (.func 92) #[] #[]) := box_cell hB1 0
    clear hn hA1 hA
    go_wp2_with (go_at_call 92; refine (HF _).mono ?_; rintro e w2 ⟨rfl, hw⟩; subst w2)
    go_ret
    refine ⟨?_, HO1.out.put rfl⟩
    unfold RdR
    rw [HR.out]
    exact ⟨rfl, HA1.out.set 3 _ rfl⟩
  · have HA1 : Hid (AcAt w1 b a) := (HAL.out _).below hB1
    have HO1 : Hid (Out (fun i => i = b) w w1) := (HOL.out _).trans (Y := fun _ => False) (Out.of_below hB1) (fun _ h _ => h.elim)
    have HR : Hid (Pc.rd .n a s = .error 22) := by show _ = _; simp only [Pc.rd, numOf_none hn]
    clear hn hA
    go_wp2
    go_ret
    refine ⟨?_, HO1.out⟩
    unfold RdR
    rw [HR.out]
    exact ⟨rfl, HA1.out⟩
set_option maxRecDepth 100000 in
theorem read_m (a : Ac) (s : Bs) (hl : s.length ≤ 1000000) (b : Nat) (w : World) (hv : Vars w) (hA : AcAt w b a) :
    Calls Tryz.prog 46 #[.agg (Pc.fns .m).toArray, .pointer (some ⟨b, 0, none⟩), str s] w fun e w' => RdR .m a s b e w' ∧ Out (fun i => i = b) w w' := by
  have HF : ∀ W, Calls Tryz.prog 93 #[.pointer (some ⟨b, 0, none⟩)] W fun e w' => e = .returned (.pointer (some ⟨b, 4, none⟩)) ∧ w' = W := fun W => fn_any .m b W
  have hn1 := neqS1
  have hn2 := neqS0
  have hn3 := neqI1
  have hn4 := neqI0
  have hb := hA.lt
  have HAL : Hid (∀ o, AcAt (w.alloc o) b a) := fun o => hA.below ((Below.refl _ _).alloc (Nat.le_refl _) o)
  have HOL : Hid (∀ o, Out (fun i => i = b) w (w.alloc o)) := fun o => (Out.refl _ w).alloc o
  show Calls _ _ #[.agg #[.func (.func 93) #[] #[], .nilFunc, .nilFunc], _, _] _ _
  have HN := fun W (h : Vars W) => number_any s hl W h
  have HV : Hid (∀ o, Vars (w.alloc o)) := fun o => hv.below ((Below.refl _ _).alloc (Nat.le_refl _) o)
  unfold str at HN ⊢
  go_enter Tryz.func46, Tryz.ntmps46
  go_wp2_with fail
  refine (HN _ (HV.out _)).mono ?_
  rintro e w1 ⟨⟨n, hn, rfl⟩ | ⟨hn, rfl⟩, hB1⟩
  · have hA1 : AcAt w1 b a := (HAL.out _).below hB1
    have HA1 : Hid (AcAt w1 b a) := hA1
    have HO1 : Hid (Out (fun i => i = b) w w1) := (HOL.out _).trans (Y := fun _ => False) (Out.of_below hB1) (fun _ h _ => h.elim)
    have HR : Hid (Pc.rd .m a s = .ok { a with m := n }) := by show _ = _; simp only [Pc.rd, numOf_some.2 hn]
    have hc' : w1.cell? ⟨b, 4, none⟩ = some (.int .i64 a.m) := hA1.cell 4
    have hfr := hA1.frz 4
    have hbx : w1.cell? ⟨w.heap.size, 0, none⟩ = some (.func (.func 93) #[] #[]) := box_cell hB1 0
    clear hn hA1 hA
    go_wp2_with (go_at_call 93; refine (HF _).mono ?_; rintro e w2 ⟨rfl, hw⟩; subst w2)
    go_ret
    refine ⟨?_, HO1.out.put rfl⟩
    unfold RdR
    rw [HR.out]
    exact ⟨rfl, HA1.out.set 4 _ rfl⟩
  · have HA1 : Hid (AcAt w1 b a) := (HAL.out _).below hB1
    have HO1 : Hid (Out (fun i => i = b) w w1) := (HOL.out _).trans (Y := fun _ => False) (Out.of_below hB1) (fun _ h _ => h.elim)
    have HR : Hid (Pc.rd .m a s = .error 22) := by show _ = _; simp only [Pc.rd, numOf_none hn]
    clear hn hA
    go_wp2
    go_ret
    refine ⟨?_, HO1.out⟩
    unfold RdR
    rw [HR.out]
    exact ⟨rfl, HA1.out⟩
set_option maxRecDepth 100000 in
theorem read_pick (a : Ac) (s : Bs) (_hl : s.length ≤ 1000000) (b : Nat) (w : World) (_hv : Vars w) (hA : AcAt w b a) :
    Calls Tryz.prog 46 #[.agg (Pc.fns .pick).toArray, .pointer (some ⟨b, 0, none⟩), str s] w fun e w' => RdR .pick a s b e w' ∧ Out (fun i => i = b) w w' := by
  have HF : ∀ W, Calls Tryz.prog 94 #[.pointer (some ⟨b, 0, none⟩)] W fun e w' => e = .returned (.pointer (some ⟨b, 3, none⟩)) ∧ w' = W := fun W => fn_any .pick b W
  have hn1 := neqS1
  have hn2 := neqS0
  have hn3 := neqI1
  have hn4 := neqI0
  have hb := hA.lt
  have HAL : Hid (∀ o, AcAt (w.alloc o) b a) := fun o => hA.below ((Below.refl _ _).alloc (Nat.le_refl _) o)
  have HOL : Hid (∀ o, Out (fun i => i = b) w (w.alloc o)) := fun o => (Out.refl _ w).alloc o
  show Calls _ _ #[.agg #[.nilFunc, .func (.func 94) #[] #[], .nilFunc], _, _] _ _
  have HP := picks_at
  have HN := fun (W : World) g h1 (h2 : StrAt W g picksL) => names_number W 1 (by decide) g 9 picksL (by decide) h1 h2 s
  unfold str at HN ⊢
  go_enter Tryz.func46, Tryz.ntmps46
  go_wp2_with fail
  refine (HP _).mono ?_
  rintro e w1 ⟨g, rfl, hg, hp, hB1⟩
  have hA1 : AcAt w1 b a := (HAL.out _).below hB1
  have HO1 : Hid (Out (fun i => i = b) w w1) := (HOL.out _).trans (Y := fun _ => False) (Out.of_below hB1) (fun _ h _ => h.elim)
  have HNN := HN w1 g hg hp
  have hpl : picksL.length = 9 := rfl
  rw [hpl] at HNN
  clear HN HP hp
  go_wp2_with fail
  refine HNN.mono ?_
  rintro e w2 ⟨hr, hB2⟩
  have hA2 : AcAt w2 b a := hA1.below hB2
  have HO2 : Hid (Out (fun i => i = b) w w2) := HO1.out.trans (Y := fun _ => False) (Out.of_below hB2) (fun _ h _ => h.elim)
  have HA2 : Hid (AcAt w2 b a) := hA2
  unfold NwR at hr
  cases hi : idxOfL picksL s with
  | none =>
    rw [hi] at hr
    subst hr
    have HR : Hid (Pc.rd .pick a s = .error 20) := by show _ = _; simp only [Pc.rd, pickOf, hi]; rfl
    clear hi hA hA1 hA2 HNN
    go_wp2
    go_ret
    refine ⟨?_, HO2.out⟩
    unfold RdR
    rw [HR.out]
    exact ⟨rfl, HA2.out⟩
  | some i =>
    rw [hi] at hr
    subst hr
    have HR : Hid (Pc.rd .pick a s = .ok { a with n := 1 + (i : Int) }) := by show _ = _; simp only [Pc.rd, pickOf, hi]; rfl
    have hc' : w2.cell? ⟨b, 3, none⟩ = some (.int .i64 a.n) := hA2.cell 3
    have hfr := hA2.frz 3
    have hbx : w2.cell? ⟨w.heap.size, 1, none⟩ = some (.func (.func 94) #[] #[]) := box_cell (hB1.trans (hB2.mono hB1.size)) 1
    clear hi hA hA1 hA2 HNN
    go_wp2_with (go_at_call 94; refine (HF _).mono ?_; rintro e w3 ⟨rfl, hw⟩; subst w3)
    go_ret
    refine ⟨?_, HO2.out.put rfl⟩
    unfold RdR
    rw [HR.out]
    exact ⟨rfl, HA2.out.set 3 _ rfl⟩
theorem read_any (p : Pc) (a : Ac) (s : Bs) (hl : s.length ≤ 1000000) (b : Nat) (w : World) (hv : Vars w) (hA : AcAt w b a) :
    Calls Tryz.prog 46 #[.agg p.fns.toArray, .pointer (some ⟨b, 0, none⟩), str s] w fun e w' => RdR p a s b e w' ∧ Out (fun i => i = b) w w' := by
  cases p
  · exact read_node a s hl b w hv hA
  · exact read_client a s hl b w hv hA
  · exact read_n a s hl b w hv hA
  · exact read_m a s hl b w hv hA
  · exact read_pick a s hl b w hv hA
  · exact read_key a s hl b w hv hA
  · exact read_val a s hl b w hv hA
  · exact read_old a s hl b w hv hA
end Go.Proofs.YtbckogojnjmjcaaGreatDoor
