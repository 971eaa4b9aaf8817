/-
  Whether a form fits an act; an act without what its words tell.
-/
import Derived.Test.YtbckogojnjmjcaaGreatDoorB4
namespace Go.Proofs.YtbckogojnjmjcaaGreatDoor
open Go.RowKit Go.Shelf

set_option maxRecDepth 100000 in
theorem fits_any (f : Fo) (pb : Nat) (a : Ac) (w : World) : Calls Tryz.prog 75 #[.agg (f.cs pb), .agg a.cells] w fun e w' => e = .returned (.bool (f.fits a)) ∧ Below w.heap.size w w' := by
  have HB : Hid (∀ o o', Below w.heap.size w ((w.alloc o).alloc o')) := fun o o' => ((Below.refl _ _).alloc (Nat.le_refl _) _).alloc (by simp) _
  unfold Fo.fits Fo.cs Ac.cells str
  generalize f.pl.length = np
  by_cases h13 : a.kind = 13
  · rw [if_pos h13, h13]
    generalize a.op = x
    generalize f.op = y
    cases hq : decide (x = y)
    all_goals (
      have hq' : (x == y) = _ := hq
      go_enter Tryz.func75, Tryz.ntmps75
      go_wp2
      go_ret
      exact ⟨rfl, HB.out _ _⟩)
  · rw [if_neg h13]
    have h13' : (a.kind == 13) = false := by simpa using h13
    by_cases h8 : a.kind = 8
    · rw [if_pos h8]
      clear h13'
      rw [h8]
      generalize a.m = x
      generalize f.m = y
      cases hq : decide (x = 0) <;> cases hr : decide (y = 0)
      all_goals (
        have hq' : (x == 0) = _ := hq
        have hr' : (y == 0) = _ := hr
        go_enter Tryz.func75, Tryz.ntmps75
        go_wp2
        go_ret
        exact ⟨rfl, HB.out _ _⟩)
    · rw [if_neg h8]
      have h8' : (a.kind == 8) = false := by simpa using h8
      generalize a.kind = kd at *
      go_enter Tryz.func75, Tryz.ntmps75
      go_wp2
      go_ret
      exact ⟨rfl, HB.out _ _⟩
set_option maxRecDepth 100000 in
theorem clear_node (a : Ac) (b : Nat) (w : World) (hA : AcAt w b a) :
    Calls Tryz.prog 99 #[.agg (Pc.fns .node).toArray, .pointer (some ⟨b, 0, none⟩)] w fun e w' => e = .returned (.tuple #[]) ∧ AcAt w' b (Pc.clr .node a) ∧ Out (fun i => i = b) w w' := by
  have HF : ∀ W, Calls Tryz.prog 90 #[.pointer (some ⟨b, 0, none⟩)] W fun e w' => e = .returned (.pointer (some ⟨b, 1, none⟩)) ∧ w' = W := fun W => fn_any .node b W
  have hn1 := neqS1
  have hn2 := neqS0
  have hn3 := neqI1
  have hn4 := neqI0
  have hb := hA.lt
  show Calls _ _ #[.agg #[.func (.func 90) #[] #[], .nilFunc, .nilFunc], _] _ _
  have hc' : w.cell? ⟨b, 1, none⟩ = some (.int .i64 a.node) := hA.cell 1
  have hfr := hA.frz 1
  have HA0 : Hid (AcAt w b a) := hA
  clear hA
  go_enter Tryz.func99, Tryz.ntmps99
  go_wp2_with (go_at_call 90; refine (HF _).mono ?_; rintro e w1 ⟨rfl, hw⟩; subst w1)
  go_end0
  exact ⟨rfl, HA0.out.setA rfl, Out.alloc (Out.put (X := fun i => i = b) (Out.refl _ w) rfl) _⟩
set_option maxRecDepth 100000 in
theorem clear_client (a : Ac) (b : Nat) (w : World) (hA : AcAt w b a) :
    Calls Tryz.prog 99 #[.agg (Pc.fns .client).toArray, .pointer (some ⟨b, 0, none⟩)] w fun e w' => e = .returned (.tuple #[]) ∧ AcAt w' b (Pc.clr .client a) ∧ Out (fun i => i = b) w w' := by
  have HF : ∀ W, Calls Tryz.prog 91 #[.pointer (some ⟨b, 0, none⟩)] W fun e w' => e = .returned (.pointer (some ⟨b, 2, none⟩)) ∧ w' = W := fun W => fn_any .client b W
  have hn1 := neqS1
  have hn2 := neqS0
  have hn3 := neqI1
  have hn4 := neqI0
  have hb := hA.lt
  show Calls _ _ #[.agg #[.func (.func 91) #[] #[], .nilFunc, .nilFunc], _] _ _
  have hc' : w.cell? ⟨b, 2, none⟩ = some (.int .i64 a.client) := hA.cell 2
  have hfr := hA.frz 2
  have HA0 : Hid (AcAt w b a) := hA
  clear hA
  go_enter Tryz.func99, Tryz.ntmps99
  go_wp2_with (go_at_call 91; refine (HF _).mono ?_; rintro e w1 ⟨rfl, hw⟩; subst w1)
  go_end0
  exact ⟨rfl, HA0.out.setA rfl, Out.alloc (Out.put (X := fun i => i = b) (Out.refl _ w) rfl) _⟩
set_option maxRecDepth 100000 in
theorem clear_n (a : Ac) (b : Nat) (w : World) (hA : AcAt w b a) :
    Calls Tryz.prog 99 #[.agg (Pc.fns .n).toArray, .pointer (some ⟨b, 0, none⟩)] w fun e w' => e = .returned (.tuple #[]) ∧ AcAt w' b (Pc.clr .n a) ∧ Out (fun i => i = b) w w' := by
  have HF : ∀ W, Calls Tryz.prog 92 #[.pointer (some ⟨b, 0, none⟩)] W fun e w' => e = .returned (.pointer (some ⟨b, 3, none⟩)) ∧ w' = W := fun W => fn_any .n b W
  have hn1 := neqS1
  have hn2 := neqS0
  have hn3 := neqI1
  have hn4 := neqI0
  have hb := hA.lt
  show Calls _ _ #[.agg #[.func (.func 92) #[] #[], .nilFunc, .nilFunc], _] _ _
  have hc' : w.cell? ⟨b, 3, none⟩ = some (.int .i64 a.n) := hA.cell 3
  have hfr := hA.frz 3
  have HA0 : Hid (AcAt w b a) := hA
  clear hA
  go_enter Tryz.func99, Tryz.ntmps99
  go_wp2_with (go_at_call 92; refine (HF _).mono ?_; rintro e w1 ⟨rfl, hw⟩; subst w1)
  go_end0
  exact ⟨rfl, HA0.out.setA rfl, Out.alloc (Out.put (X := fun i => i = b) (Out.refl _ w) rfl) _⟩
set_option maxRecDepth 100000 in
theorem clear_m (a : Ac) (b : Nat) (w : World) (hA : AcAt w b a) :
    Calls Tryz.prog 99 #[.agg (Pc.fns .m).toArray, .pointer (some ⟨b, 0, none⟩)] w fun e w' => e = .returned (.tuple #[]) ∧ AcAt w' b (Pc.clr .m a) ∧ Out (fun i => i = b) w w' := by
  have HF : ∀ W, Calls Tryz.prog 93 #[.pointer (some ⟨b, 0, none⟩)] W fun e w' => e = .returned (.pointer (some ⟨b, 4, none⟩)) ∧ w' = W := fun W => fn_any .m b W
  have hn1 := neqS1
  have hn2 := neqS0
  have hn3 := neqI1
  have hn4 := neqI0
  have hb := hA.lt
  show Calls _ _ #[.agg #[.func (.func 93) #[] #[], .nilFunc, .nilFunc], _] _ _
  have hc' : w.cell? ⟨b, 4, none⟩ = some (.int .i64 a.m) := hA.cell 4
  have hfr := hA.frz 4
  have HA0 : Hid (AcAt w b a) := hA
  clear hA
  go_enter Tryz.func99, Tryz.ntmps99
  go_wp2_with (go_at_call 93; refine (HF _).mono ?_; rintro e w1 ⟨rfl, hw⟩; subst w1)
  go_end0
  exact ⟨rfl, HA0.out.setA rfl, Out.alloc (Out.put (X := fun i => i = b) (Out.refl _ w) rfl) _⟩
set_option maxRecDepth 100000 in
theorem clear_pick (a : Ac) (b : Nat) (w : World) (hA : AcAt w b a) :
    Calls Tryz.prog 99 #[.agg (Pc.fns .pick).toArray, .pointer (some ⟨b, 0, none⟩)] w fun e w' => e = .returned (.tuple #[]) ∧ AcAt w' b (Pc.clr .pick a) ∧ Out (fun i => i = b) w w' := by
  have HF : ∀ W, Calls Tryz.prog 94 #[.pointer (some ⟨b, 0, none⟩)] W fun e w' => e = .returned (.pointer (some ⟨b, 3, none⟩)) ∧ w' = W := fun W => fn_any .pick b W
  have hn1 := neqS1
  have hn2 := neqS0
  have hn3 := neqI1
  have hn4 := neqI0
  have hb := hA.lt
  show Calls _ _ #[.agg #[.nilFunc, .func (.func 94) #[] #[], .nilFunc], _] _ _
  have hc' : w.cell? ⟨b, 3, none⟩ = some (.int .i64 a.n) := hA.cell 3
  have hfr := hA.frz 3
  have HA0 : Hid (AcAt w b a) := hA
  clear hA
  go_enter Tryz.func99, Tryz.ntmps99
  go_wp2_with (go_at_call 94; refine (HF _).mono ?_; rintro e w1 ⟨rfl, hw⟩; subst w1)
  go_end0
  exact ⟨rfl, HA0.out.setA rfl, Out.alloc (Out.put (X := fun i => i = b) (Out.refl _ w) rfl) _⟩
set_option maxRecDepth 100000 in
theorem clear_key (a : Ac) (b : Nat) (w : World) (hA : AcAt w b a) :
    Calls Tryz.prog 99 #[.agg (Pc.fns .key).toArray, .pointer (some ⟨b, 0, none⟩)] w fun e w' => e = .returned (.tuple #[]) ∧ AcAt w' b (Pc.clr .key a) ∧ Out (fun i => i = b) w w' := by
  have HF : ∀ W, Calls Tryz.prog 95 #[.pointer (some ⟨b, 0, none⟩)] W fun e w' => e = .returned (.pointer (some ⟨b, 6, none⟩)) ∧ w' = W := fun W => fn_any .key b W
  have hn1 := neqS1
  have hn2 := neqS0
  have hn3 := neqI1
  have hn4 := neqI0
  have hb := hA.lt
  show Calls _ _ #[.agg #[.nilFunc, .nilFunc, .func (.func 95) #[] #[]], _] _ _
  have hc' : w.cell? ⟨b, 6, none⟩ = some (.string ⟨a.key.toArray⟩) := hA.cell 6
  have hfr := hA.frz 6
  have HA0 : Hid (AcAt w b a) := hA
  clear hA
  go_enter Tryz.func99, Tryz.ntmps99
  go_wp2_with (go_at_call 95; refine (HF _).mono ?_; rintro e w1 ⟨rfl, hw⟩; subst w1)
  go_end0
  exact ⟨rfl, HA0.out.setA rfl, Out.alloc (Out.put (X := fun i => i = b) (Out.refl _ w) rfl) _⟩
set_option maxRecDepth 100000 in
theorem clear_val (a : Ac) (b : Nat) (w : World) (hA : AcAt w b a) :
    Calls Tryz.prog 99 #[.agg (Pc.fns .val).toArray, .pointer (some ⟨b, 0, none⟩)] w fun e w' => e = .returned (.tuple #[]) ∧ AcAt w' b (Pc.clr .val a) ∧ Out (fun i => i = b) w w' := by
  have HF : ∀ W, Calls Tryz.prog 96 #[.pointer (some ⟨b, 0, none⟩)] W fun e w' => e = .returned (.pointer (some ⟨b, 7, none⟩)) ∧ w' = W := fun W => fn_any .val b W
  have hn1 := neqS1
  have hn2 := neqS0
  have hn3 := neqI1
  have hn4 := neqI0
  have hb := hA.lt
  show Calls _ _ #[.agg #[.nilFunc, .nilFunc, .func (.func 96) #[] #[]], _] _ _
  have hc' : w.cell? ⟨b, 7, none⟩ = some (.string ⟨a.val.toArray⟩) := hA.cell 7
  have hfr := hA.frz 7
  have HA0 : Hid (AcAt w b a) := hA
  clear hA
  go_enter Tryz.func99, Tryz.ntmps99
  go_wp2_with (go_at_call 96; refine (HF _).mono ?_; rintro e w1 ⟨rfl, hw⟩; subst w1)
  go_end0
  exact ⟨rfl, HA0.out.setA rfl, Out.alloc (Out.put (X := fun i => i = b) (Out.refl _ w) rfl) _⟩
set_option maxRecDepth 100000 in
theorem clear_old (a : Ac) (b : Nat) (w : World) (hA : AcAt w b a) :
    Calls Tryz.prog 99 #[.agg (Pc.fns .old).toArray, .pointer (some ⟨b, 0, none⟩)] w fun e w' => e = .returned (.tuple #[]) ∧ AcAt w' b (Pc.clr .old a) ∧ Out (fun i => i = b) w w' := by
  have HF : ∀ W, Calls Tryz.prog 97 #[.pointer (some ⟨b, 0, none⟩)] W fun e w' => e = .returned (.pointer (some ⟨b, 8, none⟩)) ∧ w' = W := fun W => fn_any .old b W
  have hn1 := neqS1
  have hn2 := neqS0
  have hn3 := neqI1
  have hn4 := neqI0
  have hb := hA.lt
  show Calls _ _ #[.agg #[.nilFunc, .nilFunc, .func (.func 97) #[] #[]], _] _ _
  have hc' : w.cell? ⟨b, 8, none⟩ = some (.string ⟨a.old.toArray⟩) := hA.cell 8
  have hfr := hA.frz 8
  have HA0 : Hid (AcAt w b a) := hA
  clear hA
  go_enter Tryz.func99, Tryz.ntmps99
  go_wp2_with (go_at_call 97; refine (HF _).mono ?_; rintro e w1 ⟨rfl, hw⟩; subst w1)
  go_end0
  exact ⟨rfl, HA0.out.setA rfl, Out.alloc (Out.put (X := fun i => i = b) (Out.refl _ w) rfl) _⟩
theorem clear_any (p : Pc) (a : Ac) (b : Nat) (w : World) (hA : AcAt w b a) :
    Calls Tryz.prog 99 #[.agg p.fns.toArray, .pointer (some ⟨b, 0, none⟩)] w fun e w' => e = .returned (.tuple #[]) ∧ AcAt w' b (p.clr a) ∧ Out (fun i => i = b) w w' := by
  cases p
  · exact clear_node a b w hA
  · exact clear_client a b w hA
  · exact clear_n a b w hA
  · exact clear_m a b w hA
  · exact clear_pick a b w hA
  · exact clear_key a b w hA
  · exact clear_val a b w hA
  · exact clear_old a b w hA
theorem clr_kind (p : Pc) (a : Ac) : (p.clr a).kind = a.kind := by cases p <;> rfl
theorem clrs_step {pl : List Pc} {k : Nat} {p : Pc} (hp : pl[k]? = some p) (a : Ac) : clrs (pl.drop k) a = clrs (pl.drop (k + 1)) (p.clr a) := by
  obtain ⟨h1, h2⟩ := List.getElem?_eq_some_iff.1 hp
  rw [List.drop_eq_getElem_cons h1, h2, clrs]
end Go.Proofs.YtbckogojnjmjcaaGreatDoor
