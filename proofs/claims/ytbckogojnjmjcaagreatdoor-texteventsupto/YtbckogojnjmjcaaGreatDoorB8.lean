/-
  The word of a field.
-/
import Derived.Test.YtbckogojnjmjcaaGreatDoorB6
import Derived.Test.YtbckogojnjmjcaaGreatDoorB5
import Derived.Test.YtbckogojnjmjcaaGreatDoorA7
namespace Go.Proofs.YtbckogojnjmjcaaGreatDoor
open Go.RowKit Go.Shelf

/-- An act whose numbers are those of the machine. -/
structure AcOk (a : Ac) : Prop where
  kind : -9223372036854775808 ≤ a.kind ∧ a.kind ≤ 9223372036854775807
  node : -9223372036854775808 ≤ a.node ∧ a.node ≤ 9223372036854775807
  client : -9223372036854775808 ≤ a.client ∧ a.client ≤ 9223372036854775807
  n : -9223372036854775808 ≤ a.n ∧ a.n ≤ 9223372036854775807
  m : -9223372036854775808 ≤ a.m ∧ a.m ≤ 9223372036854775807
  op : -9223372036854775808 ≤ a.op ∧ a.op ≤ 9223372036854775807
  key : a.key.length ≤ 1000000
  val : a.val.length ≤ 1000000
  old : a.old.length ≤ 1000000
set_option maxRecDepth 100000 in
theorem show_key (a : Ac) (ha : AcOk a) (w : World) (_hv : Vars w) : Calls Tryz.prog 79 #[.agg (Pc.fns .key).toArray, .agg a.cells] w fun e w' => e = .returned (str (Pc.show .key a)) ∧ Below w.heap.size w w' := by
  have HF : ∀ W, Calls Tryz.prog 95 #[.pointer (some ⟨w.heap.size + 1, 0, none⟩)] W fun e w' => e = .returned (.pointer (some ⟨w.heap.size + 1, 6, none⟩)) ∧ w' = W := fun W => fn_any .key (w.heap.size + 1) W
  have HBB : Hid (∀ o o', Below w.heap.size w ((w.alloc o).alloc o')) := fun o o' => ((Below.refl _ _).alloc (Nat.le_refl _) _).alloc (by simp) _
  have hn1 := neqS1
  have hn2 := neqS0
  have hn3 := neqI1
  have hn4 := neqI0
  show Calls _ _ #[.agg #[.nilFunc, .nilFunc, .func (.func 95) #[] #[]], _] _ fun e w' => e = .returned (str (quoteL a.key)) ∧ _
  have HQ := fun W => quote_any a.key ha.key W
  unfold Ac.cells str at *
  go_enter Tryz.func79, Tryz.ntmps79
  go_wp2_with (first
    | (go_at_call 95; refine (HF _).mono ?_; rintro e w1 ⟨rfl, hw⟩; subst w1)
    | (go_at_call 12; refine (HQ _).mono ?_; rintro e w2 ⟨rfl, hB2⟩))
  go_ret
  exact ⟨rfl, (HBB.out _ _).trans (hB2.mono (by simp; omega))⟩
set_option maxRecDepth 100000 in
theorem show_val (a : Ac) (ha : AcOk a) (w : World) (_hv : Vars w) : Calls Tryz.prog 79 #[.agg (Pc.fns .val).toArray, .agg a.cells] w fun e w' => e = .returned (str (Pc.show .val a)) ∧ Below w.heap.size w w' := by
  have HF : ∀ W, Calls Tryz.prog 96 #[.pointer (some ⟨w.heap.size + 1, 0, none⟩)] W fun e w' => e = .returned (.pointer (some ⟨w.heap.size + 1, 7, none⟩)) ∧ w' = W := fun W => fn_any .val (w.heap.size + 1) W
  have HBB : Hid (∀ o o', Below w.heap.size w ((w.alloc o).alloc o')) := fun o o' => ((Below.refl _ _).alloc (Nat.le_refl _) _).alloc (by simp) _
  have hn1 := neqS1
  have hn2 := neqS0
  have hn3 := neqI1
  have hn4 := neqI0
  show Calls _ _ #[.agg #[.nilFunc, .nilFunc, .func (.func 96) #[] #[]], _] _ fun e w' => e = .returned (str (quoteL a.val)) ∧ _
  have HQ := fun W => quote_any a.val ha.val W
  unfold Ac.cells str at *
  go_enter Tryz.func79, Tryz.ntmps79
  go_wp2_with (first
    | (go_at_call 96; refine (HF _).mono ?_; rintro e w1 ⟨rfl, hw⟩; subst w1)
    | (go_at_call 12; refine (HQ _).mono ?_; rintro e w2 ⟨rfl, hB2⟩))
  go_ret
  exact ⟨rfl, (HBB.out _ _).trans (hB2.mono (by simp; omega))⟩
set_option maxRecDepth 100000 in
theorem show_old (a : Ac) (ha : AcOk a) (w : World) (_hv : Vars w) : Calls Tryz.prog 79 #[.agg (Pc.fns .old).toArray, .agg a.cells] w fun e w' => e = .returned (str (Pc.show .old a)) ∧ Below w.heap.size w w' := by
  have HF : ∀ W, Calls Tryz.prog 97 #[.pointer (some ⟨w.heap.size + 1, 0, none⟩)] W fun e w' => e = .returned (.pointer (some ⟨w.heap.size + 1, 8, none⟩)) ∧ w' = W := fun W => fn_any .old (w.heap.size + 1) W
  have HBB : Hid (∀ o o', Below w.heap.size w ((w.alloc o).alloc o')) := fun o o' => ((Below.refl _ _).alloc (Nat.le_refl _) _).alloc (by simp) _
  have hn1 := neqS1
  have hn2 := neqS0
  have hn3 := neqI1
  have hn4 := neqI0
  show Calls _ _ #[.agg #[.nilFunc, .nilFunc, .func (.func 97) #[] #[]], _] _ fun e w' => e = .returned (str (quoteL a.old)) ∧ _
  have HQ := fun W => quote_any a.old ha.old W
  unfold Ac.cells str at *
  go_enter Tryz.func79, Tryz.ntmps79
  go_wp2_with (first
    | (go_at_call 97; refine (HF _).mono ?_; rintro e w1 ⟨rfl, hw⟩; subst w1)
    | (go_at_call 12; refine (HQ _).mono ?_; rintro e w2 ⟨rfl, hB2⟩))
  go_ret
  exact ⟨rfl, (HBB.out _ _).trans (hB2.mono (by simp; omega))⟩
set_option maxRecDepth 100000 in
theorem show_node (a : Ac) (ha : AcOk a) (w : World) (hv : Vars w) : Calls Tryz.prog 79 #[.agg (Pc.fns .node).toArray, .agg a.cells] w fun e w' => e = .returned (str (Pc.show .node a)) ∧ Below w.heap.size w w' := by
  have HF : ∀ W, Calls Tryz.prog 90 #[.pointer (some ⟨w.heap.size + 1, 0, none⟩)] W fun e w' => e = .returned (.pointer (some ⟨w.heap.size + 1, 1, none⟩)) ∧ w' = W := fun W => fn_any .node (w.heap.size + 1) W
  have HBB : Hid (∀ o o', Below w.heap.size w ((w.alloc o).alloc o')) := fun o o' => ((Below.refl _ _).alloc (Nat.le_refl _) _).alloc (by simp) _
  have hn1 := neqS1
  have hn2 := neqS0
  have hn3 := neqI1
  have hn4 := neqI0
  show Calls _ _ #[.agg #[.func (.func 90) #[] #[], .nilFunc, .nilFunc], _] _ fun e w' => e = .returned (str (Lib.itoa a.node)) ∧ _
  have HQ := fun W h => itoa_any a.node ha.node.1 ha.node.2 W h
  have HV : Hid (∀ o o', Vars ((w.alloc o).alloc o')) := fun o o' => hv.below (HBB.out o o')
  unfold Ac.cells str at *
  go_enter Tryz.func79, Tryz.ntmps79
  go_wp2_with (first
    | (go_at_call 90; refine (HF _).mono ?_; rintro e w1 ⟨rfl, hw⟩; subst w1)
    | (go_at_call 58; refine (HQ _ (HV.out _ _)).mono ?_; rintro e w2 ⟨rfl, hB2⟩))
  go_ret
  exact ⟨rfl, (HBB.out _ _).trans (hB2.mono (by simp; omega))⟩
set_option maxRecDepth 100000 in
theorem show_client (a : Ac) (ha : AcOk a) (w : World) (hv : Vars w) : Calls Tryz.prog 79 #[.agg (Pc.fns .client).toArray, .agg a.cells] w fun e w' => e = .returned (str (Pc.show .client a)) ∧ Below w.heap.size w w' := by
  have HF : ∀ W, Calls Tryz.prog 91 #[.pointer (some ⟨w.heap.size + 1, 0, none⟩)] W fun e w' => e = .returned (.pointer (some ⟨w.heap.size + 1, 2, none⟩)) ∧ w' = W := fun W => fn_any .client (w.heap.size + 1) W
  have HBB : Hid (∀ o o', Below w.heap.size w ((w.alloc o).alloc o')) := fun o o' => ((Below.refl _ _).alloc (Nat.le_refl _) _).alloc (by simp) _
  have hn1 := neqS1
  have hn2 := neqS0
  have hn3 := neqI1
  have hn4 := neqI0
  show Calls _ _ #[.agg #[.func (.func 91) #[] #[], .nilFunc, .nilFunc], _] _ fun e w' => e = .returned (str (Lib.itoa a.client)) ∧ _
  have HQ := fun W h => itoa_any a.client ha.client.1 ha.client.2 W h
  have HV : Hid (∀ o o', Vars ((w.alloc o).alloc o')) := fun o o' => hv.below (HBB.out o o')
  unfold Ac.cells str at *
  go_enter Tryz.func79, Tryz.ntmps79
  go_wp2_with (first
    | (go_at_call 91; refine (HF _).mono ?_; rintro e w1 ⟨rfl, hw⟩; subst w1)
    | (go_at_call 58; refine (HQ _ (HV.out _ _)).mono ?_; rintro e w2 ⟨rfl, hB2⟩))
  go_ret
  exact ⟨rfl, (HBB.out _ _).trans (hB2.mono (by simp; omega))⟩
set_option maxRecDepth 100000 in
theorem show_n (a : Ac) (ha : AcOk a) (w : World) (hv : Vars w) : Calls Tryz.prog 79 #[.agg (Pc.fns .n).toArray, .agg a.cells] w fun e w' => e = .returned (str (Pc.show .n a)) ∧ Below w.heap.size w w' := by
  have HF : ∀ W, Calls Tryz.prog 92 #[.pointer (some ⟨w.heap.size + 1, 0, none⟩)] W fun e w' => e = .returned (.pointer (some ⟨w.heap.size + 1, 3, none⟩)) ∧ w' = W := fun W => fn_any .n (w.heap.size + 1) W
  have HBB : Hid (∀ o o', Below w.heap.size w ((w.alloc o).alloc o')) := fun o o' => ((Below.refl _ _).alloc (Nat.le_refl _) _).alloc (by simp) _
  have hn1 := neqS1
  have hn2 := neqS0
  have hn3 := neqI1
  have hn4 := neqI0
  show Calls _ _ #[.agg #[.func (.func 92) #[] #[], .nilFunc, .nilFunc], _] _ fun e w' => e = .returned (str (Lib.itoa a.n)) ∧ _
  have HQ := fun W h => itoa_any a.n ha.n.1 ha.n.2 W h
  have HV : Hid (∀ o o', Vars ((w.alloc o).alloc o')) := fun o o' => hv.below (HBB.out o o')
  unfold Ac.cells str at *
  go_enter Tryz.func79, Tryz.ntmps79
  go_wp2_with (first
    | (go_at_call 92; refine (HF _).mono ?_; rintro e w1 ⟨rfl, hw⟩; subst w1)
    | (go_at_call 58; refine (HQ _ (HV.out _ _)).mono ?_; rintro e w2 ⟨rfl, hB2⟩))
  go_ret
  exact ⟨rfl, (HBB.out _ _).trans (hB2.mono (by simp; omega))⟩
set_option maxRecDepth 100000 in
theorem show_m (a : Ac) (ha : AcOk a) (w : World) (hv : Vars w) : Calls Tryz.prog 79 #[.agg (Pc.fns .m).toArray, .agg a.cells] w fun e w' => e = .returned (str (Pc.show .m a)) ∧ Below w.heap.size w w' := by
  have HF : ∀ W, Calls Tryz.prog 93 #[.pointer (some ⟨w.heap.size + 1, 0, none⟩)] W fun e w' => e = .returned (.pointer (some ⟨w.heap.size + 1, 4, none⟩)) ∧ w' = W := fun W => fn_any .m (w.heap.size + 1) W
  have HBB : Hid (∀ o o', Below w.heap.size w ((w.alloc o).alloc o')) := fun o o' => ((Below.refl _ _).alloc (Nat.le_refl _) _).alloc (by simp) _
  have hn1 := neqS1
  have hn2 := neqS0
  have hn3 := neqI1
  have hn4 := neqI0
  show Calls _ _ #[.agg #[.func (.func 93) #[] #[], .nilFunc, .nilFunc], _] _ fun e w' => e = .returned (str (Lib.itoa a.m)) ∧ _
  have HQ := fun W h => itoa_any a.m ha.m.1 ha.m.2 W h
  have HV : Hid (∀ o o', Vars ((w.alloc o).alloc o')) := fun o o' => hv.below (HBB.out o o')
  unfold Ac.cells str at *
  go_enter Tryz.func79, Tryz.ntmps79
  go_wp2_with (first
    | (go_at_call 93; refine (HF _).mono ?_; rintro e w1 ⟨rfl, hw⟩; subst w1)
    | (go_at_call 58; refine (HQ _ (HV.out _ _)).mono ?_; rintro e w2 ⟨rfl, hB2⟩))
  go_ret
  exact ⟨rfl, (HBB.out _ _).trans (hB2.mono (by simp; omega))⟩
set_option maxRecDepth 100000 in
theorem show_pick (a : Ac) (_ha : AcOk a) (w : World) (_hv : Vars w) : Calls Tryz.prog 79 #[.agg (Pc.fns .pick).toArray, .agg a.cells] w fun e w' => e = .returned (str (Pc.show .pick a)) ∧ Below w.heap.size w w' := by
  have HF : ∀ W, Calls Tryz.prog 94 #[.pointer (some ⟨w.heap.size + 1, 0, none⟩)] W fun e w' => e = .returned (.pointer (some ⟨w.heap.size + 1, 3, none⟩)) ∧ w' = W := fun W => fn_any .pick (w.heap.size + 1) W
  have HBB : Hid (∀ o o', Below w.heap.size w ((w.alloc o).alloc o')) := fun o o' => ((Below.refl _ _).alloc (Nat.le_refl _) _).alloc (by simp) _
  have hn1 := neqS1
  have hn2 := neqS0
  have hn3 := neqI1
  have hn4 := neqI0
  show Calls _ _ #[.agg #[.nilFunc, .func (.func 94) #[] #[], .nilFunc], _] _ fun e w' => e = .returned (str (wordOf 1 picksL a.n)) ∧ _
  have HP := picks_at
  have HW := fun (W : World) g h1 h2 => names_word W 1 (by decide) g 9 picksL (by decide) h1 h2 a.n
  have hpl : picksL.length = 9 := rfl
  rw [hpl] at HW
  clear hpl
  unfold Ac.cells str at *
  go_enter Tryz.func79, Tryz.ntmps79
  go_wp2
  generalize hWP : World.alloc _ _ = WP
  have hBP : Below w.heap.size w WP := by rw [← hWP]; exact HBB.out _ _
  have hWPs : WP.heap.size = w.heap.size + 2 := by rw [← hWP]; simp
  have hx1 : WP.cell? ⟨w.heap.size, 1, none⟩ = some (.func (.func 94) #[] #[]) := by
    rw [← hWP]
    exact box_cell ((Below.refl _ _).alloc (Nat.le_refl _) _) 1
  have hx3 : WP.cell? ⟨w.heap.size + 1, 3, none⟩ = some (.int .i64 a.n) := by
    rw [← hWP]
    have := fun o cs => box_cell (w := w.alloc o) (cs := cs) (t := 34) (Below.refl _ _) 3
    simp only [World.size_alloc] at this
    exact this _ _
  have HKP : Hid (∀ w', Below WP.heap.size WP w' → w'.cell? ⟨w.heap.size, 1, none⟩ = some (.func (.func 94) #[] #[]) ∧ w'.cell? ⟨w.heap.size + 1, 3, none⟩ = some (.int .i64 a.n)) := fun w' h => ⟨(h.cell (p := ⟨w.heap.size, 1, none⟩) (by show w.heap.size < _; omega)).trans hx1, (h.cell (p := ⟨w.heap.size + 1, 3, none⟩) (by show w.heap.size + 1 < _; omega)).trans hx3⟩
  have HP2 : Hid (∀ n, Calls Tryz.prog 72 #[] (WP.drewN n) fun e w' => (∃ g, e = .returned (.agg #[.int .i64 1, .slice (some ⟨g, 0, none⟩) 9 9]) ∧ Hid (g < w'.heap.size) ∧ Hid (StrAt w' g picksL) ∧ Hid (Below WP.heap.size WP w')) ∧ w'.cell? ⟨w.heap.size, 1, none⟩ = some (.func (.func 94) #[] #[]) ∧ w'.cell? ⟨w.heap.size + 1, 3, none⟩ = some (.int .i64 a.n)) := fun n => (HP (WP.drewN n)).mono fun e w' ⟨g, h1, h2, h3, h4⟩ => ⟨⟨g, h1, h2, h3, (Out.drew (X := fun _ => False) WP n |>.below (Nat.le_refl _) (fun _ h => h.elim)).trans h4⟩, HKP.out w' ((Out.drew (X := fun _ => False) WP n |>.below (Nat.le_refl _) (fun _ h => h.elim)).trans h4)⟩
  have HW2 : Hid (∀ W g, g < W.heap.size → StrAt W g picksL → Below WP.heap.size WP W → Calls Tryz.prog 63 #[.agg #[.int .i64 1, .slice (some ⟨g, 0, none⟩) 9 9], .int .i64 a.n] W fun e w' => e = .returned (.string ⟨(wordOf 1 picksL a.n).toArray⟩) ∧ Hid (Below WP.heap.size WP w') ∧ w'.cell? ⟨w.heap.size, 1, none⟩ = some (.func (.func 94) #[] #[]) ∧ w'.cell? ⟨w.heap.size + 1, 3, none⟩ = some (.int .i64 a.n)) := fun W g h1 h2 h3 => (HW W g h1 h2).mono fun e w' ⟨h4, h5⟩ => ⟨h4, h3.trans (h5.mono h3.size), HKP.out w' (h3.trans (h5.mono h3.size))⟩
  have HBP : Hid (Below w.heap.size w WP) := hBP
  clear HP HW hWP hBP HKP HBB
  go_region_held3 (fun V => V.cell? ⟨w.heap.size, 1, none⟩ = some (.func (.func 94) #[] #[]) ∧ V.cell? ⟨w.heap.size + 1, 3, none⟩ = some (.int .i64 a.n)) (go_keep)
    (first
      | (go_at_call 72; refine (HP2.out _).mono ?_; rintro e w1 ⟨⟨g, rfl, HG1, HS1, HB1⟩, s0, s1⟩)
      | (go_at_call 94; refine (HF _).mono ?_; rintro e w2 ⟨rfl, hw⟩; subst w2)
      | (go_at_call 63; refine (HW2.out _ g HG1.out HS1.out HB1.out).mono ?_; rintro e w3 ⟨rfl, HB3, t0, t1⟩)
      | fail)
  go_wp2
  go_ret
  exact ⟨rfl, HBP.out.trans (HB3.out.mono (by omega))⟩
theorem show_any (p : Pc) (a : Ac) (ha : AcOk a) (w : World) (hv : Vars w) : Calls Tryz.prog 79 #[.agg p.fns.toArray, .agg a.cells] w fun e w' => e = .returned (str (p.show a)) ∧ Below w.heap.size w w' := by
  cases p
  · exact show_node a ha w hv
  · exact show_client a ha w hv
  · exact show_n a ha w hv
  · exact show_m a ha w hv
  · exact show_pick a ha w hv
  · exact show_key a ha w hv
  · exact show_val a ha w hv
  · exact show_old a ha w hv
end Go.Proofs.YtbckogojnjmjcaaGreatDoor
