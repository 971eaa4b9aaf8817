/-
  Tex.
-/
import Derived.Test.YtfnnbfgfmbiababJ45
import Derived.Test.YtfnnbfgfmbiababJ12
import Derived.Test.YtfnnbfgfmbiababJ08
import Derived.Test.YtfnnbfgfmbiababJ10
/-
  Same: whether two things have one text.
-/
namespace Go.Proofs.Ytfnnbfgfmbiabab
open Go.RowKit Go.Shelf

set_option maxRecDepth 100000 in
set_option maxHeartbeats 8000000 in
theorem equal_any (N : Nat) (v1 v2 : Value) (l1 l2 : List UInt8) (w : World) (h1 : Sl N w v1 l1) (h2 : Sl N w v2 l2) : Calls Try.prog 52 #[v1, v2] w fun r w' => ∃ t : Bool, r = .returned (.bool t) ∧ (t = true ↔ l1 = l2) ∧ w' = w := by
  have e1 := conv_sl h1
  have e2 := conv_sl h2
  obtain ⟨a1, c1, rfl, -⟩ := id h1
  obtain ⟨a2, c2, rfl, -⟩ := id h2
  clear h1 h2
  go_enter Try.func52, Try.ntmps52
  go_wp2
  go_ret
  refine ⟨_, rfl, ?_, rfl⟩
  simp

set_option maxRecDepth 100000 in
set_option maxHeartbeats 8000000 in
theorem textOfState_any (t v c : Int) (w : World) : Calls Try.prog 51 #[.iface 56 (.agg #[]), .agg #[.int .i64 t, .int .i64 v, .int .i64 c]] w fun r w' => ∃ u, r = .returned (.tuple #[u, .bool (decide (ckState t v c = 0))]) ∧ Ow w.heap.size w' u (if ckState t v c = 0 then txState t v c else []) ∧ Below w.heap.size w w' := by
  have ck0 := fun (w' : World) (_ : Below w.heap.size w w') => ckState_any t v c w'
  have pt0 := fun (w' : World) (_ : Below w.heap.size w w') => putState_any t v c w'
  obtain ⟨E, hE⟩ : ∃ E, ckState t v c = E := ⟨_, rfl⟩
  obtain ⟨T, hT⟩ : ∃ T, (if E = 0 then txState t v c else []) = T := ⟨_, rfl⟩
  rw [hE, hT]
  rw [hE] at ck0 pt0
  rw [hT] at pt0
  have HT : Hid (E ≠ 0 → T = []) := fun h => by rw [← hT, if_neg h]
  clear hE hT
  obtain ⟨W0, hW0⟩ : ∃ W0, w.alloc (.cells #[.int .i64 t, .int .i64 v, .int .i64 c] 43) = W0 := ⟨_, rfl⟩
  have HW0 : Hid (w.alloc (.cells #[.int .i64 t, .int .i64 v, .int .i64 c] 43) = W0) := hW0
  have HB0 : Hid (Below w.heap.size w W0) := by show Below w.heap.size w W0; rw [← hW0]; exact (Below.refl _ w).alloc (Nat.le_refl _) _
  have HX : Hid (∀ w', Below W0.heap.size W0 w' → w'.heap[w.heap.size]? = some (.cells #[.int .i64 t, .int .i64 v, .int .i64 c] 43 (0, 0))) := fun w' hB => by
    refine (hB.block _ (by rw [← hW0]; simp)).trans ?_
    rw [← hW0]; exact World.alloc_heap_new w _
  clear hW0
  have CK : Hid (∀ w', Below w.heap.size w w' → Calls Try.prog 31 #[.agg #[], .agg #[.int .i64 t, .int .i64 v, .int .i64 c]] w' fun e w'' => e = .returned (.int .i64 (E : Int)) ∧ Below w'.heap.size w' w'') := ck0
  have PT : Hid (∀ w', Below w.heap.size w w' → Calls Try.prog 30 #[.agg #[], .agg #[.int .i64 t, .int .i64 v, .int .i64 c]] w' fun r w'' => ∃ u, r = .returned (.tuple #[u, .int .i64 (E : Int)]) ∧ Ow w'.heap.size w'' u T ∧ Below w'.heap.size w' w'') := pt0
  clear ck0 pt0
  by_cases hE0 : E = 0
  · subst hE0
    go_enter Try.func51, Try.ntmps51
    go_wp2_with fail
    rw [HW0.out]
    refine (CK.out W0 HB0.out).mono ?_
    rintro e w1 ⟨rfl, hB1⟩
    obtain ⟨⟨q0, q1, q2⟩, -⟩ := cells3 (HX.out w1 hB1)
    have HB1 : Hid (Below w.heap.size w w1) := HB0.out.trans (hB1.mono HB0.out.size)
    clear hB1
    go_wp2_with fail
    refine (PT.out w1 HB1.out).mono ?_
    rintro e w2 ⟨u, rfl, hO, hB2⟩
    go_wp2
    go_ret2
    exact ⟨u, rfl, hO.base HB1.out.size, HB1.out.trans (hB2.mono HB1.out.size)⟩
  · have hd : decide (E = 0) = false := by simp [hE0]
    have hke : ((E : Int) != 0) = true := by simp; omega
    rw [hd, HT.out hE0]
    go_enter Try.func51, Try.ntmps51
    go_wp2_with fail
    rw [HW0.out]
    refine (CK.out W0 HB0.out).mono ?_
    rintro e w1 ⟨rfl, hB1⟩
    go_wp2
    go_ret2
    exact ⟨_, rfl, Ow.nil _ _, HB0.out.trans (hB1.mono HB0.out.size)⟩

set_option maxRecDepth 100000 in
set_option maxHeartbeats 8000000 in
theorem sameStateT_any (t v c : Int) (t' v' c' : Int) (w : World) : Calls Try.prog 20 #[.iface 56 (.agg #[]), .agg #[.int .i64 t, .int .i64 v, .int .i64 c], .agg #[.int .i64 t', .int .i64 v', .int .i64 c']] w fun r w' => ∃ tb : Bool, r = .returned (.bool tb) ∧ (tb = true ↔ (ckState t v c = 0 ∧ ckState t' v' c' = 0 ∧ txState t v c = txState t' v' c')) ∧ Below w.heap.size w w' := by
  have t1 := fun (w' : World) (_ : Below w.heap.size w w') => textOfState_any t v c w'
  have t2 := fun (w' : World) (_ : Below w.heap.size w w') => textOfState_any t' v' c' w'
  obtain ⟨E, hE⟩ : ∃ E, ckState t v c = E := ⟨_, rfl⟩
  obtain ⟨E2, hE2⟩ : ∃ E2, ckState t' v' c' = E2 := ⟨_, rfl⟩
  obtain ⟨T, hT⟩ : ∃ T, txState t v c = T := ⟨_, rfl⟩
  obtain ⟨T2, hT2⟩ : ∃ T2, txState t' v' c' = T2 := ⟨_, rfl⟩
  rw [hE, hE2, hT, hT2]
  rw [hE, hT] at t1
  rw [hE2, hT2] at t2
  clear hE hE2 hT hT2
  obtain ⟨W0, hW0⟩ : ∃ W0, (w.alloc (.cells #[.int .i64 t, .int .i64 v, .int .i64 c] 43)).alloc (.cells #[.int .i64 t', .int .i64 v', .int .i64 c'] 43) = W0 := ⟨_, rfl⟩
  have HW0 : Hid ((w.alloc (.cells #[.int .i64 t, .int .i64 v, .int .i64 c] 43)).alloc (.cells #[.int .i64 t', .int .i64 v', .int .i64 c'] 43) = W0) := hW0
  have HB0 : Hid (Below w.heap.size w W0) := by show Below w.heap.size w W0; rw [← hW0]; exact (((Below.refl _ w).alloc (by simp) _).alloc (by simp) _)
  have HXb : Hid (∀ w', Below W0.heap.size W0 w' → w'.heap[w.heap.size + 1]? = some (.cells #[.int .i64 t', .int .i64 v', .int .i64 c'] 43 (0, 0))) := fun w' hB => by
    have hlt : w.heap.size + 1 < W0.heap.size := by rw [← hW0]; simp
    refine (hB.block _ hlt).trans ?_
    rw [← hW0]; simpa using World.alloc_heap_new (w.alloc (.cells #[.int .i64 t, .int .i64 v, .int .i64 c] 43)) _
  clear hW0
  have T1 : Hid (∀ w', Below w.heap.size w w' → Calls Try.prog 51 #[.iface 56 (.agg #[]), .agg #[.int .i64 t, .int .i64 v, .int .i64 c]] w' fun r w'' => ∃ u, r = .returned (.tuple #[u, .bool (decide (E = 0))]) ∧ Ow w'.heap.size w'' u (if E = 0 then T else []) ∧ Below w'.heap.size w' w'') := t1
  have T3 : Hid (∀ w', Below w.heap.size w w' → Calls Try.prog 51 #[.iface 56 (.agg #[]), .agg #[.int .i64 t', .int .i64 v', .int .i64 c']] w' fun r w'' => ∃ u, r = .returned (.tuple #[u, .bool (decide (E2 = 0))]) ∧ Ow w'.heap.size w'' u (if E2 = 0 then T2 else []) ∧ Below w'.heap.size w' w'') := t2
  clear t1 t2
  obtain ⟨S, hS⟩ : ∃ S, (if E = 0 then T else []) = S := ⟨_, rfl⟩
  obtain ⟨S2, hS2⟩ : ∃ S2, (if E2 = 0 then T2 else []) = S2 := ⟨_, rfl⟩
  obtain ⟨d1, hd1⟩ : ∃ d1, decide (E = 0) = d1 := ⟨_, rfl⟩
  obtain ⟨d2, hd2⟩ : ∃ d2, decide (E2 = 0) = d2 := ⟨_, rfl⟩
  rw [hS, hd1] at T1
  rw [hS2, hd2] at T3
  have HQ : Hid (d1 = true → d2 = true → ((S = S2) ↔ (E = 0 ∧ E2 = 0 ∧ T = T2))) := fun h1 h2 => by
    rw [h1, decide_eq_true_eq] at hd1
    rw [h2, decide_eq_true_eq] at hd2
    rw [if_pos hd1] at hS
    rw [if_pos hd2] at hS2
    subst hS hS2
    exact ⟨fun h => ⟨hd1, hd2, h⟩, fun h => h.2.2⟩
  have HN1 : Hid (d1 = false → ¬ (E = 0 ∧ E2 = 0 ∧ T = T2)) := fun h1 h => by
    rw [h1, decide_eq_false_iff_not] at hd1; exact hd1 h.1
  have HN2 : Hid (d2 = false → ¬ (E = 0 ∧ E2 = 0 ∧ T = T2)) := fun h1 h => by
    rw [h1, decide_eq_false_iff_not] at hd2; exact hd2 h.2.1
  clear hS hS2 hd1 hd2
  go_enter Try.func20, Try.ntmps20
  go_wp2_with fail
  rw [HW0.out]
  refine (T1.out W0 HB0.out).mono ?_
  rintro e w1 ⟨u1, rfl, hO1, hB1⟩
  obtain ⟨a1, c1, rfl, -, -⟩ := hO1.shape
  obtain ⟨⟨q0, q1, q2⟩, -⟩ := cells3 (HXb.out w1 hB1)
  have HB1 : Hid (Below w.heap.size w w1) := HB0.out.trans (hB1.mono HB0.out.size)
  have hl1 : w.heap.size + 1 < w1.heap.size := (Array.getElem?_eq_some_iff.1 (HXb.out w1 hB1)).1
  clear hB1
  go_wp2_with fail
  refine (T3.out w1 HB1.out).mono ?_
  rintro e w2 ⟨u2, rfl, hO2, hB2⟩
  obtain ⟨a2, c2, rfl, -, -⟩ := hO2.shape
  have hO1' := hO1.below hB2 (Nat.le_refl _)
  have HB2 : Hid (Below w.heap.size w w2) := HB1.out.trans (hB2.mono HB1.out.size)
  cases d1 with
  | false =>
    have HN : Hid (¬ (E = 0 ∧ E2 = 0 ∧ T = T2)) := HN1.out rfl
    go_wp2
    go_ret
    exact ⟨false, rfl, by simp [HN.out], HB2.out⟩
  | true =>
    cases d2 with
    | false =>
      have HN : Hid (¬ (E = 0 ∧ E2 = 0 ∧ T = T2)) := HN2.out rfl
      go_wp2
      go_ret
      exact ⟨false, rfl, by simp [HN.out], HB2.out⟩
    | true =>
      have HY : Hid ((S = S2) ↔ (E = 0 ∧ E2 = 0 ∧ T = T2)) := HQ.out rfl rfl
      have heq := equal_any w2.heap.size _ _ S S2 w2 (hO1'.sl (Nat.le_refl _)) (hO2.sl (Nat.le_refl _))
      clear hO1 hO1' hO2 hB2
      go_wp2_with fail
      refine heq.mono ?_
      rintro e w3 ⟨t, rfl, ht, rfl⟩
      go_wp2
      go_ret
      exact ⟨t, rfl, ht.trans HY.out, HB2.out⟩

set_option maxRecDepth 100000 in
set_option maxHeartbeats 8000000 in
theorem textOfCommand_any (o c s : Int) (k v d : List UInt8) (w : World) : Calls Try.prog 53 #[.iface 58 (.agg #[]), .agg #[.int .i64 o, .int .i64 c, .int .i64 s, .string ⟨k.toArray⟩, .string ⟨v.toArray⟩, .string ⟨d.toArray⟩]] w fun r w' => ∃ u, r = .returned (.tuple #[u, .bool (decide (ckCommand o c s k v d = 0))]) ∧ Ow w.heap.size w' u (if ckCommand o c s k v d = 0 then txCommand o c s k v d else []) ∧ Below w.heap.size w w' := by
  have ck0 := fun (w' : World) (_ : Below w.heap.size w w') => ckCommand_any o c s k v d w'
  have pt0 := fun (w' : World) (_ : Below w.heap.size w w') => putCommand_any o c s k v d w'
  obtain ⟨E, hE⟩ : ∃ E, ckCommand o c s k v d = E := ⟨_, rfl⟩
  obtain ⟨T, hT⟩ : ∃ T, (if E = 0 then txCommand o c s k v d else []) = T := ⟨_, rfl⟩
  rw [hE, hT]
  rw [hE] at ck0 pt0
  rw [hT] at pt0
  have HT : Hid (E ≠ 0 → T = []) := fun h => by rw [← hT, if_neg h]
  clear hE hT
  obtain ⟨W0, hW0⟩ : ∃ W0, w.alloc (.cells #[.int .i64 o, .int .i64 c, .int .i64 s, .string ⟨k.toArray⟩, .string ⟨v.toArray⟩, .string ⟨d.toArray⟩] 45) = W0 := ⟨_, rfl⟩
  have HW0 : Hid (w.alloc (.cells #[.int .i64 o, .int .i64 c, .int .i64 s, .string ⟨k.toArray⟩, .string ⟨v.toArray⟩, .string ⟨d.toArray⟩] 45) = W0) := hW0
  have HB0 : Hid (Below w.heap.size w W0) := by show Below w.heap.size w W0; rw [← hW0]; exact (Below.refl _ w).alloc (Nat.le_refl _) _
  have HX : Hid (∀ w', Below W0.heap.size W0 w' → w'.heap[w.heap.size]? = some (.cells #[.int .i64 o, .int .i64 c, .int .i64 s, .string ⟨k.toArray⟩, .string ⟨v.toArray⟩, .string ⟨d.toArray⟩] 45 (0, 0))) := fun w' hB => by
    refine (hB.block _ (by rw [← hW0]; simp)).trans ?_
    rw [← hW0]; exact World.alloc_heap_new w _
  clear hW0
  have CK : Hid (∀ w', Below w.heap.size w w' → Calls Try.prog 131 #[.agg #[], .agg #[.int .i64 o, .int .i64 c, .int .i64 s, .string ⟨k.toArray⟩, .string ⟨v.toArray⟩, .string ⟨d.toArray⟩]] w' fun e w'' => e = .returned (.int .i64 (E : Int)) ∧ Below w'.heap.size w' w'') := ck0
  have PT : Hid (∀ w', Below w.heap.size w w' → Calls Try.prog 133 #[.agg #[], .agg #[.int .i64 o, .int .i64 c, .int .i64 s, .string ⟨k.toArray⟩, .string ⟨v.toArray⟩, .string ⟨d.toArray⟩]] w' fun r w'' => ∃ u, r = .returned (.tuple #[u, .int .i64 (E : Int)]) ∧ Ow w'.heap.size w'' u T ∧ Below w'.heap.size w' w'') := pt0
  clear ck0 pt0
  by_cases hE0 : E = 0
  · subst hE0
    go_enter Try.func53, Try.ntmps53
    go_wp2_with fail
    rw [HW0.out]
    refine (CK.out W0 HB0.out).mono ?_
    rintro e w1 ⟨rfl, hB1⟩
    obtain ⟨⟨q0, q1, q2, q3, q4, q5⟩, -⟩ := cells6 (HX.out w1 hB1)
    have HB1 : Hid (Below w.heap.size w w1) := HB0.out.trans (hB1.mono HB0.out.size)
    clear hB1
    go_wp2_with fail
    refine (PT.out w1 HB1.out).mono ?_
    rintro e w2 ⟨u, rfl, hO, hB2⟩
    go_wp2
    go_ret2
    exact ⟨u, rfl, hO.base HB1.out.size, HB1.out.trans (hB2.mono HB1.out.size)⟩
  · have hd : decide (E = 0) = false := by simp [hE0]
    have hke : ((E : Int) != 0) = true := by simp; omega
    rw [hd, HT.out hE0]
    go_enter Try.func53, Try.ntmps53
    go_wp2_with fail
    rw [HW0.out]
    refine (CK.out W0 HB0.out).mono ?_
    rintro e w1 ⟨rfl, hB1⟩
    go_wp2
    go_ret2
    exact ⟨_, rfl, Ow.nil _ _, HB0.out.trans (hB1.mono HB0.out.size)⟩

set_option maxRecDepth 100000 in
set_option maxHeartbeats 8000000 in
theorem sameCommandT_any (o c s : Int) (k v d : List UInt8) (o' c' s' : Int) (k' v' d' : List UInt8) (w : World) : Calls Try.prog 21 #[.iface 58 (.agg #[]), .agg #[.int .i64 o, .int .i64 c, .int .i64 s, .string ⟨k.toArray⟩, .string ⟨v.toArray⟩, .string ⟨d.toArray⟩], .agg #[.int .i64 o', .int .i64 c', .int .i64 s', .string ⟨k'.toArray⟩, .string ⟨v'.toArray⟩, .string ⟨d'.toArray⟩]] w fun r w' => ∃ tb : Bool, r = .returned (.bool tb) ∧ (tb = true ↔ (ckCommand o c s k v d = 0 ∧ ckCommand o' c' s' k' v' d' = 0 ∧ txCommand o c s k v d = txCommand o' c' s' k' v' d')) ∧ Below w.heap.size w w' := by
  have t1 := fun (w' : World) (_ : Below w.heap.size w w') => textOfCommand_any o c s k v d w'
  have t2 := fun (w' : World) (_ : Below w.heap.size w w') => textOfCommand_any o' c' s' k' v' d' w'
  obtain ⟨E, hE⟩ : ∃ E, ckCommand o c s k v d = E := ⟨_, rfl⟩
  obtain ⟨E2, hE2⟩ : ∃ E2, ckCommand o' c' s' k' v' d' = E2 := ⟨_, rfl⟩
  obtain ⟨T, hT⟩ : ∃ T, txCommand o c s k v d = T := ⟨_, rfl⟩
  obtain ⟨T2, hT2⟩ : ∃ T2, txCommand o' c' s' k' v' d' = T2 := ⟨_, rfl⟩
  rw [hE, hE2, hT, hT2]
  rw [hE, hT] at t1
  rw [hE2, hT2] at t2
  clear hE hE2 hT hT2
  obtain ⟨W0, hW0⟩ : ∃ W0, (w.alloc (.cells #[.int .i64 o, .int .i64 c, .int .i64 s, .string ⟨k.toArray⟩, .string ⟨v.toArray⟩, .string ⟨d.toArray⟩] 45)).alloc (.cells #[.int .i64 o', .int .i64 c', .int .i64 s', .string ⟨k'.toArray⟩, .string ⟨v'.toArray⟩, .string ⟨d'.toArray⟩] 45) = W0 := ⟨_, rfl⟩
  have HW0 : Hid ((w.alloc (.cells #[.int .i64 o, .int .i64 c, .int .i64 s, .string ⟨k.toArray⟩, .string ⟨v.toArray⟩, .string ⟨d.toArray⟩] 45)).alloc (.cells #[.int .i64 o', .int .i64 c', .int .i64 s', .string ⟨k'.toArray⟩, .string ⟨v'.toArray⟩, .string ⟨d'.toArray⟩] 45) = W0) := hW0
  have HB0 : Hid (Below w.heap.size w W0) := by show Below w.heap.size w W0; rw [← hW0]; exact (((Below.refl _ w).alloc (by simp) _).alloc (by simp) _)
  have HXb : Hid (∀ w', Below W0.heap.size W0 w' → w'.heap[w.heap.size + 1]? = some (.cells #[.int .i64 o', .int .i64 c', .int .i64 s', .string ⟨k'.toArray⟩, .string ⟨v'.toArray⟩, .string ⟨d'.toArray⟩] 45 (0, 0))) := fun w' hB => by
    have hlt : w.heap.size + 1 < W0.heap.size := by rw [← hW0]; simp
    refine (hB.block _ hlt).trans ?_
    rw [← hW0]; simpa using World.alloc_heap_new (w.alloc (.cells #[.int .i64 o, .int .i64 c, .int .i64 s, .string ⟨k.toArray⟩, .string ⟨v.toArray⟩, .string ⟨d.toArray⟩] 45)) _
  clear hW0
  have T1 : Hid (∀ w', Below w.heap.size w w' → Calls Try.prog 53 #[.iface 58 (.agg #[]), .agg #[.int .i64 o, .int .i64 c, .int .i64 s, .string ⟨k.toArray⟩, .string ⟨v.toArray⟩, .string ⟨d.toArray⟩]] w' fun r w'' => ∃ u, r = .returned (.tuple #[u, .bool (decide (E = 0))]) ∧ Ow w'.heap.size w'' u (if E = 0 then T else []) ∧ Below w'.heap.size w' w'') := t1
  have T3 : Hid (∀ w', Below w.heap.size w w' → Calls Try.prog 53 #[.iface 58 (.agg #[]), .agg #[.int .i64 o', .int .i64 c', .int .i64 s', .string ⟨k'.toArray⟩, .string ⟨v'.toArray⟩, .string ⟨d'.toArray⟩]] w' fun r w'' => ∃ u, r = .returned (.tuple #[u, .bool (decide (E2 = 0))]) ∧ Ow w'.heap.size w'' u (if E2 = 0 then T2 else []) ∧ Below w'.heap.size w' w'') := t2
  clear t1 t2
  obtain ⟨S, hS⟩ : ∃ S, (if E = 0 then T else []) = S := ⟨_, rfl⟩
  obtain ⟨S2, hS2⟩ : ∃ S2, (if E2 = 0 then T2 else []) = S2 := ⟨_, rfl⟩
  obtain ⟨d1, hd1⟩ : ∃ d1, decide (E = 0) = d1 := ⟨_, rfl⟩
  obtain ⟨d2, hd2⟩ : ∃ d2, decide (E2 = 0) = d2 := ⟨_, rfl⟩
  rw [hS, hd1] at T1
  rw [hS2, hd2] at T3
  have HQ : Hid (d1 = true → d2 = true → ((S = S2) ↔ (E = 0 ∧ E2 = 0 ∧ T = T2))) := fun h1 h2 => by
    rw [h1, decide_eq_true_eq] at hd1
    rw [h2, decide_eq_true_eq] at hd2
    rw [if_pos hd1] at hS
    rw [if_pos hd2] at hS2
    subst hS hS2
    exact ⟨fun h => ⟨hd1, hd2, h⟩, fun h => h.2.2⟩
  have HN1 : Hid (d1 = false → ¬ (E = 0 ∧ E2 = 0 ∧ T = T2)) := fun h1 h => by
    rw [h1, decide_eq_false_iff_not] at hd1; exact hd1 h.1
  have HN2 : Hid (d2 = false → ¬ (E = 0 ∧ E2 = 0 ∧ T = T2)) := fun h1 h => by
    rw [h1, decide_eq_false_iff_not] at hd2; exact hd2 h.2.1
  clear hS hS2 hd1 hd2
  go_enter Try.func21, Try.ntmps21
  go_wp2_with fail
  rw [HW0.out]
  refine (T1.out W0 HB0.out).mono ?_
  rintro e w1 ⟨u1, rfl, hO1, hB1⟩
  obtain ⟨a1, c1, rfl, -, -⟩ := hO1.shape
  obtain ⟨⟨q0, q1, q2, q3, q4, q5⟩, -⟩ := cells6 (HXb.out w1 hB1)
  have HB1 : Hid (Below w.heap.size w w1) := HB0.out.trans (hB1.mono HB0.out.size)
  have hl1 : w.heap.size + 1 < w1.heap.size := (Array.getElem?_eq_some_iff.1 (HXb.out w1 hB1)).1
  clear hB1
  go_wp2_with fail
  refine (T3.out w1 HB1.out).mono ?_
  rintro e w2 ⟨u2, rfl, hO2, hB2⟩
  obtain ⟨a2, c2, rfl, -, -⟩ := hO2.shape
  have hO1' := hO1.below hB2 (Nat.le_refl _)
  have HB2 : Hid (Below w.heap.size w w2) := HB1.out.trans (hB2.mono HB1.out.size)
  cases d1 with
  | false =>
    have HN : Hid (¬ (E = 0 ∧ E2 = 0 ∧ T = T2)) := HN1.out rfl
    go_wp2
    go_ret
    exact ⟨false, rfl, by simp [HN.out], HB2.out⟩
  | true =>
    cases d2 with
    | false =>
      have HN : Hid (¬ (E = 0 ∧ E2 = 0 ∧ T = T2)) := HN2.out rfl
      go_wp2
      go_ret
      exact ⟨false, rfl, by simp [HN.out], HB2.out⟩
    | true =>
      have HY : Hid ((S = S2) ↔ (E = 0 ∧ E2 = 0 ∧ T = T2)) := HQ.out rfl rfl
      have heq := equal_any w2.heap.size _ _ S S2 w2 (hO1'.sl (Nat.le_refl _)) (hO2.sl (Nat.le_refl _))
      clear hO1 hO1' hO2 hB2
      go_wp2_with fail
      refine heq.mono ?_
      rintro e w3 ⟨t, rfl, ht, rfl⟩
      go_wp2
      go_ret
      exact ⟨t, rfl, ht.trans HY.out, HB2.out⟩

set_option maxRecDepth 100000 in
set_option maxHeartbeats 8000000 in
theorem textOfMsg_any (m : Msg) (w : World) (N : Nat) (hA : m.At N w) (hN : N ≤ w.heap.size) : Calls Try.prog 54 #[.iface 60 (.agg #[]), .agg #[.int .i64 m.kd, .int .i64 m.fr, .int .i64 m.to, .int .i64 m.tm, .int .i64 m.ix, .int .i64 m.lt, .int .i64 m.cm, .int .i64 m.hi, .int .i64 m.cx, .bool m.rj, .slice m.ea m.es.length m.ec, .int .i64 m.si, .int .i64 m.st, .slice m.sa m.sd.length m.sc]] w fun r w' => ∃ u, r = .returned (.tuple #[u, .bool (decide (m.ck = 0))]) ∧ Ow w.heap.size w' u (if m.ck = 0 then m.tx else []) ∧ Below w.heap.size w w' := by
  have ck0 := fun (w' : World) (hB : Below w.heap.size w w') => chkMsg_any m N w' (hA.below (hB.mono hN)) (by have := hB.size; omega)
  have pt0 := fun (w' : World) (hB : Below w.heap.size w w') => putMsg_any m N w' (hA.below (hB.mono hN)) (by have := hB.size; omega)
  obtain ⟨E, hE⟩ : ∃ E, m.ck = E := ⟨_, rfl⟩
  obtain ⟨T, hT⟩ : ∃ T, (if E = 0 then m.tx else []) = T := ⟨_, rfl⟩
  rw [hE, hT]
  rw [hE] at ck0 pt0
  rw [hT] at pt0
  have HT : Hid (E ≠ 0 → T = []) := fun h => by rw [← hT, if_neg h]
  clear hE hT
  obtain ⟨W0, hW0⟩ : ∃ W0, w.alloc (.cells #[.int .i64 m.kd, .int .i64 m.fr, .int .i64 m.to, .int .i64 m.tm, .int .i64 m.ix, .int .i64 m.lt, .int .i64 m.cm, .int .i64 m.hi, .int .i64 m.cx, .bool m.rj, .slice m.ea m.es.length m.ec, .int .i64 m.si, .int .i64 m.st, .slice m.sa m.sd.length m.sc] 49) = W0 := ⟨_, rfl⟩
  have HW0 : Hid (w.alloc (.cells #[.int .i64 m.kd, .int .i64 m.fr, .int .i64 m.to, .int .i64 m.tm, .int .i64 m.ix, .int .i64 m.lt, .int .i64 m.cm, .int .i64 m.hi, .int .i64 m.cx, .bool m.rj, .slice m.ea m.es.length m.ec, .int .i64 m.si, .int .i64 m.st, .slice m.sa m.sd.length m.sc] 49) = W0) := hW0
  have HB0 : Hid (Below w.heap.size w W0) := by show Below w.heap.size w W0; rw [← hW0]; exact (Below.refl _ w).alloc (Nat.le_refl _) _
  have HX : Hid (∀ w', Below W0.heap.size W0 w' → w'.heap[w.heap.size]? = some (.cells #[.int .i64 m.kd, .int .i64 m.fr, .int .i64 m.to, .int .i64 m.tm, .int .i64 m.ix, .int .i64 m.lt, .int .i64 m.cm, .int .i64 m.hi, .int .i64 m.cx, .bool m.rj, .slice m.ea m.es.length m.ec, .int .i64 m.si, .int .i64 m.st, .slice m.sa m.sd.length m.sc] 49 (0, 0))) := fun w' hB => by
    refine (hB.block _ (by rw [← hW0]; simp)).trans ?_
    rw [← hW0]; exact World.alloc_heap_new w _
  clear hW0
  have CK : Hid (∀ w', Below w.heap.size w w' → Calls Try.prog 24 #[.agg #[], .agg #[.int .i64 m.kd, .int .i64 m.fr, .int .i64 m.to, .int .i64 m.tm, .int .i64 m.ix, .int .i64 m.lt, .int .i64 m.cm, .int .i64 m.hi, .int .i64 m.cx, .bool m.rj, .slice m.ea m.es.length m.ec, .int .i64 m.si, .int .i64 m.st, .slice m.sa m.sd.length m.sc]] w' fun e w'' => e = .returned (.int .i64 (E : Int)) ∧ Below w'.heap.size w' w'') := ck0
  have PT : Hid (∀ w', Below w.heap.size w w' → Calls Try.prog 23 #[.agg #[], .agg #[.int .i64 m.kd, .int .i64 m.fr, .int .i64 m.to, .int .i64 m.tm, .int .i64 m.ix, .int .i64 m.lt, .int .i64 m.cm, .int .i64 m.hi, .int .i64 m.cx, .bool m.rj, .slice m.ea m.es.length m.ec, .int .i64 m.si, .int .i64 m.st, .slice m.sa m.sd.length m.sc]] w' fun r w'' => ∃ u, r = .returned (.tuple #[u, .int .i64 (E : Int)]) ∧ Ow w'.heap.size w'' u T ∧ Below w'.heap.size w' w'') := pt0
  clear ck0 pt0
  by_cases hE0 : E = 0
  · subst hE0
    go_enter Try.func54, Try.ntmps54
    go_wp2_with fail
    rw [HW0.out]
    refine (CK.out W0 HB0.out).mono ?_
    rintro e w1 ⟨rfl, hB1⟩
    obtain ⟨⟨q0, q1, q2, q3, q4, q5, q6, q7, q8, q9, q10, q11, q12, q13⟩, -⟩ := cells14 (HX.out w1 hB1)
    have HB1 : Hid (Below w.heap.size w w1) := HB0.out.trans (hB1.mono HB0.out.size)
    clear hB1
    go_wp2_with fail
    refine (PT.out w1 HB1.out).mono ?_
    rintro e w2 ⟨u, rfl, hO, hB2⟩
    go_wp2
    go_ret2
    exact ⟨u, rfl, hO.base HB1.out.size, HB1.out.trans (hB2.mono HB1.out.size)⟩
  · have hd : decide (E = 0) = false := by simp [hE0]
    have hke : ((E : Int) != 0) = true := by simp; omega
    rw [hd, HT.out hE0]
    go_enter Try.func54, Try.ntmps54
    go_wp2_with fail
    rw [HW0.out]
    refine (CK.out W0 HB0.out).mono ?_
    rintro e w1 ⟨rfl, hB1⟩
    go_wp2
    go_ret2
    exact ⟨_, rfl, Ow.nil _ _, HB0.out.trans (hB1.mono HB0.out.size)⟩

set_option maxRecDepth 100000 in
set_option maxHeartbeats 8000000 in
theorem sameMsgT_any (m : Msg) (m' : Msg) (w : World) (N : Nat) (hA : m.At N w) (hA' : m'.At N w) (hN : N ≤ w.heap.size) : Calls Try.prog 22 #[.iface 60 (.agg #[]), .agg #[.int .i64 m.kd, .int .i64 m.fr, .int .i64 m.to, .int .i64 m.tm, .int .i64 m.ix, .int .i64 m.lt, .int .i64 m.cm, .int .i64 m.hi, .int .i64 m.cx, .bool m.rj, .slice m.ea m.es.length m.ec, .int .i64 m.si, .int .i64 m.st, .slice m.sa m.sd.length m.sc], .agg #[.int .i64 m'.kd, .int .i64 m'.fr, .int .i64 m'.to, .int .i64 m'.tm, .int .i64 m'.ix, .int .i64 m'.lt, .int .i64 m'.cm, .int .i64 m'.hi, .int .i64 m'.cx, .bool m'.rj, .slice m'.ea m'.es.length m'.ec, .int .i64 m'.si, .int .i64 m'.st, .slice m'.sa m'.sd.length m'.sc]] w fun r w' => ∃ tb : Bool, r = .returned (.bool tb) ∧ (tb = true ↔ (m.ck = 0 ∧ m'.ck = 0 ∧ m.tx = m'.tx)) ∧ Below w.heap.size w w' := by
  have t1 := fun (w' : World) (hB : Below w.heap.size w w') => textOfMsg_any m w' N (hA.below (hB.mono hN)) (by have := hB.size; omega)
  have t2 := fun (w' : World) (hB : Below w.heap.size w w') => textOfMsg_any m' w' N (hA'.below (hB.mono hN)) (by have := hB.size; omega)
  obtain ⟨E, hE⟩ : ∃ E, m.ck = E := ⟨_, rfl⟩
  obtain ⟨E2, hE2⟩ : ∃ E2, m'.ck = E2 := ⟨_, rfl⟩
  obtain ⟨T, hT⟩ : ∃ T, m.tx = T := ⟨_, rfl⟩
  obtain ⟨T2, hT2⟩ : ∃ T2, m'.tx = T2 := ⟨_, rfl⟩
  rw [hE, hE2, hT, hT2]
  rw [hE, hT] at t1
  rw [hE2, hT2] at t2
  clear hE hE2 hT hT2
  obtain ⟨W0, hW0⟩ : ∃ W0, (w.alloc (.cells #[.int .i64 m.kd, .int .i64 m.fr, .int .i64 m.to, .int .i64 m.tm, .int .i64 m.ix, .int .i64 m.lt, .int .i64 m.cm, .int .i64 m.hi, .int .i64 m.cx, .bool m.rj, .slice m.ea m.es.length m.ec, .int .i64 m.si, .int .i64 m.st, .slice m.sa m.sd.length m.sc] 49)).alloc (.cells #[.int .i64 m'.kd, .int .i64 m'.fr, .int .i64 m'.to, .int .i64 m'.tm, .int .i64 m'.ix, .int .i64 m'.lt, .int .i64 m'.cm, .int .i64 m'.hi, .int .i64 m'.cx, .bool m'.rj, .slice m'.ea m'.es.length m'.ec, .int .i64 m'.si, .int .i64 m'.st, .slice m'.sa m'.sd.length m'.sc] 49) = W0 := ⟨_, rfl⟩
  have HW0 : Hid ((w.alloc (.cells #[.int .i64 m.kd, .int .i64 m.fr, .int .i64 m.to, .int .i64 m.tm, .int .i64 m.ix, .int .i64 m.lt, .int .i64 m.cm, .int .i64 m.hi, .int .i64 m.cx, .bool m.rj, .slice m.ea m.es.length m.ec, .int .i64 m.si, .int .i64 m.st, .slice m.sa m.sd.length m.sc] 49)).alloc (.cells #[.int .i64 m'.kd, .int .i64 m'.fr, .int .i64 m'.to, .int .i64 m'.tm, .int .i64 m'.ix, .int .i64 m'.lt, .int .i64 m'.cm, .int .i64 m'.hi, .int .i64 m'.cx, .bool m'.rj, .slice m'.ea m'.es.length m'.ec, .int .i64 m'.si, .int .i64 m'.st, .slice m'.sa m'.sd.length m'.sc] 49) = W0) := hW0
  have HB0 : Hid (Below w.heap.size w W0) := by show Below w.heap.size w W0; rw [← hW0]; exact (((Below.refl _ w).alloc (by simp) _).alloc (by simp) _)
  have HXb : Hid (∀ w', Below W0.heap.size W0 w' → w'.heap[w.heap.size + 1]? = some (.cells #[.int .i64 m'.kd, .int .i64 m'.fr, .int .i64 m'.to, .int .i64 m'.tm, .int .i64 m'.ix, .int .i64 m'.lt, .int .i64 m'.cm, .int .i64 m'.hi, .int .i64 m'.cx, .bool m'.rj, .slice m'.ea m'.es.length m'.ec, .int .i64 m'.si, .int .i64 m'.st, .slice m'.sa m'.sd.length m'.sc] 49 (0, 0))) := fun w' hB => by
    have hlt : w.heap.size + 1 < W0.heap.size := by rw [← hW0]; simp
    refine (hB.block _ hlt).trans ?_
    rw [← hW0]; simpa using World.alloc_heap_new (w.alloc (.cells #[.int .i64 m.kd, .int .i64 m.fr, .int .i64 m.to, .int .i64 m.tm, .int .i64 m.ix, .int .i64 m.lt, .int .i64 m.cm, .int .i64 m.hi, .int .i64 m.cx, .bool m.rj, .slice m.ea m.es.length m.ec, .int .i64 m.si, .int .i64 m.st, .slice m.sa m.sd.length m.sc] 49)) _
  clear hW0
  have T1 : Hid (∀ w', Below w.heap.size w w' → Calls Try.prog 54 #[.iface 60 (.agg #[]), .agg #[.int .i64 m.kd, .int .i64 m.fr, .int .i64 m.to, .int .i64 m.tm, .int .i64 m.ix, .int .i64 m.lt, .int .i64 m.cm, .int .i64 m.hi, .int .i64 m.cx, .bool m.rj, .slice m.ea m.es.length m.ec, .int .i64 m.si, .int .i64 m.st, .slice m.sa m.sd.length m.sc]] w' fun r w'' => ∃ u, r = .returned (.tuple #[u, .bool (decide (E = 0))]) ∧ Ow w'.heap.size w'' u (if E = 0 then T else []) ∧ Below w'.heap.size w' w'') := t1
  have T3 : Hid (∀ w', Below w.heap.size w w' → Calls Try.prog 54 #[.iface 60 (.agg #[]), .agg #[.int .i64 m'.kd, .int .i64 m'.fr, .int .i64 m'.to, .int .i64 m'.tm, .int .i64 m'.ix, .int .i64 m'.lt, .int .i64 m'.cm, .int .i64 m'.hi, .int .i64 m'.cx, .bool m'.rj, .slice m'.ea m'.es.length m'.ec, .int .i64 m'.si, .int .i64 m'.st, .slice m'.sa m'.sd.length m'.sc]] w' fun r w'' => ∃ u, r = .returned (.tuple #[u, .bool (decide (E2 = 0))]) ∧ Ow w'.heap.size w'' u (if E2 = 0 then T2 else []) ∧ Below w'.heap.size w' w'') := t2
  clear t1 t2
  obtain ⟨S, hS⟩ : ∃ S, (if E = 0 then T else []) = S := ⟨_, rfl⟩
  obtain ⟨S2, hS2⟩ : ∃ S2, (if E2 = 0 then T2 else []) = S2 := ⟨_, rfl⟩
  obtain ⟨d1, hd1⟩ : ∃ d1, decide (E = 0) = d1 := ⟨_, rfl⟩
  obtain ⟨d2, hd2⟩ : ∃ d2, decide (E2 = 0) = d2 := ⟨_, rfl⟩
  rw [hS, hd1] at T1
  rw [hS2, hd2] at T3
  have HQ : Hid (d1 = true → d2 = true → ((S = S2) ↔ (E = 0 ∧ E2 = 0 ∧ T = T2))) := fun h1 h2 => by
    rw [h1, decide_eq_true_eq] at hd1
    rw [h2, decide_eq_true_eq] at hd2
    rw [if_pos hd1] at hS
    rw [if_pos hd2] at hS2
    subst hS hS2
    exact ⟨fun h => ⟨hd1, hd2, h⟩, fun h => h.2.2⟩
  have HN1 : Hid (d1 = false → ¬ (E = 0 ∧ E2 = 0 ∧ T = T2)) := fun h1 h => by
    rw [h1, decide_eq_false_iff_not] at hd1; exact hd1 h.1
  have HN2 : Hid (d2 = false → ¬ (E = 0 ∧ E2 = 0 ∧ T = T2)) := fun h1 h => by
    rw [h1, decide_eq_false_iff_not] at hd2; exact hd2 h.2.1
  clear hS hS2 hd1 hd2
  go_enter Try.func22, Try.ntmps22
  go_wp2_with fail
  rw [HW0.out]
  refine (T1.out W0 HB0.out).mono ?_
  rintro e w1 ⟨u1, rfl, hO1, hB1⟩
  obtain ⟨a1, c1, rfl, -, -⟩ := hO1.shape
  obtain ⟨⟨q0, q1, q2, q3, q4, q5, q6, q7, q8, q9, q10, q11, q12, q13⟩, -⟩ := cells14 (HXb.out w1 hB1)
  have HB1 : Hid (Below w.heap.size w w1) := HB0.out.trans (hB1.mono HB0.out.size)
  have hl1 : w.heap.size + 1 < w1.heap.size := (Array.getElem?_eq_some_iff.1 (HXb.out w1 hB1)).1
  clear hB1
  go_wp2_with fail
  refine (T3.out w1 HB1.out).mono ?_
  rintro e w2 ⟨u2, rfl, hO2, hB2⟩
  obtain ⟨a2, c2, rfl, -, -⟩ := hO2.shape
  have hO1' := hO1.below hB2 (Nat.le_refl _)
  have HB2 : Hid (Below w.heap.size w w2) := HB1.out.trans (hB2.mono HB1.out.size)
  cases d1 with
  | false =>
    have HN : Hid (¬ (E = 0 ∧ E2 = 0 ∧ T = T2)) := HN1.out rfl
    go_wp2
    go_ret
    exact ⟨false, rfl, by simp [HN.out], HB2.out⟩
  | true =>
    cases d2 with
    | false =>
      have HN : Hid (¬ (E = 0 ∧ E2 = 0 ∧ T = T2)) := HN2.out rfl
      go_wp2
      go_ret
      exact ⟨false, rfl, by simp [HN.out], HB2.out⟩
    | true =>
      have HY : Hid ((S = S2) ↔ (E = 0 ∧ E2 = 0 ∧ T = T2)) := HQ.out rfl rfl
      have heq := equal_any w2.heap.size _ _ S S2 w2 (hO1'.sl (Nat.le_refl _)) (hO2.sl (Nat.le_refl _))
      clear hO1 hO1' hO2 hB2
      go_wp2_with fail
      refine heq.mono ?_
      rintro e w3 ⟨t, rfl, ht, rfl⟩
      go_wp2
      go_ret
      exact ⟨t, rfl, ht.trans HY.out, HB2.out⟩

end Go.Proofs.Ytfnnbfgfmbiabab

