/-
  The document's store: what a command does to the keys.
-/
import Derived.Test.YtglhjgfaelfleaaDe0
namespace Go.Proofs.Ytglhjgfaelfleaa
open Go.RowKit
set_option linter.unusedVariables false

set_option maxRecDepth 100000 in
set_option maxHeartbeats 800000 in
theorem rd_del {N : Nat} {W : World} {d : Nat} {vp vs : Value} {K : KV} (h : DS N W d vp vs K) (hN : N ≤ W.heap.size) (op cl sq : Int) (ky vl od : Bs) (hth : atP ky K.ps = true) (hlt : plc ky K.ps < K.ps.length) (h2 : op = 3) :
    Calls Try.prog 30 #[.pointer (some ⟨d, 0, none⟩), .agg #[.int .i64 op, .int .i64 cl, .int .i64 sq, .string ⟨ky.toArray⟩, .string ⟨vl.toArray⟩, .string ⟨od.toArray⟩]] W fun e w' => DoR N W d vp vs K (K.ps.take (plc ky K.ps) ++ K.ps.drop (plc ky K.ps + 1), ⟨1, []⟩) e w' := by
  have HCA : Hid (∀ V, Below W.heap.size W V → Calls Try.prog 31 #[.pointer (some ⟨d, 0, none⟩), .string ⟨ky.toArray⟩] V fun e w' => e = .returned (.tuple #[.int .i64 (plc ky K.ps : Int), .bool (atP ky K.ps)]) ∧ Below V.heap.size V w') := fun V hB => at_any (h.below hB) ky
  rw [hth] at HCA
  have HD : Hid (DS N W d vp vs K) := h
  have hfew := h.ok.few
  have hpl := plc_le ky K.ps
  obtain ⟨pa, pc, rfl, -, -⟩ := h.rp.shape
  have HNN : Hid (N ≤ W.heap.size) := hN
  clear h hN hth
  obtain ⟨W1, HW1⟩ : ∃ W1, Hid ((W.alloc (.cells #[.int .i64 op, .int .i64 cl, .int .i64 sq, .string ⟨ky.toArray⟩, .string ⟨vl.toArray⟩, .string ⟨od.toArray⟩] 38)).alloc (.cells #[.int .i64 0, .string ⟨[].toArray⟩] 33) = W1) := ⟨_, rfl⟩
  have HB1 : Hid (Below W.heap.size W W1) := by rw [← HW1.out]; exact Below.alloc' (Below.alloc' (Below.refl _ _) _) _
  have HC1 : Hid (Dc W1 W.heap.size op cl sq ky vl od) := by rw [← HW1.out]; exact Dc.below (heap_alloc_new W _) ((Below.refl _ _).alloc (Nat.le_refl _) _)
  have HX1 : Hid (Rb W1 (W.heap.size + 1) 0 []) := by rw [← HW1.out]; exact box2 W _ _
  subst h2
  generalize plc ky K.ps = k at *
  have hk0 : (0 : Int) ≤ (k : Int) := by omega
  have hk1 : (k : Int) ≤ (K.ps.length : Int) := by omega
  have hk2 : (k : Int) + 1 ≤ (K.ps.length : Int) := by omega
  have hk3 : (0 : Int) ≤ (k : Int) + 1 := by omega
  have hk4 : IntKind.i64.wrap ((k : Int) + 1) = (k : Int) + 1 := by rw [IntKind.wrap_i64]; omega
  have hk5 : ((k : Int) + 1).toNat = k + 1 := by omega
  have HTL : Hid ((K.ps.take k).length = k) := by show _ = _; simp; omega
  rcases HD.out.rp.2 with ⟨hv, hz⟩ | ⟨g, cp, cur, hv, hgN, hgb, hcc, hcm, -⟩
  · omega
  simp only [Value.slice.injEq] at hv
  obtain ⟨hpa, -, hpc⟩ := hv
  subst hpa
  subst cp
  have hkc : (k : Int) ≤ (pc : Int) := by omega
  have hkc2 : (k : Int) + 1 ≤ (pc : Int) := by omega
  by_cases hkp : k + 1 = pc
  · subst hkp
    go_enter Try.func30, Try.ntmps30
    go_wp2_with fail
    rw [HW1.out]
    refine (HCA.out W1 HB1.out).mono ?_
    rintro e W2 ⟨rfl, hB2⟩
    have HB2 : Hid (Below W.heap.size W W2) := HB1.out.trans (hB2.mono HB1.out.size)
    have hb2 : Rb W2 (W.heap.size + 1) 0 [] := HX1.out.below hB2
    have HX2 : Hid (Rb W2 (W.heap.size + 1) 0 []) := hb2
    have HC2 : Hid (Dc W2 W.heap.size _ cl sq ky vl _) := HC1.out.below hB2
    obtain ⟨m0, m1⟩ := hb2.cells
    obtain ⟨f0, f1⟩ := hb2.free
    obtain ⟨a0, a1, a2, a3, a4, a5⟩ := HC2.out.cells
    dsimp only at a0 a1 a2 a3 a4 a5
    have HD2 : Hid (DS N W2 d _ vs _) := HD.out.below HB2.out
    obtain ⟨c0, c1⟩ := HD2.out.cells
    have lr : W.heap.size + 1 < W2.heap.size := (Array.getElem?_eq_some_iff.1 hb2).1
    have ld : d < W2.heap.size := (Array.getElem?_eq_some_iff.1 HD2.out.hd).1
    have lw : W.heap.size < W2.heap.size := by omega
    have hd0 : d < W.heap.size := (Array.getElem?_eq_some_iff.1 HD.out.hd).1
    have hdn : ¬ d = W.heap.size + 1 := by omega
    have hdn' : ¬ W.heap.size + 1 = d := by omega
    clear hB2 HB1 HX1 HW1 HCA hb2 HC1
    have hP1 : Pc RQ W2 (some ⟨g, 0, none⟩) (K.ps.take k) := by have := HD2.out.rp.piece rfl 0 k (by omega); simpa using this
    have HP1 : Hid (Pc RQ W2 (some ⟨g, 0, none⟩) (K.ps.take k)) := hP1
    clear hP1
    have HPD : Hid (∀ V, Below W2.heap.size W2 V → Pc RQ V (some ⟨g, 0, none⟩) (K.ps.drop (k + 1))) := fun V hB => .inl (List.drop_eq_nil_of_le (by omega))
    have HZ : Hid (Below W2.heap.size W2 (W2.alloc (.cells #[] 81))) := (Below.refl _ _).alloc (Nat.le_refl _) _
    have hO0 : Ro RQ W2.heap.size (W2.alloc (.cells #[] 81)) (.slice (some ⟨W2.heap.size, 0, none⟩) 0 0) [] :=
      ⟨by simp, .inr ⟨W2.heap.size, 0, #[], rfl, Nat.le_refl _, heap_alloc_new W2 _, by simp, by unfold maxLen; omega, by simp, by simp⟩⟩
    have HO0 : Hid (Ro RQ W2.heap.size (W2.alloc (.cells #[] 81)) (.slice (some ⟨W2.heap.size, 0, none⟩) 0 0) []) := hO0
    clear hO0
    go_wp2_with (at_builtin; first | (refine wpList_append_pc RQ rfl _ _ rfl W2.heap.size _ [] (K.ps.take k) rfl HO0.out _ _ _ rfl (by rw [HTL.out]) (HP1.out.below HZ.out) (by intro ad e; cases e <;> rfl) (by intro e; first | rfl | cases e) (by simp; omega) (by simp) ?_; intro v3 W3 hR3 hg3 ho3; obtain ⟨a3', c3', rfl, -, -⟩ := hR3.shape; rw [List.nil_append, HTL.out] at hR3; have hB3 : Below W2.heap.size W2 W3 := HZ.out.grown hg3 (by simp) (fun q e => by cases e; exact Nat.le_refl _); have HB3 : Hid (Below W2.heap.size W2 W3) := hB3; have HR3 : Hid (Ro RQ W2.heap.size W3 (.slice a3' k c3') (K.ps.take k)) := hR3; obtain ⟨a0, a1, a2, a3, a4, a5⟩ := (HC2.out.below hB3).cells; obtain ⟨c0, c1⟩ := (HD2.out.below hB3).cells; have hf3 := (HD2.out.below hB3).free.1; have ld3 : d < W3.heap.size := Nat.lt_of_lt_of_le ld hB3.size; have lw3 : W.heap.size + 1 < W3.heap.size := Nat.lt_of_lt_of_le lr hB3.size; have lw30 : W.heap.size < W3.heap.size := Nat.lt_of_lt_of_le lw hB3.size; dsimp only at a0 a1 a2 a3 a4 a5; clear hR3 hg3 ho3 hB3 HO0 HP1 HZ; rw [List.nil_append, HTL.out]) | (refine wpList_append_pc RQ rfl _ _ rfl W2.heap.size (.slice a3' k c3') (K.ps.take k) (K.ps.drop (k + 1)) rfl HR3.out _ _ _ rfl (by simp <;> omega) (HPD.out _ HB3.out) (by intro ad e; cases e <;> rfl) (by intro e; first | rfl | cases e) (by simp <;> omega) HB3.out.size ?_; intro v5 W5 hR5 hg5 ho5; obtain ⟨a5', c5', rfl, -, -⟩ := hR5.shape; have hB5 : Below W2.heap.size W2 W5 := HB3.out.grown hg5 HB3.out.size (fun q e => (HR3.out.lt e).1); have HB5 : Hid (Below W2.heap.size W2 W5) := hB5; have HR5 : Hid (Ro RQ W2.heap.size W5 (.slice a5' (K.ps.take k ++ K.ps.drop (k + 1)).length c5') (K.ps.take k ++ K.ps.drop (k + 1))) := hR5; obtain ⟨c0, c1⟩ := (HD2.out.below hB5).cells; have hf5 := (HD2.out.below hB5).free.1; have ld5 : d < W5.heap.size := Nat.lt_of_lt_of_le ld hB5.size; obtain ⟨m0, m1⟩ := (HX2.out.below hB5).cells; obtain ⟨f0, f1⟩ := (HX2.out.below hB5).free; clear hR5 hg5 ho5 hB5))
    refine bodyPost_ret (v := .agg #[.int .i64 1, .string ⟨[].toArray⟩]) (by simp [results, Try.results30, go_sem, m0, m1]) rfl ?_
    have hll : (K.ps.take k ++ K.ps.drop (k + 1)).length = k := by simp; omega
    have HR6 : Ro RQ W2.heap.size W5 (.slice a5' (k) c5') (K.ps.take k ++ K.ps.drop (k + 1)) := by have := HR5.out; rw [hll] at this; simpa using this
    exact DoR.new (r := ⟨1, []⟩) HD2.out HNN.out hd0 HB2.out HB5.out HR6 (Nat.le_succ _) (HX2.out.below HB5.out) lr

  · have hkp' : k + 1 < pc := by omega
    have hkp2 : ¬ pc = k + 1 := by omega
    go_enter Try.func30, Try.ntmps30
    go_wp2_with fail
    rw [HW1.out]
    refine (HCA.out W1 HB1.out).mono ?_
    rintro e W2 ⟨rfl, hB2⟩
    have HB2 : Hid (Below W.heap.size W W2) := HB1.out.trans (hB2.mono HB1.out.size)
    have hb2 : Rb W2 (W.heap.size + 1) 0 [] := HX1.out.below hB2
    have HX2 : Hid (Rb W2 (W.heap.size + 1) 0 []) := hb2
    have HC2 : Hid (Dc W2 W.heap.size _ cl sq ky vl _) := HC1.out.below hB2
    obtain ⟨m0, m1⟩ := hb2.cells
    obtain ⟨f0, f1⟩ := hb2.free
    obtain ⟨a0, a1, a2, a3, a4, a5⟩ := HC2.out.cells
    dsimp only at a0 a1 a2 a3 a4 a5
    have HD2 : Hid (DS N W2 d _ vs _) := HD.out.below HB2.out
    obtain ⟨c0, c1⟩ := HD2.out.cells
    have lr : W.heap.size + 1 < W2.heap.size := (Array.getElem?_eq_some_iff.1 hb2).1
    have ld : d < W2.heap.size := (Array.getElem?_eq_some_iff.1 HD2.out.hd).1
    have lw : W.heap.size < W2.heap.size := by omega
    have hd0 : d < W.heap.size := (Array.getElem?_eq_some_iff.1 HD.out.hd).1
    have hdn : ¬ d = W.heap.size + 1 := by omega
    have hdn' : ¬ W.heap.size + 1 = d := by omega
    clear hB2 HB1 HX1 HW1 HCA hb2 HC1
    have hP1 : Pc RQ W2 (some ⟨g, 0, none⟩) (K.ps.take k) := by have := HD2.out.rp.piece rfl 0 k (by omega); simpa using this
    have HP1 : Hid (Pc RQ W2 (some ⟨g, 0, none⟩) (K.ps.take k)) := hP1
    clear hP1
    have HPD : Hid (∀ V, Below W2.heap.size W2 V → Pc RQ V (some ⟨g, (k + 1) * 2, none⟩) (K.ps.drop (k + 1))) := fun V hB => by
      have := (HD2.out.below hB).rp.piece rfl (k + 1) (K.ps.length - (k + 1)) (by omega)
      rw [List.take_of_length_le (by simp)] at this
      exact this
    have HZ : Hid (Below W2.heap.size W2 (W2.alloc (.cells #[] 81))) := (Below.refl _ _).alloc (Nat.le_refl _) _
    have hO0 : Ro RQ W2.heap.size (W2.alloc (.cells #[] 81)) (.slice (some ⟨W2.heap.size, 0, none⟩) 0 0) [] :=
      ⟨by simp, .inr ⟨W2.heap.size, 0, #[], rfl, Nat.le_refl _, heap_alloc_new W2 _, by simp, by unfold maxLen; omega, by simp, by simp⟩⟩
    have HO0 : Hid (Ro RQ W2.heap.size (W2.alloc (.cells #[] 81)) (.slice (some ⟨W2.heap.size, 0, none⟩) 0 0) []) := hO0
    clear hO0
    go_wp2_with (at_builtin; first | (refine wpList_append_pc RQ rfl _ _ rfl W2.heap.size _ [] (K.ps.take k) rfl HO0.out _ _ _ rfl (by rw [HTL.out]) (HP1.out.below HZ.out) (by intro ad e; cases e <;> rfl) (by intro e; first | rfl | cases e) (by simp; omega) (by simp) ?_; intro v3 W3 hR3 hg3 ho3; obtain ⟨a3', c3', rfl, -, -⟩ := hR3.shape; rw [List.nil_append, HTL.out] at hR3; have hB3 : Below W2.heap.size W2 W3 := HZ.out.grown hg3 (by simp) (fun q e => by cases e; exact Nat.le_refl _); have HB3 : Hid (Below W2.heap.size W2 W3) := hB3; have HR3 : Hid (Ro RQ W2.heap.size W3 (.slice a3' k c3') (K.ps.take k)) := hR3; obtain ⟨a0, a1, a2, a3, a4, a5⟩ := (HC2.out.below hB3).cells; obtain ⟨c0, c1⟩ := (HD2.out.below hB3).cells; have hf3 := (HD2.out.below hB3).free.1; have ld3 : d < W3.heap.size := Nat.lt_of_lt_of_le ld hB3.size; have lw3 : W.heap.size + 1 < W3.heap.size := Nat.lt_of_lt_of_le lr hB3.size; have lw30 : W.heap.size < W3.heap.size := Nat.lt_of_lt_of_le lw hB3.size; dsimp only at a0 a1 a2 a3 a4 a5; clear hR3 hg3 ho3 hB3 HO0 HP1 HZ; rw [List.nil_append, HTL.out]) | (refine wpList_append_pc RQ rfl _ _ rfl W2.heap.size (.slice a3' k c3') (K.ps.take k) (K.ps.drop (k + 1)) rfl HR3.out _ _ _ rfl (by simp <;> omega) (HPD.out _ HB3.out) (by intro ad e; cases e <;> rfl) (by intro e; first | rfl | cases e) (by simp <;> omega) HB3.out.size ?_; intro v5 W5 hR5 hg5 ho5; obtain ⟨a5', c5', rfl, -, -⟩ := hR5.shape; have hB5 : Below W2.heap.size W2 W5 := HB3.out.grown hg5 HB3.out.size (fun q e => (HR3.out.lt e).1); have HB5 : Hid (Below W2.heap.size W2 W5) := hB5; have HR5 : Hid (Ro RQ W2.heap.size W5 (.slice a5' (K.ps.take k ++ K.ps.drop (k + 1)).length c5') (K.ps.take k ++ K.ps.drop (k + 1))) := hR5; obtain ⟨c0, c1⟩ := (HD2.out.below hB5).cells; have hf5 := (HD2.out.below hB5).free.1; have ld5 : d < W5.heap.size := Nat.lt_of_lt_of_le ld hB5.size; obtain ⟨m0, m1⟩ := (HX2.out.below hB5).cells; obtain ⟨f0, f1⟩ := (HX2.out.below hB5).free; clear hR5 hg5 ho5 hB5))
    refine bodyPost_ret (v := .agg #[.int .i64 1, .string ⟨[].toArray⟩]) (by simp [results, Try.results30, go_sem, m0, m1]) rfl ?_
    have hll : (K.ps.take k ++ K.ps.drop (k + 1)).length = k + (K.ps.length - (k + 1)) := by simp; omega
    have HR6 : Ro RQ W2.heap.size W5 (.slice a5' (k + (K.ps.length - (k + 1))) c5') (K.ps.take k ++ K.ps.drop (k + 1)) := by have := HR5.out; rw [hll] at this; simpa using this
    exact DoR.new (r := ⟨1, []⟩) HD2.out HNN.out hd0 HB2.out HB5.out HR6 (Nat.le_succ _) (HX2.out.below HB5.out) lr


end Go.Proofs.Ytglhjgfaelfleaa
