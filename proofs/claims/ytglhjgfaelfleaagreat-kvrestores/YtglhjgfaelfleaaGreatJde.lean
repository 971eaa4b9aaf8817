/-
  The document's store: what a command does to the keys. The document's store: what a command does to the keys. The document's store: what a command does to the keys. The document's store: what a command does to the keys. The document's store: what a command does to the keys. The document's store: what a command does to the keys.
-/
import Derived.Test.YtglhjgfaelfleaaGreatDe0
namespace Go.Proofs.YtglhjgfaelfleaaGreat
open Go.RowKit
set_option linter.unusedVariables false

set_option maxRecDepth 100000 in
set_option maxHeartbeats 800000 in
theorem rd_full {N : Nat} {W : World} {d : Nat} {vp vs : Value} {K : KV} (h : DS N W d vp vs K) (hN : N ≤ W.heap.size) (op cl sq : Int) (ky vl od : Bs) (hth : atP ky K.ps = false) (h2 : op = 2) (hfl : 128 ≤ K.ps.length) :
    Calls Tryz.prog 41 #[.pointer (some ⟨d, 0, none⟩), .agg #[.int .i64 op, .int .i64 cl, .int .i64 sq, .string ⟨ky.toArray⟩, .string ⟨vl.toArray⟩, .string ⟨od.toArray⟩]] W fun e w' => DoR N W d vp vs K (K.ps, ⟨5, []⟩) e w' := by
  have HCA : Hid (∀ V, Below W.heap.size W V → Calls Tryz.prog 71 #[.pointer (some ⟨d, 0, none⟩), .string ⟨ky.toArray⟩] V fun e w' => e = .returned (.tuple #[.int .i64 (plc ky K.ps : Int), .bool (atP ky K.ps)]) ∧ Below V.heap.size V w') := fun V hB => at_any (h.below hB) ky
  rw [hth] at HCA
  have HD : Hid (DS N W d vp vs K) := h
  have hfew := h.ok.few
  have hpl := plc_le ky K.ps
  obtain ⟨pa, pc, rfl, -, -⟩ := h.rp.shape
  have HNN : Hid (N ≤ W.heap.size) := hN
  clear h hN hth
  obtain ⟨W1, HW1⟩ : ∃ W1, Hid ((W.alloc (.cells #[.int .i64 op, .int .i64 cl, .int .i64 sq, .string ⟨ky.toArray⟩, .string ⟨vl.toArray⟩, .string ⟨od.toArray⟩] 44)).alloc (.cells #[.int .i64 0, .string ⟨[].toArray⟩] 40) = W1) := ⟨_, rfl⟩
  have HB1 : Hid (Below W.heap.size W W1) := by rw [← HW1.out]; exact Below.alloc' (Below.alloc' (Below.refl _ _) _) _
  have HC1 : Hid (Dc W1 W.heap.size op cl sq ky vl od) := by rw [← HW1.out]; exact Dc.below (heap_alloc_new W _) ((Below.refl _ _).alloc (Nat.le_refl _) _)
  have HX1 : Hid (Rb W1 (W.heap.size + 1) 0 []) := by rw [← HW1.out]; exact box2 W _ _
  subst h2
  have hfl' : (128 : Int) ≤ (K.ps.length : Int) := by omega
  generalize plc ky K.ps = k at *
  go_enter Tryz.func41, Tryz.ntmps41
  go_wp2_with fail
  rw [HW1.out]
  refine (HCA.out W1 HB1.out).mono ?_
  rintro e W2 ⟨rfl, hB2⟩
  have HB2 : Hid (Below W.heap.size W W2) := HB1.out.trans (hB2.mono HB1.out.size)
  have hb2 : Rb W2 (W.heap.size + 1) 0 [] := HX1.out.below hB2
  have HX2 : Hid (Rb W2 (W.heap.size + 1) 0 []) := hb2
  have HC2 : Hid (Dc W2 W.heap.size _ cl sq ky vl _) := HC1.out.below hB2
  obtain ⟨m0, m1⟩ := hb2.cells
  obtain ⟨f0, f1⟩ := hb2.free
  obtain ⟨a0, a1, a2, a3, a4, a5⟩ := HC2.out.cells
  dsimp only at a0 a1 a2 a3 a4 a5
  have HD2 : Hid (DS N W2 d _ vs _) := HD.out.below HB2.out
  obtain ⟨c0, c1⟩ := HD2.out.cells
  have lr : W.heap.size + 1 < W2.heap.size := (Array.getElem?_eq_some_iff.1 hb2).1
  have ld : d < W2.heap.size := (Array.getElem?_eq_some_iff.1 HD2.out.hd).1
  have lw : W.heap.size < W2.heap.size := by omega
  have hd0 : d < W.heap.size := (Array.getElem?_eq_some_iff.1 HD.out.hd).1
  have hdn : ¬ d = W.heap.size + 1 := by omega
  have hdn' : ¬ W.heap.size + 1 = d := by omega
  clear hB2 HB1 HX1 HW1 HCA hb2 HC1
  go_wp2
  refine bodyPost_ret (v := .agg #[.int .i64 5, .string ⟨[].toArray⟩]) (by simp [results, Tryz.results41, go_sem, m0, m1]) rfl ?_
  exact DoR.keep HD.out (below_set2 HB2.out (by omega))

set_option maxRecDepth 100000 in
set_option maxHeartbeats 800000 in
theorem rd_none {N : Nat} {W : World} {d : Nat} {vp vs : Value} {K : KV} (h : DS N W d vp vs K) (hN : N ≤ W.heap.size) (op cl sq : Int) (ky vl od : Bs) (hth : atP ky K.ps = false) (h2 : ¬ op = 2) :
    Calls Tryz.prog 41 #[.pointer (some ⟨d, 0, none⟩), .agg #[.int .i64 op, .int .i64 cl, .int .i64 sq, .string ⟨ky.toArray⟩, .string ⟨vl.toArray⟩, .string ⟨od.toArray⟩]] W fun e w' => DoR N W d vp vs K (K.ps, ⟨2, []⟩) e w' := by
  have HCA : Hid (∀ V, Below W.heap.size W V → Calls Tryz.prog 71 #[.pointer (some ⟨d, 0, none⟩), .string ⟨ky.toArray⟩] V fun e w' => e = .returned (.tuple #[.int .i64 (plc ky K.ps : Int), .bool (atP ky K.ps)]) ∧ Below V.heap.size V w') := fun V hB => at_any (h.below hB) ky
  rw [hth] at HCA
  have HD : Hid (DS N W d vp vs K) := h
  have hfew := h.ok.few
  have hpl := plc_le ky K.ps
  obtain ⟨pa, pc, rfl, -, -⟩ := h.rp.shape
  have HNN : Hid (N ≤ W.heap.size) := hN
  clear h hN hth
  obtain ⟨W1, HW1⟩ : ∃ W1, Hid ((W.alloc (.cells #[.int .i64 op, .int .i64 cl, .int .i64 sq, .string ⟨ky.toArray⟩, .string ⟨vl.toArray⟩, .string ⟨od.toArray⟩] 44)).alloc (.cells #[.int .i64 0, .string ⟨[].toArray⟩] 40) = W1) := ⟨_, rfl⟩
  have HB1 : Hid (Below W.heap.size W W1) := by rw [← HW1.out]; exact Below.alloc' (Below.alloc' (Below.refl _ _) _) _
  have HC1 : Hid (Dc W1 W.heap.size op cl sq ky vl od) := by rw [← HW1.out]; exact Dc.below (heap_alloc_new W _) ((Below.refl _ _).alloc (Nat.le_refl _) _)
  have HX1 : Hid (Rb W1 (W.heap.size + 1) 0 []) := by rw [← HW1.out]; exact box2 W _ _
  have h2' : (op == 2) = false := by simpa using h2
  clear h2
  generalize plc ky K.ps = k at *
  go_enter Tryz.func41, Tryz.ntmps41
  go_wp2_with fail
  rw [HW1.out]
  refine (HCA.out W1 HB1.out).mono ?_
  rintro e W2 ⟨rfl, hB2⟩
  have HB2 : Hid (Below W.heap.size W W2) := HB1.out.trans (hB2.mono HB1.out.size)
  have hb2 : Rb W2 (W.heap.size + 1) 0 [] := HX1.out.below hB2
  have HX2 : Hid (Rb W2 (W.heap.size + 1) 0 []) := hb2
  have HC2 : Hid (Dc W2 W.heap.size _ cl sq ky vl _) := HC1.out.below hB2
  obtain ⟨m0, m1⟩ := hb2.cells
  obtain ⟨f0, f1⟩ := hb2.free
  obtain ⟨a0, a1, a2, a3, a4, a5⟩ := HC2.out.cells
  dsimp only at a0 a1 a2 a3 a4 a5
  have HD2 : Hid (DS N W2 d _ vs _) := HD.out.below HB2.out
  obtain ⟨c0, c1⟩ := HD2.out.cells
  have lr : W.heap.size + 1 < W2.heap.size := (Array.getElem?_eq_some_iff.1 hb2).1
  have ld : d < W2.heap.size := (Array.getElem?_eq_some_iff.1 HD2.out.hd).1
  have lw : W.heap.size < W2.heap.size := by omega
  have hd0 : d < W.heap.size := (Array.getElem?_eq_some_iff.1 HD.out.hd).1
  have hdn : ¬ d = W.heap.size + 1 := by omega
  have hdn' : ¬ W.heap.size + 1 = d := by omega
  clear hB2 HB1 HX1 HW1 HCA hb2 HC1
  go_wp2
  refine bodyPost_ret (v := .agg #[.int .i64 2, .string ⟨[].toArray⟩]) (by simp [results, Tryz.results41, go_sem, m0, m1]) rfl ?_
  exact DoR.keep HD.out (below_set2 HB2.out (by omega))

end Go.Proofs.YtglhjgfaelfleaaGreat
namespace Go.Proofs.YtglhjgfaelfleaaGreat
open Go.RowKit
set_option linter.unusedVariables false

set_option maxRecDepth 100000 in
set_option maxHeartbeats 800000 in
theorem rd_put {N : Nat} {W : World} {d : Nat} {vp vs : Value} {K : KV} (h : DS N W d vp vs K) (hN : N ≤ W.heap.size) (op cl sq : Int) (ky vl od : Bs) (hth : atP ky K.ps = false) (h2 : op = 2) (hfl : ¬ 128 ≤ K.ps.length) :
    Calls Tryz.prog 41 #[.pointer (some ⟨d, 0, none⟩), .agg #[.int .i64 op, .int .i64 cl, .int .i64 sq, .string ⟨ky.toArray⟩, .string ⟨vl.toArray⟩, .string ⟨od.toArray⟩]] W fun e w' => DoR N W d vp vs K (K.ps.take (plc ky K.ps) ++ (ky, vl) :: K.ps.drop (plc ky K.ps), ⟨1, []⟩) e w' := by
  have HCA : Hid (∀ V, Below W.heap.size W V → Calls Tryz.prog 71 #[.pointer (some ⟨d, 0, none⟩), .string ⟨ky.toArray⟩] V fun e w' => e = .returned (.tuple #[.int .i64 (plc ky K.ps : Int), .bool (atP ky K.ps)]) ∧ Below V.heap.size V w') := fun V hB => at_any (h.below hB) ky
  rw [hth] at HCA
  have HD : Hid (DS N W d vp vs K) := h
  have hfew := h.ok.few
  have hpl := plc_le ky K.ps
  obtain ⟨pa, pc, rfl, -, -⟩ := h.rp.shape
  have HNN : Hid (N ≤ W.heap.size) := hN
  clear h hN hth
  obtain ⟨W1, HW1⟩ : ∃ W1, Hid ((W.alloc (.cells #[.int .i64 op, .int .i64 cl, .int .i64 sq, .string ⟨ky.toArray⟩, .string ⟨vl.toArray⟩, .string ⟨od.toArray⟩] 44)).alloc (.cells #[.int .i64 0, .string ⟨[].toArray⟩] 40) = W1) := ⟨_, rfl⟩
  have HB1 : Hid (Below W.heap.size W W1) := by rw [← HW1.out]; exact Below.alloc' (Below.alloc' (Below.refl _ _) _) _
  have HC1 : Hid (Dc W1 W.heap.size op cl sq ky vl od) := by rw [← HW1.out]; exact Dc.below (heap_alloc_new W _) ((Below.refl _ _).alloc (Nat.le_refl _) _)
  have HX1 : Hid (Rb W1 (W.heap.size + 1) 0 []) := by rw [← HW1.out]; exact box2 W _ _
  subst h2
  have hfl' : decide ((128 : Int) ≤ (K.ps.length : Int)) = false := by simp; omega
  generalize plc ky K.ps = k at *
  have hk0 : (0 : Int) ≤ (k : Int) := by omega
  have hk1 : (k : Int) ≤ (K.ps.length : Int) := by omega
  have HTL : Hid ((K.ps.take k).length = k) := by show _ = _; simp; omega
  rcases HD.out.rp.2 with ⟨hv, hz⟩ | ⟨g, cp, cur, hv, hgN, hgb, hcc, hcm, -⟩
  · have hps : K.ps = [] := List.length_eq_zero_iff.1 hz
    simp only [Value.slice.injEq] at hv
    obtain ⟨hpa, -, hpc⟩ := hv
    subst hpa
    subst hpc
    have hk00 : k = 0 := by omega
    subst hk00
    obtain ⟨ps, ss⟩ := K
    dsimp only at hps
    subst hps
    have hcap0 : (0 : Int) ≤ 0 := by omega
    clear hk0 hk1 hpl HTL hfl hfl' hfew
    clear hz
    go_enter Tryz.func41, Tryz.ntmps41
    go_wp2_with fail
    rw [HW1.out]
    refine (HCA.out W1 HB1.out).mono ?_
    rintro e W2 ⟨rfl, hB2⟩
    have HB2 : Hid (Below W.heap.size W W2) := HB1.out.trans (hB2.mono HB1.out.size)
    have hb2 : Rb W2 (W.heap.size + 1) 0 [] := HX1.out.below hB2
    have HX2 : Hid (Rb W2 (W.heap.size + 1) 0 []) := hb2
    have HC2 : Hid (Dc W2 W.heap.size _ cl sq ky vl _) := HC1.out.below hB2
    obtain ⟨m0, m1⟩ := hb2.cells
    obtain ⟨f0, f1⟩ := hb2.free
    obtain ⟨a0, a1, a2, a3, a4, a5⟩ := HC2.out.cells
    dsimp only at a0 a1 a2 a3 a4 a5
    have HD2 : Hid (DS N W2 d _ vs _) := HD.out.below HB2.out
    obtain ⟨c0, c1⟩ := HD2.out.cells
    have lr : W.heap.size + 1 < W2.heap.size := (Array.getElem?_eq_some_iff.1 hb2).1
    have ld : d < W2.heap.size := (Array.getElem?_eq_some_iff.1 HD2.out.hd).1
    have lw : W.heap.size < W2.heap.size := by omega
    have hd0 : d < W.heap.size := (Array.getElem?_eq_some_iff.1 HD.out.hd).1
    have hdn : ¬ d = W.heap.size + 1 := by omega
    have hdn' : ¬ W.heap.size + 1 = d := by omega
    clear hB2 HB1 HX1 HW1 HCA hb2 HC1
    have HP1 : Hid (Pc RQ W2 none ([] : List (Bs × Bs))) := .inl rfl
    have HPD : Hid (∀ V, Below W2.heap.size W2 V → Pc RQ V none ([] : List (Bs × Bs))) := fun V hB => .inl rfl
    have HZ : Hid (Below W2.heap.size W2 (W2.alloc (.cells #[] 68))) := (Below.refl _ _).alloc (Nat.le_refl _) _
    have hO0 : Ro RQ W2.heap.size (W2.alloc (.cells #[] 68)) (.slice (some ⟨W2.heap.size, 0, none⟩) 0 0) [] :=
      ⟨by simp, .inr ⟨W2.heap.size, 0, #[], rfl, Nat.le_refl _, heap_alloc_new W2 _, by simp, by unfold maxLen; omega, by simp, by simp⟩⟩
    have HO0 : Hid (Ro RQ W2.heap.size (W2.alloc (.cells #[] 68)) (.slice (some ⟨W2.heap.size, 0, none⟩) 0 0) []) := hO0
    clear hO0
    go_wp2_with (at_builtin; first | (refine wpList_append_ro RQ rfl _ _ rfl W2.heap.size (.slice (some ⟨W2.heap.size, 0, none⟩) 0 0) ([] : List (Bs × Bs)) (ky, vl) rfl HO0.out rfl (by simp) (by simp) (by simp) ?_; intro v4 W4 hR4 hg4 ho4; obtain ⟨a4', c4', rfl, -, -⟩ := hR4.shape; rw [List.nil_append, List.length_singleton] at hR4; have hB4 : Below W2.heap.size W2 W4 := (HZ.out.trans ((Below.refl _ _).alloc HZ.out.size _)).grown hg4 (by have := HZ.out.size; simp; omega) (fun q e => by cases e; exact Nat.le_refl _); have HB4 : Hid (Below W2.heap.size W2 W4) := hB4; have HR4 : Hid (Ro RQ W2.heap.size W4 (.slice a4' 1 c4') [(ky, vl)]) := hR4; obtain ⟨c0, c1⟩ := (HD2.out.below hB4).cells; have hf4 := (HD2.out.below hB4).free.1; have ld4 : d < W4.heap.size := Nat.lt_of_lt_of_le ld hB4.size; obtain ⟨m0, m1⟩ := (HX2.out.below hB4).cells; obtain ⟨f0, f1⟩ := (HX2.out.below hB4).free; have lw4 : W.heap.size + 1 < W4.heap.size := Nat.lt_of_lt_of_le lr hB4.size; clear hR4 hg4 ho4 hB4 HO0 HZ; rw [List.nil_append, List.length_singleton]) | (refine wpList_append_pc RQ rfl _ _ rfl W2.heap.size (.slice a4' 1 c4') ([(ky, vl)]) (([] : List (Bs × Bs))) rfl HR4.out _ _ _ rfl (by rfl) (HPD.out _ HB4.out) (by intro ad e; cases e <;> rfl) (by intro e; first | rfl | cases e) (by simp <;> omega) HB4.out.size ?_; intro v5 W5 hR5 hg5 ho5; obtain ⟨a5', c5', rfl, -, -⟩ := hR5.shape; have hB5 : Below W2.heap.size W2 W5 := HB4.out.grown hg5 HB4.out.size (fun q e => (HR4.out.lt e).1); have HB5 : Hid (Below W2.heap.size W2 W5) := hB5; have HR5 : Hid (Ro RQ W2.heap.size W5 (.slice a5' ([(ky, vl)] ++ ([] : List (Bs × Bs))).length c5') ([(ky, vl)] ++ ([] : List (Bs × Bs)))) := hR5; obtain ⟨c0, c1⟩ := (HD2.out.below hB5).cells; have hf5 := (HD2.out.below hB5).free.1; have ld5 : d < W5.heap.size := Nat.lt_of_lt_of_le ld hB5.size; obtain ⟨m0, m1⟩ := (HX2.out.below hB5).cells; obtain ⟨f0, f1⟩ := (HX2.out.below hB5).free; clear hR5 hg5 ho5 hB5))
    refine bodyPost_ret (v := .agg #[.int .i64 1, .string ⟨[].toArray⟩]) (by simp [results, Tryz.results41, go_sem, m0, m1]) rfl ?_
    have HR6 : Ro RQ W2.heap.size W5 (.slice a5' 1 c5') [(ky, vl)] := by have := HR5.out; simpa using this
    exact DoR.new (r := ⟨1, []⟩) HD2.out HNN.out hd0 HB2.out HB5.out HR6 (Nat.le_succ _) (HX2.out.below HB5.out) lr

  · simp only [Value.slice.injEq] at hv
    obtain ⟨hpa, -, hpc⟩ := hv
    subst hpa
    subst cp
    have hkc : (k : Int) ≤ (pc : Int) := by omega
    by_cases hkp : k = pc
    · subst hkp
      go_enter Tryz.func41, Tryz.ntmps41
      go_wp2_with fail
      rw [HW1.out]
      refine (HCA.out W1 HB1.out).mono ?_
      rintro e W2 ⟨rfl, hB2⟩
      have HB2 : Hid (Below W.heap.size W W2) := HB1.out.trans (hB2.mono HB1.out.size)
      have hb2 : Rb W2 (W.heap.size + 1) 0 [] := HX1.out.below hB2
      have HX2 : Hid (Rb W2 (W.heap.size + 1) 0 []) := hb2
      have HC2 : Hid (Dc W2 W.heap.size _ cl sq ky vl _) := HC1.out.below hB2
      obtain ⟨m0, m1⟩ := hb2.cells
      obtain ⟨f0, f1⟩ := hb2.free
      obtain ⟨a0, a1, a2, a3, a4, a5⟩ := HC2.out.cells
      dsimp only at a0 a1 a2 a3 a4 a5
      have HD2 : Hid (DS N W2 d _ vs _) := HD.out.below HB2.out
      obtain ⟨c0, c1⟩ := HD2.out.cells
      have lr : W.heap.size + 1 < W2.heap.size := (Array.getElem?_eq_some_iff.1 hb2).1
      have ld : d < W2.heap.size := (Array.getElem?_eq_some_iff.1 HD2.out.hd).1
      have lw : W.heap.size < W2.heap.size := by omega
      have hd0 : d < W.heap.size := (Array.getElem?_eq_some_iff.1 HD.out.hd).1
      have hdn : ¬ d = W.heap.size + 1 := by omega
      have hdn' : ¬ W.heap.size + 1 = d := by omega
      clear hB2 HB1 HX1 HW1 HCA hb2 HC1
      have hP1 : Pc RQ W2 (some ⟨g, 0, none⟩) (K.ps.take k) := by have := HD2.out.rp.piece rfl 0 k (by omega); simpa using this
      have HP1 : Hid (Pc RQ W2 (some ⟨g, 0, none⟩) (K.ps.take k)) := hP1
      clear hP1
      have HPD : Hid (∀ V, Below W2.heap.size W2 V → Pc RQ V (some ⟨g, 0, none⟩) (K.ps.drop k)) := fun V hB => .inl (List.drop_eq_nil_of_le (by omega))
      have HZ : Hid (Below W2.heap.size W2 (W2.alloc (.cells #[] 68))) := (Below.refl _ _).alloc (Nat.le_refl _) _
      have hO0 : Ro RQ W2.heap.size (W2.alloc (.cells #[] 68)) (.slice (some ⟨W2.heap.size, 0, none⟩) 0 0) [] :=
        ⟨by simp, .inr ⟨W2.heap.size, 0, #[], rfl, Nat.le_refl _, heap_alloc_new W2 _, by simp, by unfold maxLen; omega, by simp, by simp⟩⟩
      have HO0 : Hid (Ro RQ W2.heap.size (W2.alloc (.cells #[] 68)) (.slice (some ⟨W2.heap.size, 0, none⟩) 0 0) []) := hO0
      clear hO0
      go_wp2_with (at_builtin; first | (refine wpList_append_pc RQ rfl _ _ rfl W2.heap.size _ [] (K.ps.take k) rfl HO0.out _ _ _ rfl (by rw [HTL.out]) (HP1.out.below HZ.out) (by intro ad e; cases e <;> rfl) (by intro e; first | rfl | cases e) (by simp; omega) (by simp) ?_; intro v3 W3 hR3 hg3 ho3; obtain ⟨a3', c3', rfl, -, -⟩ := hR3.shape; rw [List.nil_append, HTL.out] at hR3; have hB3 : Below W2.heap.size W2 W3 := HZ.out.grown hg3 (by simp) (fun q e => by cases e; exact Nat.le_refl _); have HB3 : Hid (Below W2.heap.size W2 W3) := hB3; have HR3 : Hid (Ro RQ W2.heap.size W3 (.slice a3' k c3') (K.ps.take k)) := hR3; obtain ⟨a0, a1, a2, a3, a4, a5⟩ := (HC2.out.below hB3).cells; obtain ⟨c0, c1⟩ := (HD2.out.below hB3).cells; have hf3 := (HD2.out.below hB3).free.1; have ld3 : d < W3.heap.size := Nat.lt_of_lt_of_le ld hB3.size; have lw3 : W.heap.size + 1 < W3.heap.size := Nat.lt_of_lt_of_le lr hB3.size; have lw30 : W.heap.size < W3.heap.size := Nat.lt_of_lt_of_le lw hB3.size; dsimp only at a0 a1 a2 a3 a4 a5; clear hR3 hg3 ho3 hB3 HO0 HP1 HZ; rw [List.nil_append, HTL.out]) | (refine wpList_append_ro RQ rfl _ _ rfl W2.heap.size (.slice a3' k c3') (K.ps.take k) (ky, vl) rfl HR3.out rfl rfl (by rw [HTL.out]; omega) HB3.out.size ?_; intro v4 W4 hR4 hg4 ho4; obtain ⟨a4', c4', rfl, -, -⟩ := hR4.shape; rw [List.length_append, HTL.out, List.length_singleton] at hR4; have hB4 : Below W2.heap.size W2 W4 := (HB3.out.trans ((Below.refl _ _).alloc HB3.out.size _)).grown hg4 (by have := HB3.out.size; simp; omega) (fun q e => (HR3.out.lt e).1); have HB4 : Hid (Below W2.heap.size W2 W4) := hB4; have HR4 : Hid (Ro RQ W2.heap.size W4 (.slice a4' (k + 1) c4') (K.ps.take k ++ [(ky, vl)])) := hR4; obtain ⟨c0, c1⟩ := (HD2.out.below hB4).cells; have hf4 := (HD2.out.below hB4).free.1; have ld4 : d < W4.heap.size := Nat.lt_of_lt_of_le ld hB4.size; obtain ⟨m0, m1⟩ := (HX2.out.below hB4).cells; obtain ⟨f0, f1⟩ := (HX2.out.below hB4).free; have lw4 : W.heap.size + 1 < W4.heap.size := Nat.lt_of_lt_of_le lr hB4.size; clear hR4 hg4 ho4 hB4 HB3 HR3; rw [List.length_append, HTL.out, List.length_singleton]) | (refine wpList_append_pc RQ rfl _ _ rfl W2.heap.size (.slice a4' (k + 1) c4') (K.ps.take k ++ [(ky, vl)]) (K.ps.drop k) rfl HR4.out _ _ _ rfl (by simp <;> omega) (HPD.out _ HB4.out) (by intro ad e; cases e <;> rfl) (by intro e; first | rfl | cases e) (by simp <;> omega) HB4.out.size ?_; intro v5 W5 hR5 hg5 ho5; obtain ⟨a5', c5', rfl, -, -⟩ := hR5.shape; have hB5 : Below W2.heap.size W2 W5 := HB4.out.grown hg5 HB4.out.size (fun q e => (HR4.out.lt e).1); have HB5 : Hid (Below W2.heap.size W2 W5) := hB5; have HR5 : Hid (Ro RQ W2.heap.size W5 (.slice a5' (K.ps.take k ++ [(ky, vl)] ++ K.ps.drop k).length c5') (K.ps.take k ++ [(ky, vl)] ++ K.ps.drop k)) := hR5; obtain ⟨c0, c1⟩ := (HD2.out.below hB5).cells; have hf5 := (HD2.out.below hB5).free.1; have ld5 : d < W5.heap.size := Nat.lt_of_lt_of_le ld hB5.size; obtain ⟨m0, m1⟩ := (HX2.out.below hB5).cells; obtain ⟨f0, f1⟩ := (HX2.out.below hB5).free; clear hR5 hg5 ho5 hB5))
      refine bodyPost_ret (v := .agg #[.int .i64 1, .string ⟨[].toArray⟩]) (by simp [results, Tryz.results41, go_sem, m0, m1]) rfl ?_
      have hll : (K.ps.take k ++ [(ky, vl)] ++ K.ps.drop k).length = k + 1 := by simp; omega
      have HR6 : Ro RQ W2.heap.size W5 (.slice a5' (k + 1) c5') (K.ps.take k ++ (ky, vl) :: K.ps.drop k) := by have := HR5.out; rw [hll] at this; simpa using this
      exact DoR.new (r := ⟨1, []⟩) HD2.out HNN.out hd0 HB2.out HB5.out HR6 (Nat.le_succ _) (HX2.out.below HB5.out) lr

    · have hkp' : k < pc := by omega
      go_enter Tryz.func41, Tryz.ntmps41
      go_wp2_with fail
      rw [HW1.out]
      refine (HCA.out W1 HB1.out).mono ?_
      rintro e W2 ⟨rfl, hB2⟩
      have HB2 : Hid (Below W.heap.size W W2) := HB1.out.trans (hB2.mono HB1.out.size)
      have hb2 : Rb W2 (W.heap.size + 1) 0 [] := HX1.out.below hB2
      have HX2 : Hid (Rb W2 (W.heap.size + 1) 0 []) := hb2
      have HC2 : Hid (Dc W2 W.heap.size _ cl sq ky vl _) := HC1.out.below hB2
      obtain ⟨m0, m1⟩ := hb2.cells
      obtain ⟨f0, f1⟩ := hb2.free
      obtain ⟨a0, a1, a2, a3, a4, a5⟩ := HC2.out.cells
      dsimp only at a0 a1 a2 a3 a4 a5
      have HD2 : Hid (DS N W2 d _ vs _) := HD.out.below HB2.out
      obtain ⟨c0, c1⟩ := HD2.out.cells
      have lr : W.heap.size + 1 < W2.heap.size := (Array.getElem?_eq_some_iff.1 hb2).1
      have ld : d < W2.heap.size := (Array.getElem?_eq_some_iff.1 HD2.out.hd).1
      have lw : W.heap.size < W2.heap.size := by omega
      have hd0 : d < W.heap.size := (Array.getElem?_eq_some_iff.1 HD.out.hd).1
      have hdn : ¬ d = W.heap.size + 1 := by omega
      have hdn' : ¬ W.heap.size + 1 = d := by omega
      clear hB2 HB1 HX1 HW1 HCA hb2 HC1
      have hP1 : Pc RQ W2 (some ⟨g, 0, none⟩) (K.ps.take k) := by have := HD2.out.rp.piece rfl 0 k (by omega); simpa using this
      have HP1 : Hid (Pc RQ W2 (some ⟨g, 0, none⟩) (K.ps.take k)) := hP1
      clear hP1
      have HPD : Hid (∀ V, Below W2.heap.size W2 V → Pc RQ V (some ⟨g, k * 2, none⟩) (K.ps.drop k)) := fun V hB => by
        have := (HD2.out.below hB).rp.piece rfl k (K.ps.length - k) (by omega)
        rw [List.take_of_length_le (by simp)] at this
        exact this
      have HZ : Hid (Below W2.heap.size W2 (W2.alloc (.cells #[] 68))) := (Below.refl _ _).alloc (Nat.le_refl _) _
      have hO0 : Ro RQ W2.heap.size (W2.alloc (.cells #[] 68)) (.slice (some ⟨W2.heap.size, 0, none⟩) 0 0) [] :=
        ⟨by simp, .inr ⟨W2.heap.size, 0, #[], rfl, Nat.le_refl _, heap_alloc_new W2 _, by simp, by unfold maxLen; omega, by simp, by simp⟩⟩
      have HO0 : Hid (Ro RQ W2.heap.size (W2.alloc (.cells #[] 68)) (.slice (some ⟨W2.heap.size, 0, none⟩) 0 0) []) := hO0
      clear hO0
      go_wp2_with (at_builtin; first | (refine wpList_append_pc RQ rfl _ _ rfl W2.heap.size _ [] (K.ps.take k) rfl HO0.out _ _ _ rfl (by rw [HTL.out]) (HP1.out.below HZ.out) (by intro ad e; cases e <;> rfl) (by intro e; first | rfl | cases e) (by simp; omega) (by simp) ?_; intro v3 W3 hR3 hg3 ho3; obtain ⟨a3', c3', rfl, -, -⟩ := hR3.shape; rw [List.nil_append, HTL.out] at hR3; have hB3 : Below W2.heap.size W2 W3 := HZ.out.grown hg3 (by simp) (fun q e => by cases e; exact Nat.le_refl _); have HB3 : Hid (Below W2.heap.size W2 W3) := hB3; have HR3 : Hid (Ro RQ W2.heap.size W3 (.slice a3' k c3') (K.ps.take k)) := hR3; obtain ⟨a0, a1, a2, a3, a4, a5⟩ := (HC2.out.below hB3).cells; obtain ⟨c0, c1⟩ := (HD2.out.below hB3).cells; have hf3 := (HD2.out.below hB3).free.1; have ld3 : d < W3.heap.size := Nat.lt_of_lt_of_le ld hB3.size; have lw3 : W.heap.size + 1 < W3.heap.size := Nat.lt_of_lt_of_le lr hB3.size; have lw30 : W.heap.size < W3.heap.size := Nat.lt_of_lt_of_le lw hB3.size; dsimp only at a0 a1 a2 a3 a4 a5; clear hR3 hg3 ho3 hB3 HO0 HP1 HZ; rw [List.nil_append, HTL.out]) | (refine wpList_append_ro RQ rfl _ _ rfl W2.heap.size (.slice a3' k c3') (K.ps.take k) (ky, vl) rfl HR3.out rfl rfl (by rw [HTL.out]; omega) HB3.out.size ?_; intro v4 W4 hR4 hg4 ho4; obtain ⟨a4', c4', rfl, -, -⟩ := hR4.shape; rw [List.length_append, HTL.out, List.length_singleton] at hR4; have hB4 : Below W2.heap.size W2 W4 := (HB3.out.trans ((Below.refl _ _).alloc HB3.out.size _)).grown hg4 (by have := HB3.out.size; simp; omega) (fun q e => (HR3.out.lt e).1); have HB4 : Hid (Below W2.heap.size W2 W4) := hB4; have HR4 : Hid (Ro RQ W2.heap.size W4 (.slice a4' (k + 1) c4') (K.ps.take k ++ [(ky, vl)])) := hR4; obtain ⟨c0, c1⟩ := (HD2.out.below hB4).cells; have hf4 := (HD2.out.below hB4).free.1; have ld4 : d < W4.heap.size := Nat.lt_of_lt_of_le ld hB4.size; obtain ⟨m0, m1⟩ := (HX2.out.below hB4).cells; obtain ⟨f0, f1⟩ := (HX2.out.below hB4).free; have lw4 : W.heap.size + 1 < W4.heap.size := Nat.lt_of_lt_of_le lr hB4.size; clear hR4 hg4 ho4 hB4 HB3 HR3; rw [List.length_append, HTL.out, List.length_singleton]) | (refine wpList_append_pc RQ rfl _ _ rfl W2.heap.size (.slice a4' (k + 1) c4') (K.ps.take k ++ [(ky, vl)]) (K.ps.drop k) rfl HR4.out _ _ _ rfl (by simp <;> omega) (HPD.out _ HB4.out) (by intro ad e; cases e <;> rfl) (by intro e; first | rfl | cases e) (by simp <;> omega) HB4.out.size ?_; intro v5 W5 hR5 hg5 ho5; obtain ⟨a5', c5', rfl, -, -⟩ := hR5.shape; have hB5 : Below W2.heap.size W2 W5 := HB4.out.grown hg5 HB4.out.size (fun q e => (HR4.out.lt e).1); have HB5 : Hid (Below W2.heap.size W2 W5) := hB5; have HR5 : Hid (Ro RQ W2.heap.size W5 (.slice a5' (K.ps.take k ++ [(ky, vl)] ++ K.ps.drop k).length c5') (K.ps.take k ++ [(ky, vl)] ++ K.ps.drop k)) := hR5; obtain ⟨c0, c1⟩ := (HD2.out.below hB5).cells; have hf5 := (HD2.out.below hB5).free.1; have ld5 : d < W5.heap.size := Nat.lt_of_lt_of_le ld hB5.size; obtain ⟨m0, m1⟩ := (HX2.out.below hB5).cells; obtain ⟨f0, f1⟩ := (HX2.out.below hB5).free; clear hR5 hg5 ho5 hB5))
      refine bodyPost_ret (v := .agg #[.int .i64 1, .string ⟨[].toArray⟩]) (by simp [results, Tryz.results41, go_sem, m0, m1]) rfl ?_
      have hll : (K.ps.take k ++ [(ky, vl)] ++ K.ps.drop k).length = k + (K.ps.length - k + 1) := by simp; omega
      have HR6 : Ro RQ W2.heap.size W5 (.slice a5' (k + (K.ps.length - k + 1)) c5') (K.ps.take k ++ (ky, vl) :: K.ps.drop k) := by have := HR5.out; rw [hll] at this; simpa using this
      exact DoR.new (r := ⟨1, []⟩) HD2.out HNN.out hd0 HB2.out HB5.out HR6 (Nat.le_succ _) (HX2.out.below HB5.out) lr


end Go.Proofs.YtglhjgfaelfleaaGreat
namespace Go.Proofs.YtglhjgfaelfleaaGreat
open Go.RowKit
set_option linter.unusedVariables false

set_option maxRecDepth 100000 in
set_option maxHeartbeats 800000 in
theorem rd_del {N : Nat} {W : World} {d : Nat} {vp vs : Value} {K : KV} (h : DS N W d vp vs K) (hN : N ≤ W.heap.size) (op cl sq : Int) (ky vl od : Bs) (hth : atP ky K.ps = true) (hlt : plc ky K.ps < K.ps.length) (h2 : op = 3) :
    Calls Tryz.prog 41 #[.pointer (some ⟨d, 0, none⟩), .agg #[.int .i64 op, .int .i64 cl, .int .i64 sq, .string ⟨ky.toArray⟩, .string ⟨vl.toArray⟩, .string ⟨od.toArray⟩]] W fun e w' => DoR N W d vp vs K (K.ps.take (plc ky K.ps) ++ K.ps.drop (plc ky K.ps + 1), ⟨1, []⟩) e w' := by
  have HCA : Hid (∀ V, Below W.heap.size W V → Calls Tryz.prog 71 #[.pointer (some ⟨d, 0, none⟩), .string ⟨ky.toArray⟩] V fun e w' => e = .returned (.tuple #[.int .i64 (plc ky K.ps : Int), .bool (atP ky K.ps)]) ∧ Below V.heap.size V w') := fun V hB => at_any (h.below hB) ky
  rw [hth] at HCA
  have HD : Hid (DS N W d vp vs K) := h
  have hfew := h.ok.few
  have hpl := plc_le ky K.ps
  obtain ⟨pa, pc, rfl, -, -⟩ := h.rp.shape
  have HNN : Hid (N ≤ W.heap.size) := hN
  clear h hN hth
  obtain ⟨W1, HW1⟩ : ∃ W1, Hid ((W.alloc (.cells #[.int .i64 op, .int .i64 cl, .int .i64 sq, .string ⟨ky.toArray⟩, .string ⟨vl.toArray⟩, .string ⟨od.toArray⟩] 44)).alloc (.cells #[.int .i64 0, .string ⟨[].toArray⟩] 40) = W1) := ⟨_, rfl⟩
  have HB1 : Hid (Below W.heap.size W W1) := by rw [← HW1.out]; exact Below.alloc' (Below.alloc' (Below.refl _ _) _) _
  have HC1 : Hid (Dc W1 W.heap.size op cl sq ky vl od) := by rw [← HW1.out]; exact Dc.below (heap_alloc_new W _) ((Below.refl _ _).alloc (Nat.le_refl _) _)
  have HX1 : Hid (Rb W1 (W.heap.size + 1) 0 []) := by rw [← HW1.out]; exact box2 W _ _
  subst h2
  generalize plc ky K.ps = k at *
  have hk0 : (0 : Int) ≤ (k : Int) := by omega
  have hk1 : (k : Int) ≤ (K.ps.length : Int) := by omega
  have hk2 : (k : Int) + 1 ≤ (K.ps.length : Int) := by omega
  have hk3 : (0 : Int) ≤ (k : Int) + 1 := by omega
  have hk4 : IntKind.i64.wrap ((k : Int) + 1) = (k : Int) + 1 := by rw [IntKind.wrap_i64]; omega
  have hk5 : ((k : Int) + 1).toNat = k + 1 := by omega
  have HTL : Hid ((K.ps.take k).length = k) := by show _ = _; simp; omega
  rcases HD.out.rp.2 with ⟨hv, hz⟩ | ⟨g, cp, cur, hv, hgN, hgb, hcc, hcm, -⟩
  · omega
  simp only [Value.slice.injEq] at hv
  obtain ⟨hpa, -, hpc⟩ := hv
  subst hpa
  subst cp
  have hkc : (k : Int) ≤ (pc : Int) := by omega
  have hkc2 : (k : Int) + 1 ≤ (pc : Int) := by omega
  by_cases hkp : k + 1 = pc
  · subst hkp
    go_enter Tryz.func41, Tryz.ntmps41
    go_wp2_with fail
    rw [HW1.out]
    refine (HCA.out W1 HB1.out).mono ?_
    rintro e W2 ⟨rfl, hB2⟩
    have HB2 : Hid (Below W.heap.size W W2) := HB1.out.trans (hB2.mono HB1.out.size)
    have hb2 : Rb W2 (W.heap.size + 1) 0 [] := HX1.out.below hB2
    have HX2 : Hid (Rb W2 (W.heap.size + 1) 0 []) := hb2
    have HC2 : Hid (Dc W2 W.heap.size _ cl sq ky vl _) := HC1.out.below hB2
    obtain ⟨m0, m1⟩ := hb2.cells
    obtain ⟨f0, f1⟩ := hb2.free
    obtain ⟨a0, a1, a2, a3, a4, a5⟩ := HC2.out.cells
    dsimp only at a0 a1 a2 a3 a4 a5
    have HD2 : Hid (DS N W2 d _ vs _) := HD.out.below HB2.out
    obtain ⟨c0, c1⟩ := HD2.out.cells
    have lr : W.heap.size + 1 < W2.heap.size := (Array.getElem?_eq_some_iff.1 hb2).1
    have ld : d < W2.heap.size := (Array.getElem?_eq_some_iff.1 HD2.out.hd).1
    have lw : W.heap.size < W2.heap.size := by omega
    have hd0 : d < W.heap.size := (Array.getElem?_eq_some_iff.1 HD.out.hd).1
    have hdn : ¬ d = W.heap.size + 1 := by omega
    have hdn' : ¬ W.heap.size + 1 = d := by omega
    clear hB2 HB1 HX1 HW1 HCA hb2 HC1
    have hP1 : Pc RQ W2 (some ⟨g, 0, none⟩) (K.ps.take k) := by have := HD2.out.rp.piece rfl 0 k (by omega); simpa using this
    have HP1 : Hid (Pc RQ W2 (some ⟨g, 0, none⟩) (K.ps.take k)) := hP1
    clear hP1
    have HPD : Hid (∀ V, Below W2.heap.size W2 V → Pc RQ V (some ⟨g, 0, none⟩) (K.ps.drop (k + 1))) := fun V hB => .inl (List.drop_eq_nil_of_le (by omega))
    have HZ : Hid (Below W2.heap.size W2 (W2.alloc (.cells #[] 68))) := (Below.refl _ _).alloc (Nat.le_refl _) _
    have hO0 : Ro RQ W2.heap.size (W2.alloc (.cells #[] 68)) (.slice (some ⟨W2.heap.size, 0, none⟩) 0 0) [] :=
      ⟨by simp, .inr ⟨W2.heap.size, 0, #[], rfl, Nat.le_refl _, heap_alloc_new W2 _, by simp, by unfold maxLen; omega, by simp, by simp⟩⟩
    have HO0 : Hid (Ro RQ W2.heap.size (W2.alloc (.cells #[] 68)) (.slice (some ⟨W2.heap.size, 0, none⟩) 0 0) []) := hO0
    clear hO0
    go_wp2_with (at_builtin; first | (refine wpList_append_pc RQ rfl _ _ rfl W2.heap.size _ [] (K.ps.take k) rfl HO0.out _ _ _ rfl (by rw [HTL.out]) (HP1.out.below HZ.out) (by intro ad e; cases e <;> rfl) (by intro e; first | rfl | cases e) (by simp; omega) (by simp) ?_; intro v3 W3 hR3 hg3 ho3; obtain ⟨a3', c3', rfl, -, -⟩ := hR3.shape; rw [List.nil_append, HTL.out] at hR3; have hB3 : Below W2.heap.size W2 W3 := HZ.out.grown hg3 (by simp) (fun q e => by cases e; exact Nat.le_refl _); have HB3 : Hid (Below W2.heap.size W2 W3) := hB3; have HR3 : Hid (Ro RQ W2.heap.size W3 (.slice a3' k c3') (K.ps.take k)) := hR3; obtain ⟨a0, a1, a2, a3, a4, a5⟩ := (HC2.out.below hB3).cells; obtain ⟨c0, c1⟩ := (HD2.out.below hB3).cells; have hf3 := (HD2.out.below hB3).free.1; have ld3 : d < W3.heap.size := Nat.lt_of_lt_of_le ld hB3.size; have lw3 : W.heap.size + 1 < W3.heap.size := Nat.lt_of_lt_of_le lr hB3.size; have lw30 : W.heap.size < W3.heap.size := Nat.lt_of_lt_of_le lw hB3.size; dsimp only at a0 a1 a2 a3 a4 a5; clear hR3 hg3 ho3 hB3 HO0 HP1 HZ; rw [List.nil_append, HTL.out]) | (refine wpList_append_pc RQ rfl _ _ rfl W2.heap.size (.slice a3' k c3') (K.ps.take k) (K.ps.drop (k + 1)) rfl HR3.out _ _ _ rfl (by simp <;> omega) (HPD.out _ HB3.out) (by intro ad e; cases e <;> rfl) (by intro e; first | rfl | cases e) (by simp <;> omega) HB3.out.size ?_; intro v5 W5 hR5 hg5 ho5; obtain ⟨a5', c5', rfl, -, -⟩ := hR5.shape; have hB5 : Below W2.heap.size W2 W5 := HB3.out.grown hg5 HB3.out.size (fun q e => (HR3.out.lt e).1); have HB5 : Hid (Below W2.heap.size W2 W5) := hB5; have HR5 : Hid (Ro RQ W2.heap.size W5 (.slice a5' (K.ps.take k ++ K.ps.drop (k + 1)).length c5') (K.ps.take k ++ K.ps.drop (k + 1))) := hR5; obtain ⟨c0, c1⟩ := (HD2.out.below hB5).cells; have hf5 := (HD2.out.below hB5).free.1; have ld5 : d < W5.heap.size := Nat.lt_of_lt_of_le ld hB5.size; obtain ⟨m0, m1⟩ := (HX2.out.below hB5).cells; obtain ⟨f0, f1⟩ := (HX2.out.below hB5).free; clear hR5 hg5 ho5 hB5))
    refine bodyPost_ret (v := .agg #[.int .i64 1, .string ⟨[].toArray⟩]) (by simp [results, Tryz.results41, go_sem, m0, m1]) rfl ?_
    have hll : (K.ps.take k ++ K.ps.drop (k + 1)).length = k := by simp; omega
    have HR6 : Ro RQ W2.heap.size W5 (.slice a5' (k) c5') (K.ps.take k ++ K.ps.drop (k + 1)) := by have := HR5.out; rw [hll] at this; simpa using this
    exact DoR.new (r := ⟨1, []⟩) HD2.out HNN.out hd0 HB2.out HB5.out HR6 (Nat.le_succ _) (HX2.out.below HB5.out) lr

  · have hkp' : k + 1 < pc := by omega
    have hkp2 : ¬ pc = k + 1 := by omega
    go_enter Tryz.func41, Tryz.ntmps41
    go_wp2_with fail
    rw [HW1.out]
    refine (HCA.out W1 HB1.out).mono ?_
    rintro e W2 ⟨rfl, hB2⟩
    have HB2 : Hid (Below W.heap.size W W2) := HB1.out.trans (hB2.mono HB1.out.size)
    have hb2 : Rb W2 (W.heap.size + 1) 0 [] := HX1.out.below hB2
    have HX2 : Hid (Rb W2 (W.heap.size + 1) 0 []) := hb2
    have HC2 : Hid (Dc W2 W.heap.size _ cl sq ky vl _) := HC1.out.below hB2
    obtain ⟨m0, m1⟩ := hb2.cells
    obtain ⟨f0, f1⟩ := hb2.free
    obtain ⟨a0, a1, a2, a3, a4, a5⟩ := HC2.out.cells
    dsimp only at a0 a1 a2 a3 a4 a5
    have HD2 : Hid (DS N W2 d _ vs _) := HD.out.below HB2.out
    obtain ⟨c0, c1⟩ := HD2.out.cells
    have lr : W.heap.size + 1 < W2.heap.size := (Array.getElem?_eq_some_iff.1 hb2).1
    have ld : d < W2.heap.size := (Array.getElem?_eq_some_iff.1 HD2.out.hd).1
    have lw : W.heap.size < W2.heap.size := by omega
    have hd0 : d < W.heap.size := (Array.getElem?_eq_some_iff.1 HD.out.hd).1
    have hdn : ¬ d = W.heap.size + 1 := by omega
    have hdn' : ¬ W.heap.size + 1 = d := by omega
    clear hB2 HB1 HX1 HW1 HCA hb2 HC1
    have hP1 : Pc RQ W2 (some ⟨g, 0, none⟩) (K.ps.take k) := by have := HD2.out.rp.piece rfl 0 k (by omega); simpa using this
    have HP1 : Hid (Pc RQ W2 (some ⟨g, 0, none⟩) (K.ps.take k)) := hP1
    clear hP1
    have HPD : Hid (∀ V, Below W2.heap.size W2 V → Pc RQ V (some ⟨g, (k + 1) * 2, none⟩) (K.ps.drop (k + 1))) := fun V hB => by
      have := (HD2.out.below hB).rp.piece rfl (k + 1) (K.ps.length - (k + 1)) (by omega)
      rw [List.take_of_length_le (by simp)] at this
      exact this
    have HZ : Hid (Below W2.heap.size W2 (W2.alloc (.cells #[] 68))) := (Below.refl _ _).alloc (Nat.le_refl _) _
    have hO0 : Ro RQ W2.heap.size (W2.alloc (.cells #[] 68)) (.slice (some ⟨W2.heap.size, 0, none⟩) 0 0) [] :=
      ⟨by simp, .inr ⟨W2.heap.size, 0, #[], rfl, Nat.le_refl _, heap_alloc_new W2 _, by simp, by unfold maxLen; omega, by simp, by simp⟩⟩
    have HO0 : Hid (Ro RQ W2.heap.size (W2.alloc (.cells #[] 68)) (.slice (some ⟨W2.heap.size, 0, none⟩) 0 0) []) := hO0
    clear hO0
    go_wp2_with (at_builtin; first | (refine wpList_append_pc RQ rfl _ _ rfl W2.heap.size _ [] (K.ps.take k) rfl HO0.out _ _ _ rfl (by rw [HTL.out]) (HP1.out.below HZ.out) (by intro ad e; cases e <;> rfl) (by intro e; first | rfl | cases e) (by simp; omega) (by simp) ?_; intro v3 W3 hR3 hg3 ho3; obtain ⟨a3', c3', rfl, -, -⟩ := hR3.shape; rw [List.nil_append, HTL.out] at hR3; have hB3 : Below W2.heap.size W2 W3 := HZ.out.grown hg3 (by simp) (fun q e => by cases e; exact Nat.le_refl _); have HB3 : Hid (Below W2.heap.size W2 W3) := hB3; have HR3 : Hid (Ro RQ W2.heap.size W3 (.slice a3' k c3') (K.ps.take k)) := hR3; obtain ⟨a0, a1, a2, a3, a4, a5⟩ := (HC2.out.below hB3).cells; obtain ⟨c0, c1⟩ := (HD2.out.below hB3).cells; have hf3 := (HD2.out.below hB3).free.1; have ld3 : d < W3.heap.size := Nat.lt_of_lt_of_le ld hB3.size; have lw3 : W.heap.size + 1 < W3.heap.size := Nat.lt_of_lt_of_le lr hB3.size; have lw30 : W.heap.size < W3.heap.size := Nat.lt_of_lt_of_le lw hB3.size; dsimp only at a0 a1 a2 a3 a4 a5; clear hR3 hg3 ho3 hB3 HO0 HP1 HZ; rw [List.nil_append, HTL.out]) | (refine wpList_append_pc RQ rfl _ _ rfl W2.heap.size (.slice a3' k c3') (K.ps.take k) (K.ps.drop (k + 1)) rfl HR3.out _ _ _ rfl (by simp <;> omega) (HPD.out _ HB3.out) (by intro ad e; cases e <;> rfl) (by intro e; first | rfl | cases e) (by simp <;> omega) HB3.out.size ?_; intro v5 W5 hR5 hg5 ho5; obtain ⟨a5', c5', rfl, -, -⟩ := hR5.shape; have hB5 : Below W2.heap.size W2 W5 := HB3.out.grown hg5 HB3.out.size (fun q e => (HR3.out.lt e).1); have HB5 : Hid (Below W2.heap.size W2 W5) := hB5; have HR5 : Hid (Ro RQ W2.heap.size W5 (.slice a5' (K.ps.take k ++ K.ps.drop (k + 1)).length c5') (K.ps.take k ++ K.ps.drop (k + 1))) := hR5; obtain ⟨c0, c1⟩ := (HD2.out.below hB5).cells; have hf5 := (HD2.out.below hB5).free.1; have ld5 : d < W5.heap.size := Nat.lt_of_lt_of_le ld hB5.size; obtain ⟨m0, m1⟩ := (HX2.out.below hB5).cells; obtain ⟨f0, f1⟩ := (HX2.out.below hB5).free; clear hR5 hg5 ho5 hB5))
    refine bodyPost_ret (v := .agg #[.int .i64 1, .string ⟨[].toArray⟩]) (by simp [results, Tryz.results41, go_sem, m0, m1]) rfl ?_
    have hll : (K.ps.take k ++ K.ps.drop (k + 1)).length = k + (K.ps.length - (k + 1)) := by simp; omega
    have HR6 : Ro RQ W2.heap.size W5 (.slice a5' (k + (K.ps.length - (k + 1))) c5') (K.ps.take k ++ K.ps.drop (k + 1)) := by have := HR5.out; rw [hll] at this; simpa using this
    exact DoR.new (r := ⟨1, []⟩) HD2.out HNN.out hd0 HB2.out HB5.out HR6 (Nat.le_succ _) (HX2.out.below HB5.out) lr


end Go.Proofs.YtglhjgfaelfleaaGreat
namespace Go.Proofs.YtglhjgfaelfleaaGreat
open Go.RowKit
set_option linter.unusedVariables false

set_option maxRecDepth 100000 in
set_option maxHeartbeats 800000 in
theorem rd_oth {N : Nat} {W : World} {d : Nat} {vp vs : Value} {K : KV} (h : DS N W d vp vs K) (hN : N ≤ W.heap.size) (op cl sq : Int) (ky vl od : Bs) (hth : atP ky K.ps = true) (hlt : plc ky K.ps < K.ps.length) (h2 : op = 4) (pk pv : Bs) (hp : K.ps[plc ky K.ps] = (pk, pv)) (ho : ¬ pv = od) :
    Calls Tryz.prog 41 #[.pointer (some ⟨d, 0, none⟩), .agg #[.int .i64 op, .int .i64 cl, .int .i64 sq, .string ⟨ky.toArray⟩, .string ⟨vl.toArray⟩, .string ⟨od.toArray⟩]] W fun e w' => DoR N W d vp vs K (K.ps, ⟨3, pv⟩) e w' := by
  have HCA : Hid (∀ V, Below W.heap.size W V → Calls Tryz.prog 71 #[.pointer (some ⟨d, 0, none⟩), .string ⟨ky.toArray⟩] V fun e w' => e = .returned (.tuple #[.int .i64 (plc ky K.ps : Int), .bool (atP ky K.ps)]) ∧ Below V.heap.size V w') := fun V hB => at_any (h.below hB) ky
  rw [hth] at HCA
  have HD : Hid (DS N W d vp vs K) := h
  have hfew := h.ok.few
  have hpl := plc_le ky K.ps
  obtain ⟨pa, pc, rfl, -, -⟩ := h.rp.shape
  have HNN : Hid (N ≤ W.heap.size) := hN
  clear h hN hth
  obtain ⟨W1, HW1⟩ : ∃ W1, Hid ((W.alloc (.cells #[.int .i64 op, .int .i64 cl, .int .i64 sq, .string ⟨ky.toArray⟩, .string ⟨vl.toArray⟩, .string ⟨od.toArray⟩] 44)).alloc (.cells #[.int .i64 0, .string ⟨[].toArray⟩] 40) = W1) := ⟨_, rfl⟩
  have HB1 : Hid (Below W.heap.size W W1) := by rw [← HW1.out]; exact Below.alloc' (Below.alloc' (Below.refl _ _) _) _
  have HC1 : Hid (Dc W1 W.heap.size op cl sq ky vl od) := by rw [← HW1.out]; exact Dc.below (heap_alloc_new W _) ((Below.refl _ _).alloc (Nat.le_refl _) _)
  have HX1 : Hid (Rb W1 (W.heap.size + 1) 0 []) := by rw [← HW1.out]; exact box2 W _ _
  subst h2
  have HP : Hid (K.ps[plc ky K.ps] = (pk, pv)) := hp
  clear hp
  generalize plc ky K.ps = k at *
  have hob : (pv == od) = false := by simpa using ho
  have hob2 : ¬ od = pv := fun e => ho e.symm
  go_enter Tryz.func41, Tryz.ntmps41
  go_wp2_with fail
  rw [HW1.out]
  refine (HCA.out W1 HB1.out).mono ?_
  rintro e W2 ⟨rfl, hB2⟩
  have HB2 : Hid (Below W.heap.size W W2) := HB1.out.trans (hB2.mono HB1.out.size)
  have hb2 : Rb W2 (W.heap.size + 1) 0 [] := HX1.out.below hB2
  have HX2 : Hid (Rb W2 (W.heap.size + 1) 0 []) := hb2
  have HC2 : Hid (Dc W2 W.heap.size _ cl sq ky vl _) := HC1.out.below hB2
  obtain ⟨m0, m1⟩ := hb2.cells
  obtain ⟨f0, f1⟩ := hb2.free
  obtain ⟨a0, a1, a2, a3, a4, a5⟩ := HC2.out.cells
  dsimp only at a0 a1 a2 a3 a4 a5
  have HD2 : Hid (DS N W2 d _ vs _) := HD.out.below HB2.out
  obtain ⟨c0, c1⟩ := HD2.out.cells
  have lr : W.heap.size + 1 < W2.heap.size := (Array.getElem?_eq_some_iff.1 hb2).1
  have ld : d < W2.heap.size := (Array.getElem?_eq_some_iff.1 HD2.out.hd).1
  have lw : W.heap.size < W2.heap.size := by omega
  have hd0 : d < W.heap.size := (Array.getElem?_eq_some_iff.1 HD.out.hd).1
  have hdn : ¬ d = W.heap.size + 1 := by omega
  have hdn' : ¬ W.heap.size + 1 = d := by omega
  clear hB2 HB1 HX1 HW1 HCA hb2 HC1
  obtain ⟨g, cp, hv, -, hgl, hgx, hcell⟩ := HD2.out.rp.at0 (by omega)
  simp only [Value.slice.injEq] at hv
  obtain ⟨hpa, -, -⟩ := hv
  subst hpa
  have x1 := hcell k 1 hlt (by decide)
  rw [HP.out] at x1
  have x1' : W2.cell? ⟨g, k * 2 + 1, none⟩ = some (.string ⟨pv.toArray⟩) := x1
  have hlt' : (k : Int) < (K.ps.length : Int) := by omega
  have hi0 : (0 : Int) ≤ (k : Int) := by omega
  clear hcell x1
  go_wp2_with fail
  go_quiet (fail)
  go_wp2
  refine bodyPost_ret (v := .agg #[.int .i64 3, .string ⟨pv.toArray⟩]) (by simp [results, Tryz.results41, go_sem, m0, m1]) rfl ?_
  exact DoR.keep (r := ⟨3, pv⟩) HD.out (below_set2 (Below.drewN' HB2.out _) (by omega))

end Go.Proofs.YtglhjgfaelfleaaGreat
namespace Go.Proofs.YtglhjgfaelfleaaGreat
open Go.RowKit
set_option linter.unusedVariables false

set_option maxRecDepth 100000 in
set_option maxHeartbeats 800000 in
theorem rd_set2 {N : Nat} {W : World} {d : Nat} {vp vs : Value} {K : KV} (h : DS N W d vp vs K) (hN : N ≤ W.heap.size) (op cl sq : Int) (ky vl od : Bs) (hth : atP ky K.ps = true) (hlt : plc ky K.ps < K.ps.length) (h2 : op = 2) (pk pv : Bs) (hp : K.ps[plc ky K.ps] = (pk, pv)) (hpk : pk = ky) :
    Calls Tryz.prog 41 #[.pointer (some ⟨d, 0, none⟩), .agg #[.int .i64 op, .int .i64 cl, .int .i64 sq, .string ⟨ky.toArray⟩, .string ⟨vl.toArray⟩, .string ⟨od.toArray⟩]] W fun e w' => DoR N W d vp vs K (K.ps.set (plc ky K.ps) (ky, vl), ⟨1, []⟩) e w' := by
  have HCA : Hid (∀ V, Below W.heap.size W V → Calls Tryz.prog 71 #[.pointer (some ⟨d, 0, none⟩), .string ⟨ky.toArray⟩] V fun e w' => e = .returned (.tuple #[.int .i64 (plc ky K.ps : Int), .bool (atP ky K.ps)]) ∧ Below V.heap.size V w') := fun V hB => at_any (h.below hB) ky
  rw [hth] at HCA
  have HD : Hid (DS N W d vp vs K) := h
  have hfew := h.ok.few
  have hpl := plc_le ky K.ps
  obtain ⟨pa, pc, rfl, -, -⟩ := h.rp.shape
  have HNN : Hid (N ≤ W.heap.size) := hN
  clear h hN hth
  obtain ⟨W1, HW1⟩ : ∃ W1, Hid ((W.alloc (.cells #[.int .i64 op, .int .i64 cl, .int .i64 sq, .string ⟨ky.toArray⟩, .string ⟨vl.toArray⟩, .string ⟨od.toArray⟩] 44)).alloc (.cells #[.int .i64 0, .string ⟨[].toArray⟩] 40) = W1) := ⟨_, rfl⟩
  have HB1 : Hid (Below W.heap.size W W1) := by rw [← HW1.out]; exact Below.alloc' (Below.alloc' (Below.refl _ _) _) _
  have HC1 : Hid (Dc W1 W.heap.size op cl sq ky vl od) := by rw [← HW1.out]; exact Dc.below (heap_alloc_new W _) ((Below.refl _ _).alloc (Nat.le_refl _) _)
  have HX1 : Hid (Rb W1 (W.heap.size + 1) 0 []) := by rw [← HW1.out]; exact box2 W _ _
  subst h2
  subst pk
  have HP : Hid (K.ps[plc ky K.ps] = (ky, pv)) := hp
  clear hp
  generalize plc ky K.ps = k at *
  go_enter Tryz.func41, Tryz.ntmps41
  go_wp2_with fail
  rw [HW1.out]
  refine (HCA.out W1 HB1.out).mono ?_
  rintro e W2 ⟨rfl, hB2⟩
  have HB2 : Hid (Below W.heap.size W W2) := HB1.out.trans (hB2.mono HB1.out.size)
  have hb2 : Rb W2 (W.heap.size + 1) 0 [] := HX1.out.below hB2
  have HX2 : Hid (Rb W2 (W.heap.size + 1) 0 []) := hb2
  have HC2 : Hid (Dc W2 W.heap.size _ cl sq ky vl _) := HC1.out.below hB2
  obtain ⟨m0, m1⟩ := hb2.cells
  obtain ⟨f0, f1⟩ := hb2.free
  obtain ⟨a0, a1, a2, a3, a4, a5⟩ := HC2.out.cells
  dsimp only at a0 a1 a2 a3 a4 a5
  have HD2 : Hid (DS N W2 d _ vs _) := HD.out.below HB2.out
  obtain ⟨c0, c1⟩ := HD2.out.cells
  have lr : W.heap.size + 1 < W2.heap.size := (Array.getElem?_eq_some_iff.1 hb2).1
  have ld : d < W2.heap.size := (Array.getElem?_eq_some_iff.1 HD2.out.hd).1
  have lw : W.heap.size < W2.heap.size := by omega
  have hd0 : d < W.heap.size := (Array.getElem?_eq_some_iff.1 HD.out.hd).1
  have hdn : ¬ d = W.heap.size + 1 := by omega
  have hdn' : ¬ W.heap.size + 1 = d := by omega
  clear hB2 HB1 HX1 HW1 HCA hb2 HC1
  obtain ⟨g, cp, hv, -, hgl, hgx, hcell⟩ := HD2.out.rp.at0 (by omega)
  simp only [Value.slice.injEq] at hv
  obtain ⟨hpa, -, -⟩ := hv
  subst hpa
  have x1 := hcell k 1 hlt (by decide)
  rw [HP.out] at x1
  have x1' : W2.cell? ⟨g, k * 2 + 1, none⟩ = some (.string ⟨pv.toArray⟩) := x1
  have hlt' : (k : Int) < (K.ps.length : Int) := by omega
  have hi0 : (0 : Int) ≤ (k : Int) := by omega
  have hfz : W2.frozen? ⟨g, k * 2 + 1, none⟩ = false := by obtain ⟨cur, hcur⟩ := hgx; simp [World.frozen?, hcur]
  have hgd : ¬ g = d := fun e => HD2.out.rp.apart HD2.out.hd (by decide) (by rw [← e]; rfl)
  have hgd' : ¬ d = g := fun e => hgd e.symm
  have hgW : ¬ g = W.heap.size := fun e => HD2.out.rp.apart HC2.out (by decide) (by rw [← e]; rfl)
  have hgW' : ¬ W.heap.size = g := fun e => hgW e.symm
  have hgX : ¬ g = W.heap.size + 1 := fun e => HD2.out.rp.apart HX2.out (by decide) (by rw [← e]; rfl)
  have hgX' : ¬ W.heap.size + 1 = g := fun e => hgX e.symm
  have HSET : Hid (∀ n, Ro RQ N ((W2.drewN n).setCell ⟨g, k * 2 + 1, none⟩ (.string ⟨vl.toArray⟩)) (.slice (some ⟨g, 0, none⟩) K.ps.length pc) (K.ps.set k (ky, vl))) := fun n => Ro.set (R := RQ) (HD2.out.rp.below (Below.drewN' (Below.refl _ _) n) (Nat.le_refl _)) k 1 hlt (by decide) _ _ (by rw [HP.out]; rfl)
  clear hcell x1
  go_wp2_with fail
  go_quiet (fail)
  go_wp2_with fail
  go_region_held3 (fun w' => w'.cell? ⟨d, 0, none⟩ = some (.slice (some ⟨g, 0, none⟩) K.ps.length pc) ∧ w'.cell? ⟨W.heap.size, 4, none⟩ = some (.string ⟨vl.toArray⟩)) (go_keep) (fail)
  have HR3 := HSET.out (nq + 1)
  have hO3 : Out (fun i => (Value.slice (some ⟨g, 0, none⟩) K.ps.length pc).ownBlock = some i) W2 ((W2.drewN (nq + 1)).setCell ⟨g, k * 2 + 1, none⟩ (.string ⟨vl.toArray⟩)) := (Out.of_below (Below.drewN' (Below.refl _ _) _)).trans (Out.set (X := fun i => i = g) rfl) (fun i hi _ => by subst hi; rfl)
  have hX3 : Rb ((W2.drewN (nq + 1)).setCell ⟨g, k * 2 + 1, none⟩ (.string ⟨vl.toArray⟩)) (W.heap.size + 1) 0 [] := (hO3.block _ lr (fun e => hgX (by simpa [Value.ownBlock] using e))).trans HX2.out
  have HR3' : Hid (Ro RQ N _ _ _) := HR3
  have HO3 : Hid (Out _ W2 _) := hO3
  clear m0 m1 f0 f1 HR3 HSET
  obtain ⟨m0, m1⟩ := hX3.cells
  obtain ⟨f0, f1⟩ := hX3.free
  clear hO3 hX3
  generalize (W2.drewN (nq + 1)).setCell ⟨g, k * 2 + 1, none⟩ (.string ⟨vl.toArray⟩) = W3 at *
  go_wp2
  refine bodyPost_ret (v := .agg #[.int .i64 1, .string ⟨[].toArray⟩]) (by simp [results, Tryz.results41, go_sem, m0, m1]) rfl ?_
  exact DoR.over (r := ⟨1, []⟩) HD2.out hd0 HB2.out HR3'.out HO3.out (Nat.le_succ _) HX2.out

set_option maxRecDepth 100000 in
set_option maxHeartbeats 800000 in
theorem rd_set4 {N : Nat} {W : World} {d : Nat} {vp vs : Value} {K : KV} (h : DS N W d vp vs K) (hN : N ≤ W.heap.size) (op cl sq : Int) (ky vl od : Bs) (hth : atP ky K.ps = true) (hlt : plc ky K.ps < K.ps.length) (h2 : op = 4) (pk pv : Bs) (hp : K.ps[plc ky K.ps] = (pk, pv)) (hpk : pk = ky) (ho : pv = od) :
    Calls Tryz.prog 41 #[.pointer (some ⟨d, 0, none⟩), .agg #[.int .i64 op, .int .i64 cl, .int .i64 sq, .string ⟨ky.toArray⟩, .string ⟨vl.toArray⟩, .string ⟨od.toArray⟩]] W fun e w' => DoR N W d vp vs K (K.ps.set (plc ky K.ps) (ky, vl), ⟨1, []⟩) e w' := by
  have HCA : Hid (∀ V, Below W.heap.size W V → Calls Tryz.prog 71 #[.pointer (some ⟨d, 0, none⟩), .string ⟨ky.toArray⟩] V fun e w' => e = .returned (.tuple #[.int .i64 (plc ky K.ps : Int), .bool (atP ky K.ps)]) ∧ Below V.heap.size V w') := fun V hB => at_any (h.below hB) ky
  rw [hth] at HCA
  have HD : Hid (DS N W d vp vs K) := h
  have hfew := h.ok.few
  have hpl := plc_le ky K.ps
  obtain ⟨pa, pc, rfl, -, -⟩ := h.rp.shape
  have HNN : Hid (N ≤ W.heap.size) := hN
  clear h hN hth
  obtain ⟨W1, HW1⟩ : ∃ W1, Hid ((W.alloc (.cells #[.int .i64 op, .int .i64 cl, .int .i64 sq, .string ⟨ky.toArray⟩, .string ⟨vl.toArray⟩, .string ⟨od.toArray⟩] 44)).alloc (.cells #[.int .i64 0, .string ⟨[].toArray⟩] 40) = W1) := ⟨_, rfl⟩
  have HB1 : Hid (Below W.heap.size W W1) := by rw [← HW1.out]; exact Below.alloc' (Below.alloc' (Below.refl _ _) _) _
  have HC1 : Hid (Dc W1 W.heap.size op cl sq ky vl od) := by rw [← HW1.out]; exact Dc.below (heap_alloc_new W _) ((Below.refl _ _).alloc (Nat.le_refl _) _)
  have HX1 : Hid (Rb W1 (W.heap.size + 1) 0 []) := by rw [← HW1.out]; exact box2 W _ _
  subst h2
  subst pk
  have HP : Hid (K.ps[plc ky K.ps] = (ky, pv)) := hp
  clear hp
  generalize plc ky K.ps = k at *
  subst ho
  go_enter Tryz.func41, Tryz.ntmps41
  go_wp2_with fail
  rw [HW1.out]
  refine (HCA.out W1 HB1.out).mono ?_
  rintro e W2 ⟨rfl, hB2⟩
  have HB2 : Hid (Below W.heap.size W W2) := HB1.out.trans (hB2.mono HB1.out.size)
  have hb2 : Rb W2 (W.heap.size + 1) 0 [] := HX1.out.below hB2
  have HX2 : Hid (Rb W2 (W.heap.size + 1) 0 []) := hb2
  have HC2 : Hid (Dc W2 W.heap.size _ cl sq ky vl _) := HC1.out.below hB2
  obtain ⟨m0, m1⟩ := hb2.cells
  obtain ⟨f0, f1⟩ := hb2.free
  obtain ⟨a0, a1, a2, a3, a4, a5⟩ := HC2.out.cells
  dsimp only at a0 a1 a2 a3 a4 a5
  have HD2 : Hid (DS N W2 d _ vs _) := HD.out.below HB2.out
  obtain ⟨c0, c1⟩ := HD2.out.cells
  have lr : W.heap.size + 1 < W2.heap.size := (Array.getElem?_eq_some_iff.1 hb2).1
  have ld : d < W2.heap.size := (Array.getElem?_eq_some_iff.1 HD2.out.hd).1
  have lw : W.heap.size < W2.heap.size := by omega
  have hd0 : d < W.heap.size := (Array.getElem?_eq_some_iff.1 HD.out.hd).1
  have hdn : ¬ d = W.heap.size + 1 := by omega
  have hdn' : ¬ W.heap.size + 1 = d := by omega
  clear hB2 HB1 HX1 HW1 HCA hb2 HC1
  obtain ⟨g, cp, hv, -, hgl, hgx, hcell⟩ := HD2.out.rp.at0 (by omega)
  simp only [Value.slice.injEq] at hv
  obtain ⟨hpa, -, -⟩ := hv
  subst hpa
  have x1 := hcell k 1 hlt (by decide)
  rw [HP.out] at x1
  have x1' : W2.cell? ⟨g, k * 2 + 1, none⟩ = some (.string ⟨pv.toArray⟩) := x1
  have hlt' : (k : Int) < (K.ps.length : Int) := by omega
  have hi0 : (0 : Int) ≤ (k : Int) := by omega
  have hfz : W2.frozen? ⟨g, k * 2 + 1, none⟩ = false := by obtain ⟨cur, hcur⟩ := hgx; simp [World.frozen?, hcur]
  have hgd : ¬ g = d := fun e => HD2.out.rp.apart HD2.out.hd (by decide) (by rw [← e]; rfl)
  have hgd' : ¬ d = g := fun e => hgd e.symm
  have hgW : ¬ g = W.heap.size := fun e => HD2.out.rp.apart HC2.out (by decide) (by rw [← e]; rfl)
  have hgW' : ¬ W.heap.size = g := fun e => hgW e.symm
  have hgX : ¬ g = W.heap.size + 1 := fun e => HD2.out.rp.apart HX2.out (by decide) (by rw [← e]; rfl)
  have hgX' : ¬ W.heap.size + 1 = g := fun e => hgX e.symm
  have HSET : Hid (∀ n, Ro RQ N ((W2.drewN n).setCell ⟨g, k * 2 + 1, none⟩ (.string ⟨vl.toArray⟩)) (.slice (some ⟨g, 0, none⟩) K.ps.length pc) (K.ps.set k (ky, vl))) := fun n => Ro.set (R := RQ) (HD2.out.rp.below (Below.drewN' (Below.refl _ _) n) (Nat.le_refl _)) k 1 hlt (by decide) _ _ (by rw [HP.out]; rfl)
  clear hcell x1
  go_wp2_with fail
  go_quiet (fail)
  go_wp2_with fail
  go_region_held3 (fun w' => w'.cell? ⟨d, 0, none⟩ = some (.slice (some ⟨g, 0, none⟩) K.ps.length pc) ∧ w'.cell? ⟨W.heap.size, 4, none⟩ = some (.string ⟨vl.toArray⟩)) (go_keep) (fail)
  have HR3 := HSET.out (nq + 1)
  have hO3 : Out (fun i => (Value.slice (some ⟨g, 0, none⟩) K.ps.length pc).ownBlock = some i) W2 ((W2.drewN (nq + 1)).setCell ⟨g, k * 2 + 1, none⟩ (.string ⟨vl.toArray⟩)) := (Out.of_below (Below.drewN' (Below.refl _ _) _)).trans (Out.set (X := fun i => i = g) rfl) (fun i hi _ => by subst hi; rfl)
  have hX3 : Rb ((W2.drewN (nq + 1)).setCell ⟨g, k * 2 + 1, none⟩ (.string ⟨vl.toArray⟩)) (W.heap.size + 1) 0 [] := (hO3.block _ lr (fun e => hgX (by simpa [Value.ownBlock] using e))).trans HX2.out
  have HR3' : Hid (Ro RQ N _ _ _) := HR3
  have HO3 : Hid (Out _ W2 _) := hO3
  clear m0 m1 f0 f1 HR3 HSET
  obtain ⟨m0, m1⟩ := hX3.cells
  obtain ⟨f0, f1⟩ := hX3.free
  clear hO3 hX3
  generalize (W2.drewN (nq + 1)).setCell ⟨g, k * 2 + 1, none⟩ (.string ⟨vl.toArray⟩) = W3 at *
  go_wp2
  refine bodyPost_ret (v := .agg #[.int .i64 1, .string ⟨[].toArray⟩]) (by simp [results, Tryz.results41, go_sem, m0, m1]) rfl ?_
  exact DoR.over (r := ⟨1, []⟩) HD2.out hd0 HB2.out HR3'.out HO3.out (Nat.le_succ _) HX2.out

end Go.Proofs.YtglhjgfaelfleaaGreat
namespace Go.Proofs.YtglhjgfaelfleaaGreat
open Go.RowKit
set_option linter.unusedVariables false

theorem rdoes_any {N : Nat} {W : World} {d : Nat} {vp vs : Value} {K : KV} (h : DS N W d vp vs K) (hN : N ≤ W.heap.size) (c : Cm) (hop : 2 ≤ c.op ∧ c.op ≤ 4) :
    Calls Tryz.prog 41 #[.pointer (some ⟨d, 0, none⟩), .agg #[.int .i64 c.op, .int .i64 c.cl, .int .i64 c.sq, .string ⟨c.key.toArray⟩, .string ⟨c.val.toArray⟩, .string ⟨c.old.toArray⟩]] W fun e w' => DoR N W d vp vs K (opK K.ps c) e w' := by
  obtain ⟨op, cl, sq, ky, vl, od⟩ := c
  dsimp only at hop ⊢
  rcases plc_look (key := ky) h.ris with ⟨hth, hlt, hk, hl⟩ | ⟨hth, hl⟩
  · have hst : putK kP (ky, vl) K.ps = K.ps.set (plc ky K.ps) (ky, vl) := put_place keyP (x := (ky, vl)) h.ris hlt (by show kP _ = kP _; simp only [kP]; exact congrArg _ hk)
    have hdl : delK kP (.string ky) K.ps = K.ps.take (plc ky K.ps) ++ K.ps.drop (plc ky K.ps + 1) := del_place keyP (k := .string ky) h.ris hlt (by show kP _ = _; simp only [kP]; exact congrArg _ hk)
    obtain ⟨pk, pv⟩ : ∃ p, K.ps[plc ky K.ps] = p := ⟨_, rfl⟩
    obtain ⟨pk, pw⟩ := pk
    have hpk : pk = ky := by rw [pv] at hk; exact hk
    by_cases h2 : op = 2
    · have e : opK K.ps ⟨op, cl, sq, ky, vl, od⟩ = (K.ps.set (plc ky K.ps) (ky, vl), ⟨1, []⟩) := by unfold opK; rw [if_pos h2, hl]; dsimp only; rw [hst]
      rw [e]
      exact rd_set2 h hN op cl sq ky vl od hth hlt h2 pk pw pv hpk
    by_cases h3 : op = 3
    · have e : opK K.ps ⟨op, cl, sq, ky, vl, od⟩ = (K.ps.take (plc ky K.ps) ++ K.ps.drop (plc ky K.ps + 1), ⟨1, []⟩) := by unfold opK; rw [if_neg h2, if_pos h3, hl]; dsimp only; rw [hdl]
      rw [e]
      exact rd_del h hN op cl sq ky vl od hth hlt h3
    have h4 : op = 4 := by omega
    by_cases ho : pw = od
    · have e : opK K.ps ⟨op, cl, sq, ky, vl, od⟩ = (K.ps.set (plc ky K.ps) (ky, vl), ⟨1, []⟩) := by unfold opK; rw [if_neg h2, if_neg h3, hl]; dsimp only; rw [pv, if_pos ho, hst]
      rw [e]
      exact rd_set4 h hN op cl sq ky vl od hth hlt h4 pk pw pv hpk ho
    · have e : opK K.ps ⟨op, cl, sq, ky, vl, od⟩ = (K.ps, ⟨3, pw⟩) := by unfold opK; rw [if_neg h2, if_neg h3, hl]; dsimp only; rw [pv, if_neg ho]
      rw [e]
      exact rd_oth h hN op cl sq ky vl od hth hlt h4 pk pw pv ho
  · by_cases h2 : op = 2
    · by_cases hfl : 128 ≤ K.ps.length
      · have e : opK K.ps ⟨op, cl, sq, ky, vl, od⟩ = (K.ps, ⟨5, []⟩) := by unfold opK; rw [if_pos h2, hl]; dsimp only; rw [if_pos hfl]
        rw [e]
        exact rd_full h hN op cl sq ky vl od hth h2 hfl
      · have e : opK K.ps ⟨op, cl, sq, ky, vl, od⟩ = (K.ps.take (plc ky K.ps) ++ (ky, vl) :: K.ps.drop (plc ky K.ps), ⟨1, []⟩) := by unfold opK; rw [if_pos h2, hl]; dsimp only; rw [if_neg hfl]; exact congrArg (·, _) (putK_new keyP (totP (ky, vl)) hl)
        rw [e]
        exact rd_put h hN op cl sq ky vl od hth h2 hfl
    · have e : opK K.ps ⟨op, cl, sq, ky, vl, od⟩ = (K.ps, ⟨2, []⟩) := by
        unfold opK
        rw [if_neg h2, hl]
        dsimp only
        split <;> rfl
      rw [e]
      exact rd_none h hN op cl sq ky vl od hth h2

end Go.Proofs.YtglhjgfaelfleaaGreat
