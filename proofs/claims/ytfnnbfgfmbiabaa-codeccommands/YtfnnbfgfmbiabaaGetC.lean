/-
  Get of the plain kinds, the code's and the document's.
-/
import Derived.Test.YtfnnbfgfmbiabaaGetA
import Derived.Test.YtfnnbfgfmbiabaaWholeC
import Derived.Deep.RegionHeld3
namespace Go.Proofs.Ytfnnbfgfmbiabaa
open Go.RowKit Go.Shelf

theorem wholeSCommand {w0 : World} {o c s : Int} {k v d : List UInt8} {R : Nat} {l : List UInt8} {p e : Nat} {w : World} (h : Rr w0 w R l p e) {E : Nat} (hE : Hid (E = if doneE l p e = 0 then ckCommand o c s k v d else doneE l p e)) :
    Calls Try.prog 77 #[.pointer (some ⟨R, 0, none⟩), .iface 71 (.agg #[]), .agg #[.int .i64 o, .int .i64 c, .int .i64 s, .string ⟨k.toArray⟩, .string ⟨v.toArray⟩, .string ⟨d.toArray⟩]] w fun r w' =>
      ∃ (z0 : Int) (z1 : Int) (z2 : Int) (z3 : List UInt8) (z4 : List UInt8) (z5 : List UInt8), r = .returned (.tuple #[.agg #[.int .i64 z0, .int .i64 z1, .int .i64 z2, .string ⟨z3.toArray⟩, .string ⟨z4.toArray⟩, .string ⟨z5.toArray⟩], .int .i64 (E : Int)]) ∧ Hid ((.agg #[.int .i64 z0, .int .i64 z1, .int .i64 z2, .string ⟨z3.toArray⟩, .string ⟨z4.toArray⟩, .string ⟨z5.toArray⟩] : Value) = if E = 0 then .agg #[.int .i64 o, .int .i64 c, .int .i64 s, .string ⟨k.toArray⟩, .string ⟨v.toArray⟩, .string ⟨d.toArray⟩] else .agg #[.int .i64 0, .int .i64 0, .int .i64 0, .string ⟨#[]⟩, .string ⟨#[]⟩, .string ⟨#[]⟩]) ∧ Rr w0 w' R l p e ∧ Below w.heap.size w w' := by
  refine (wholeCommand_any o c s k v d R l p e w h E hE.out).mono ?_
  rintro r w' ⟨rfl, hB⟩
  by_cases h0 : E = 0
  · rw [if_pos h0]; exact ⟨_, _, _, _, _, _, rfl, rfl, h.mono hB, hB⟩
  · rw [if_neg h0]; exact ⟨0, 0, 0, [], [], [], rfl, rfl, h.mono hB, hB⟩
set_option maxRecDepth 100000 in
set_option maxHeartbeats 2000000 in
theorem getCommand_any (b : List UInt8) (v : Value) (M : Nat) (w : World) (hv : Sl M w v b) (hM : M ≤ w.heap.size) (hb : b.length ≤ 1099511627776) : Calls Try.prog 38 #[.agg #[], v] w fun r w' =>
    r = .returned (.tuple #[.agg #[.int .i64 ((goCommand b).1 : Int), .int .i64 ((goCommand b).2.1 : Int), .int .i64 ((goCommand b).2.2.1 : Int), .string ⟨((goCommand b).2.2.2.1).toArray⟩, .string ⟨((goCommand b).2.2.2.2.1).toArray⟩, .string ⟨((goCommand b).2.2.2.2.2).toArray⟩], .int .i64 (geCommand b : Int)]) ∧ Below w.heap.size w w' := by
  obtain ⟨a, cap, rfl, -⟩ := id hv
  obtain ⟨W0, hW0⟩ : ∃ W0, (w.alloc (.cells #[] 71)).alloc (.cells #[.int .i64 0, .int .i64 0, .int .i64 0, .string ⟨#[]⟩, .string ⟨#[]⟩, .string ⟨#[]⟩] 70) = W0 := ⟨_, rfl⟩
  have HW0 : Hid ((w.alloc (.cells #[] 71)).alloc (.cells #[.int .i64 0, .int .i64 0, .int .i64 0, .string ⟨#[]⟩, .string ⟨#[]⟩, .string ⟨#[]⟩] 70) = W0) := hW0
  have HB0 : Hid (Below w.heap.size w W0) := by show Below w.heap.size w W0; rw [← hW0]; exact (((Below.refl _ w).alloc (by simp) _).alloc (by simp) _)
  have HS : Hid (W0.heap.size = w.heap.size + 2) := by show W0.heap.size = _; rw [← hW0]; simp
  have HR : Hid (W0.heap[w.heap.size + 1]? = some (.cells #[.int .i64 0, .int .i64 0, .int .i64 0, .string ⟨#[]⟩, .string ⟨#[]⟩, .string ⟨#[]⟩] 70 (0, 0))) := by
    show W0.heap[w.heap.size + 1]? = _
    rw [← hW0]; simpa using World.alloc_heap_new (w.alloc (.cells #[] 71)) _
  have hv0 := hv.below (HB0.out.mono hM)
  clear hW0
  unfold goCommand geCommand rdCommand
  obtain ⟨n1, a1, e1, H1⟩ : ∃ n1 a1 e1, Hid (rdN b (0, 0) = (n1, (a1, e1))) := ⟨_, _, _, rfl⟩
  obtain ⟨n2, a2, e2, H2⟩ : ∃ n2 a2 e2, Hid (rdN b (a1, e1) = (n2, (a2, e2))) := ⟨_, _, _, rfl⟩
  obtain ⟨n3, a3, e3, H3⟩ : ∃ n3 a3 e3, Hid (rdN b (a2, e2) = (n3, (a3, e3))) := ⟨_, _, _, rfl⟩
  obtain ⟨n4, a4, e4, H4⟩ : ∃ n4 a4 e4, Hid (rdB b 64 (a3, e3) = (n4, (a4, e4))) := ⟨_, _, _, rfl⟩
  obtain ⟨n5, a5, e5, H5⟩ : ∃ n5 a5 e5, Hid (rdB b 1024 (a4, e4) = (n5, (a5, e5))) := ⟨_, _, _, rfl⟩
  obtain ⟨n6, a6, e6, H6⟩ : ∃ n6 a6 e6, Hid (rdB b 1024 (a5, e5) = (n6, (a6, e6))) := ⟨_, _, _, rfl⟩
  simp only [H1.out, H2.out, H3.out, H4.out, H5.out, H6.out]
  obtain ⟨E, hE⟩ : ∃ E, E = if doneE b a6 e6 = 0 then ckCommand (n1 : Int) (n2 : Int) (n3 : Int) n4 n5 n6 else doneE b a6 e6 := ⟨_, rfl⟩
  rw [← hE]
  have HE : Hid (E = if doneE b a6 e6 = 0 then ckCommand (n1 : Int) (n2 : Int) (n3 : Int) n4 n5 n6 else doneE b a6 e6) := hE
  clear hE
  obtain ⟨g, HG⟩ : ∃ g, Hid ((if E = 0 then (n1, n2, n3, n4, n5, n6) else (0, 0, 0, [], [], [])) = g) := ⟨_, rfl⟩
  rw [HG.out]
  go_enter Try.func38, Try.ntmps38
  go_wp2_with fail
  rw [HW0.out]
  refine (newR_any W0 hv0 hb).mono ?_
  rintro r w1 ⟨R, rfl, h1⟩
  go_wp2_with fail
  have h1' : Rr W0 w1.drew R b 0 0 := h1.mono ⟨rfl, rfl, rfl, Nat.le_refl _, fun _ _ => rfl⟩
  go_region_held3 (fun _ => True) (trivial)
    (first | (go_at_call 66; refine (rrI (by assumption) (by assumption)).mono ?_; rintro r w2 ⟨rfl, h2⟩)
           | (go_at_call 78; refine (rrT (by assumption) (by assumption)).mono ?_; rintro r w4 ⟨rfl, h4⟩)
           | (go_at_call 77; refine (wholeSCommand (by assumption) HE).mono ?_; rintro r w5 ⟨z0, z1, z2, z3, z4, z5, rfl, HZ, h5, hB5⟩; have HR5 : Hid (w5.heap[w.heap.size + 1]? = some (.cells #[.int .i64 0, .int .i64 0, .int .i64 0, .string ⟨#[]⟩, .string ⟨#[]⟩, .string ⟨#[]⟩] 70 (0, 0))) := (h5.bel.block _ (by have := HS.out; omega)).trans HR.out; obtain ⟨⟨r0, r1, r2, r3, r4, r5⟩, f0, f1, f2, f3, f4, f5⟩ := cells6 HR5.out))
  go_wp2
  refine bodyPost_ret (results_70 rfl _ _ (w.heap.size + 1) rfl (set6 HR5.out _ _ _ _ _ _)) rfl ?_
  refine ⟨?_, belset6 (HB0.out.trans (h5.bel.mono HB0.out.size)) (by omega) _ _ _ _ _ _⟩
  show Ending.returned (.tuple #[.agg #[.int .i64 z0, .int .i64 z1, .int .i64 z2, .string ⟨z3.toArray⟩, .string ⟨z4.toArray⟩, .string ⟨z5.toArray⟩], .int .i64 (E : Int)]) = _
  rw [HZ.out, ← HG.out]
  by_cases h0 : E = 0
  · simp [h0]
  · simp [h0]

set_option maxRecDepth 100000 in
set_option maxHeartbeats 2000000 in
theorem refGetCommand_any (b : List UInt8) (v : Value) (M : Nat) (w : World) (hv : Sl M w v b) (hM : M ≤ w.heap.size) (hb : b.length ≤ 20000) : Calls Try.prog 39 #[v] w fun r w' =>
    r = .returned (.tuple #[.agg #[.int .i64 ((goCommand b).1 : Int), .int .i64 ((goCommand b).2.1 : Int), .int .i64 ((goCommand b).2.2.1 : Int), .string ⟨((goCommand b).2.2.2.1).toArray⟩, .string ⟨((goCommand b).2.2.2.2.1).toArray⟩, .string ⟨((goCommand b).2.2.2.2.2).toArray⟩], .int .i64 (geCommand b : Int)]) ∧ Below w.heap.size w w' := by
  obtain ⟨a, cap, rfl, -⟩ := id hv
  have hB0 : Below w.heap.size w (w.alloc (.cells #[.int .i64 0, .int .i64 0, .int .i64 0, .string ⟨#[]⟩, .string ⟨#[]⟩, .string ⟨#[]⟩] 70)) := (Below.refl _ w).alloc (Nat.le_refl _) _
  have hq := newQ (hv.below (hB0.mono hM)) (by simp; omega) hb
  simp only [World.size_alloc] at hq
  have HR : Hid ((w.alloc (.cells #[.int .i64 0, .int .i64 0, .int .i64 0, .string ⟨#[]⟩, .string ⟨#[]⟩, .string ⟨#[]⟩] 70)).heap[w.heap.size]? = some (.cells #[.int .i64 0, .int .i64 0, .int .i64 0, .string ⟨#[]⟩, .string ⟨#[]⟩, .string ⟨#[]⟩] 70 (0, 0))) := World.alloc_heap_new w _
  have HB0 : Hid (Below w.heap.size w (w.alloc (.cells #[.int .i64 0, .int .i64 0, .int .i64 0, .string ⟨#[]⟩, .string ⟨#[]⟩, .string ⟨#[]⟩] 70))) := hB0
  clear hB0
  unfold goCommand geCommand rdCommand
  obtain ⟨n1, a1, e1, H1⟩ : ∃ n1 a1 e1, Hid (rdN b (0, 0) = (n1, (a1, e1))) := ⟨_, _, _, rfl⟩
  obtain ⟨n2, a2, e2, H2⟩ : ∃ n2 a2 e2, Hid (rdN b (a1, e1) = (n2, (a2, e2))) := ⟨_, _, _, rfl⟩
  obtain ⟨n3, a3, e3, H3⟩ : ∃ n3 a3 e3, Hid (rdN b (a2, e2) = (n3, (a3, e3))) := ⟨_, _, _, rfl⟩
  obtain ⟨n4, a4, e4, H4⟩ : ∃ n4 a4 e4, Hid (rdB b 64 (a3, e3) = (n4, (a4, e4))) := ⟨_, _, _, rfl⟩
  obtain ⟨n5, a5, e5, H5⟩ : ∃ n5 a5 e5, Hid (rdB b 1024 (a4, e4) = (n5, (a5, e5))) := ⟨_, _, _, rfl⟩
  obtain ⟨n6, a6, e6, H6⟩ : ∃ n6 a6 e6, Hid (rdB b 1024 (a5, e5) = (n6, (a6, e6))) := ⟨_, _, _, rfl⟩
  simp only [H1.out, H2.out, H3.out, H4.out, H5.out, H6.out]
  obtain ⟨E, hE⟩ : ∃ E, E = if doneE b a6 e6 = 0 then ckCommand (n1 : Int) (n2 : Int) (n3 : Int) n4 n5 n6 else doneE b a6 e6 := ⟨_, rfl⟩
  rw [← hE]
  have HE : Hid (E = if doneE b a6 e6 = 0 then ckCommand (n1 : Int) (n2 : Int) (n3 : Int) n4 n5 n6 else doneE b a6 e6) := hE
  clear hE
  obtain ⟨g, HG⟩ : ∃ g, Hid ((if E = 0 then (n1, n2, n3, n4, n5, n6) else (0, 0, 0, [], [], [])) = g) := ⟨_, rfl⟩
  rw [HG.out]
  go_enter Try.func39, Try.ntmps39
  go_wp2_with fail
  refine (rqI hq H1).mono ?_
  rintro r w2 ⟨rfl, h2⟩
  go_wp2_with fail
  refine (rqI h2 H2).mono ?_
  rintro r w3 ⟨rfl, h3⟩
  go_wp2_with fail
  refine (rqI h3 H3).mono ?_
  rintro r w4 ⟨rfl, h4⟩
  go_wp2_with fail
  refine (rqT h4 H4).mono ?_
  rintro r w5 ⟨rfl, h5⟩
  go_wp2_with fail
  refine (rqT h5 H5).mono ?_
  rintro r w6 ⟨rfl, h6⟩
  go_wp2_with fail
  refine (rqT h6 H6).mono ?_
  rintro r w7 ⟨rfl, h7⟩
  go_wp2_with fail
  have hBx : Below w7.heap.size w7 (w7.alloc (.cells #[.int .i64 (n1 : Int), .int .i64 (n2 : Int), .int .i64 (n3 : Int), .string ⟨n4.toArray⟩, .string ⟨n5.toArray⟩, .string ⟨n6.toArray⟩] 70)) := (Below.refl _ _).alloc (Nat.le_refl _) _
  have HX : Hid ((w7.alloc (.cells #[.int .i64 (n1 : Int), .int .i64 (n2 : Int), .int .i64 (n3 : Int), .string ⟨n4.toArray⟩, .string ⟨n5.toArray⟩, .string ⟨n6.toArray⟩] 70)).heap[w7.heap.size]? = some (.cells #[.int .i64 (n1 : Int), .int .i64 (n2 : Int), .int .i64 (n3 : Int), .string ⟨n4.toArray⟩, .string ⟨n5.toArray⟩, .string ⟨n6.toArray⟩] 70 (0, 0))) := World.alloc_heap_new w7 _
  have hx := h7.mono hBx
  refine (rqDone_any hx).mono ?_
  rintro r w8 ⟨rfl, hB8⟩
  have hx8 := hx.mono hB8
  have ck1 := fun w' => refCkCommand_any (n1 : Int) (n2 : Int) (n3 : Int) n4 n5 n6 w'
  have HX8 : Hid (w8.heap[w7.heap.size]? = some (.cells #[.int .i64 (n1 : Int), .int .i64 (n2 : Int), .int .i64 (n3 : Int), .string ⟨n4.toArray⟩, .string ⟨n5.toArray⟩, .string ⟨n6.toArray⟩] 70 (0, 0))) := (hB8.block _ (by simp)).trans HX.out
  have HR8 : Hid (w8.heap[w.heap.size]? = some (.cells #[.int .i64 0, .int .i64 0, .int .i64 0, .string ⟨#[]⟩, .string ⟨#[]⟩, .string ⟨#[]⟩] 70 (0, 0))) := (hx8.bel.block _ (by simp)).trans HR.out
  have HL : Hid (w7.heap.size < w8.heap.size) := by have := hB8.size; show w7.heap.size < w8.heap.size; simp at this; omega
  have HZ8 : Hid (w.heap.size < w8.heap.size) := by have := hx8.bel.size; show w.heap.size < w8.heap.size; simp at this; omega
  have HB8 : Hid (Below w.heap.size w w8) := HB0.out.trans (hx8.bel.mono (by simp))
  clear hx hx8 hBx
  by_cases he : doneE b a6 e6 = 0
  · have hE := HE.out
    rw [if_pos he] at hE
    rw [← hE] at ck1
    rw [he]
    obtain ⟨⟨q0, q1, q2, q3, q4, q5⟩, -⟩ := cells6 HX8.out
    go_wp2_with fail
    refine (ck1 w8).mono ?_
    rintro r w9 ⟨rfl, hB9⟩
    have HX9 : Hid (w9.heap[w7.heap.size]? = some (.cells #[.int .i64 (n1 : Int), .int .i64 (n2 : Int), .int .i64 (n3 : Int), .string ⟨n4.toArray⟩, .string ⟨n5.toArray⟩, .string ⟨n6.toArray⟩] 70 (0, 0))) := (hB9.block _ HL.out).trans HX8.out
    have HR9 : Hid (w9.heap[w.heap.size]? = some (.cells #[.int .i64 0, .int .i64 0, .int .i64 0, .string ⟨#[]⟩, .string ⟨#[]⟩, .string ⟨#[]⟩] 70 (0, 0))) := (hB9.block _ HZ8.out).trans HR8.out
    have HF : Hid (Below w.heap.size w w9) := HB8.out.trans (hB9.mono HB8.out.size)
    obtain ⟨⟨q0, q1, q2, q3, q4, q5⟩, -⟩ := cells6 HX9.out
    obtain ⟨⟨r0, r1, r2, r3, r4, r5⟩, f0, f1, f2, f3, f4, f5⟩ := cells6 HR9.out
    clear ck1 hE
    by_cases hEn : E = 0
    · rw [if_pos hEn] at HG
      have hg := HG.out
      subst hg
      subst hEn
      go_wp2
      refine bodyPost_ret (results_70 rfl _ _ w.heap.size rfl (set6 HR9.out _ _ _ _ _ _)) rfl ?_
      exact ⟨by simp, belset6 HF.out (by omega) _ _ _ _ _ _⟩
    · have hke : ((E : Int) != 0) = true := by simp; omega
      rw [if_neg hEn] at HG
      have hg := HG.out
      subst hg
      go_wp2
      refine bodyPost_ret (results_70 rfl _ _ w.heap.size rfl (set6 HR9.out _ _ _ _ _ _)) rfl ?_
      exact ⟨by simp, belset6 HF.out (by omega) _ _ _ _ _ _⟩
  · have hE := HE.out
    rw [if_neg he] at hE
    rw [← hE]
    have hEn : ¬ E = 0 := by omega
    have hke : ((E : Int) == 0) = false := by simp; omega
    have hke2 : ((E : Int) != 0) = true := by simp; omega
    rw [if_neg hEn] at HG
    have hg := HG.out
    subst hg
    obtain ⟨⟨r0, r1, r2, r3, r4, r5⟩, f0, f1, f2, f3, f4, f5⟩ := cells6 HR8.out
    clear ck1 hE
    go_wp2
    refine bodyPost_ret (results_70 rfl _ _ w.heap.size rfl (set6 HR8.out _ _ _ _ _ _)) rfl ?_
    exact ⟨by simp, belset6 HB8.out (by omega) _ _ _ _ _ _⟩

end Go.Proofs.Ytfnnbfgfmbiabaa
