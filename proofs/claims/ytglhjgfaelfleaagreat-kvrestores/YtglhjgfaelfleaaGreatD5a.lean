/-
  What Do does: an operation that is done (put).
-/
import Derived.Test.YtglhjgfaelfleaaGreatD5
namespace Go.Proofs.YtglhjgfaelfleaaGreat
open Go.RowKit

set_option maxRecDepth 100000 in
set_option maxHeartbeats 4000000 in
theorem do_put {w : World} {b mp ms : Nat} {K : KV} (h : St w b mp ms K) (o cl sq : Int) (k v d : Bs) (hck : ckCommand o cl sq k v d = 0) (hcl : 0 ≤ cl ∧ cl ≤ 4611686018427387904) (hop : o = 2) (hse : settled K.ss cl sq = none) (hok2 : KV.Ok ⟨(opK K.ps ⟨o, cl, sq, k, v, d⟩).1, putK kS ⟨cl, sq, (opK K.ps ⟨o, cl, sq, k, v, d⟩).2⟩ K.ss⟩) :
    Calls Tryz.prog 14 #[.pointer (some ⟨b, 0, none⟩), .agg #[.int .i64 o, .int .i64 cl, .int .i64 sq, .string ⟨k.toArray⟩, .string ⟨v.toArray⟩, .string ⟨d.toArray⟩]] w fun e w' => e = .returned (.tuple #[.agg #[.int .i64 (opK K.ps ⟨o, cl, sq, k, v, d⟩).2.code, .string ⟨(opK K.ps ⟨o, cl, sq, k, v, d⟩).2.val.toArray⟩], .int .i64 (ckCommand o cl sq k v d : Int)]) ∧ St w' b mp ms ⟨(opK K.ps ⟨o, cl, sq, k, v, d⟩).1, putK kS ⟨cl, sq, (opK K.ps ⟨o, cl, sq, k, v, d⟩).2⟩ K.ss⟩ ∧ Out (Mx mp ms) w w' := by
  obtain ⟨W0, HW0⟩ : ∃ W0, Hid ((w.alloc (.cells #[.int .i64 o, .int .i64 cl, .int .i64 sq, .string ⟨k.toArray⟩, .string ⟨v.toArray⟩, .string ⟨d.toArray⟩] 44)).alloc (.cells #[.int .i64 0, .string ⟨[].toArray⟩] 40) = W0) := ⟨_, rfl⟩
  have HF0 : Hid (Fx w W0 o cl sq k v d) := by
    obtain ⟨F⟩ := fr_mk h o cl sq k v d
    rw [HW0.out] at F
    exact ⟨F.hB, F.q0, F.q1, F.q2, F.q3, F.q4, F.q5, F.r0, F.r1, F.f0, F.f1, by have := F.z0; omega⟩
  have HS : Hid (∀ W, Below w.heap.size w W → St W b mp ms K) := fun W hB => h.below hB
  have HL : Hid (b < w.heap.size ∧ mp < w.heap.size ∧ ms < w.heap.size) := h.lt
  have HO : Hid (K.Ok) := h.ok
  obtain ⟨-, q0, q1, q2, q3, q4, q5, r0, r1, f0, f1, z0⟩ := HF0.out
  have hb := h.lt.1
  obtain ⟨E, HE⟩ : ∃ E, Hid (ckCommand o cl sq k v d = E) := ⟨_, rfl⟩
  have CK : ∀ W, Calls Tryz.prog 37 _ W _ := fun W => ckCommand_any o cl sq k v d W
  rw [HE.out] at CK
  obtain rfl : E = 0 := by rw [← HE.out]; exact hck
  rw [HE.out]
  have CS : Hid (∀ W, Below w.heap.size w W → Calls Tryz.prog 38 #[.pointer (some ⟨b, 0, none⟩), .int .i64 cl, .int .i64 sq] W fun e w' => e = .returned (.tuple #[.agg #[.int .i64 0, .string ⟨[].toArray⟩], .bool false]) ∧ Below W.heap.size W w') := fun W hB => by
    have := settled_any (h.below hB) cl sq hcl
    rw [hse] at this
    exact this
  have CO : Hid (∀ W, Below w.heap.size w W → Calls Tryz.prog 67 #[.pointer (some ⟨b, 0, none⟩), .agg #[.int .i64 o, .int .i64 cl, .int .i64 sq, .string ⟨k.toArray⟩, .string ⟨v.toArray⟩, .string ⟨d.toArray⟩]] W fun e w' => e = .returned (opK K.ps ⟨o, cl, sq, k, v, d⟩).2.v ∧ St w' b mp ms { K with ps := (opK K.ps ⟨o, cl, sq, k, v, d⟩).1 } ∧ Out (· = mp) W w') := fun W hB => put_any (h.below hB) ⟨o, cl, sq, k, v, d⟩ hck hop
  generalize hopk : opK K.ps ⟨o, cl, sq, k, v, d⟩ = OR at CO hok2 ⊢
  obtain ⟨ps', rc, rv⟩ := OR
  dsimp only [Rp.v, str] at CO hok2 ⊢
  have HOK2 : Hid (KV.Ok ⟨ps', putK kS ⟨cl, sq, ⟨rc, rv⟩⟩ K.ss⟩) := hok2
  have HOP : Hid (o = 2) := hop
  clear hck h hse hok2 hopk HOP
  subst hop
  go_enter Tryz.func14, Tryz.ntmps14
  go_upto_region 1 with fail
  rw [HW0.out]
  go_upto_region 7 with (first | (go_at_call 37; refine (CK _).mono ?_; rintro e w1 ⟨rfl, hB1⟩; have HF1 : Hid (Fx w w1 2 cl sq k v d) := HF0.out.below hB1; obtain ⟨-, q0, q1, q2, q3, q4, q5, r0, r1, f0, f1, z0⟩ := HF1.out; have HB1 : Hid _ := hB1; clear hB1 CK) | (go_at_call 38; refine (CS.out _ HF1.out.hB).mono ?_; rintro e w2 ⟨rfl, hB2⟩; have HF2 : Hid (Fx w w2 2 cl sq k v d) := HF1.out.below hB2; obtain ⟨-, q0, q1, q2, q3, q4, q5, r0, r1, f0, f1, z0⟩ := HF2.out; have HB2 : Hid _ := hB2; clear hB2; have l1 : w.heap.size < w2.heap.size := (by omega); have l2 : w.heap.size + 1 < w2.heap.size := (by omega)))
  obtain ⟨W2, HW2⟩ : ∃ W2, Hid (w2.alloc (.cells #[.int .i64 0, .string ⟨[].toArray⟩] 40) = W2) := ⟨_, rfl⟩
  have HF3 : Hid (Fx w W2 2 cl sq k v d) := HW2.out ▸ HF2.out.below ((Below.refl _ _).alloc (Nat.le_refl _) _)
  rw [HW2.out]
  obtain ⟨-, q0, q1, q2, q3, q4, q5, r0, r1, f0, f1, z0⟩ := HF3.out
  have l1 : w.heap.size < W2.heap.size := by omega
  have l2 : w.heap.size + 1 < W2.heap.size := by omega
  have lW : w.heap.size ≤ W2.heap.size := by omega
  have nW : w.heap.size ≠ W2.heap.size := by omega
  have nW2 : W2.heap.size ≠ w.heap.size := by omega
  have lb : b < W2.heap.size := by have := HL.out; omega
  have CO2 : ∀ W, Below W2.heap.size W2 W → Calls Tryz.prog 67 #[.pointer (some ⟨b, 0, none⟩), .agg #[.int .i64 2, .int .i64 cl, .int .i64 sq, .string ⟨k.toArray⟩, .string ⟨v.toArray⟩, .string ⟨d.toArray⟩]] W fun e w3 => e = .returned (.agg #[.int .i64 rc, .string ⟨rv.toArray⟩]) ∧ Core w W2 w3 b mp ms { K with ps := ps' } ∧ (∀ r x y, w.heap.size ≤ r → W.heap[r]? = some (.cells #[x, y] 40) → Cel w3 r x y) := fun W hB =>
    (CO.out W (HF3.out.hB.trans (hB.mono HF3.out.hB.size))).mono fun e w3 ⟨h1, h2, h3⟩ => ⟨h1, ⟨h2, (Out.of_below (X := (· = mp)) (HF3.out.hB.trans (hB.mono HF3.out.hB.size))).trans h3 (fun _ hi _ => hi), (Out.of_below (X := (· = mp)) hB).trans h3 (fun _ hi _ => hi)⟩,
      fun r x y h4 h5 => cel_of ((h3.block r (Array.getElem?_eq_some_iff.1 h5).1 (fun e => by have := HL.out; omega)).trans h5)⟩
  have CA : Hid (∀ Wc, Below W2.heap.size W2 Wc → Calls Tryz.prog 39 #[.pointer (some ⟨b, 0, none⟩)] Wc fun e wA => ∃ m, e = .returned (.map (some m)) ∧ (Instr.lookup 92 (.map (some m)) (.int .i64 2) false).run Tryz.prog wA = .ok (.func (.func 67) #[.pointer (some ⟨b, 0, none⟩)] #[]) wA ∧ (∀ o, (Instr.lookup 92 (.map (some m)) (.int .i64 2) false).run Tryz.prog (wA.alloc o) = .ok (.func (.func 67) #[.pointer (some ⟨b, 0, none⟩)] #[]) (wA.alloc o)) ∧ Below W2.heap.size W2 wA ∧
      Hid (Calls Tryz.prog 67 #[.pointer (some ⟨b, 0, none⟩), .agg #[.int .i64 2, .int .i64 cl, .int .i64 sq, .string ⟨k.toArray⟩, .string ⟨v.toArray⟩, .string ⟨d.toArray⟩]] wA fun e w3 => e = .returned (.agg #[.int .i64 rc, .string ⟨rv.toArray⟩]) ∧ Core w W2 w3 b mp ms { K with ps := ps' } ∧ (Wc.heap[W2.heap.size]? = some (.cells #[.int .i64 0, .string ⟨[].toArray⟩] 40) → Cel w3 W2.heap.size (.int .i64 0) (.string ⟨[].toArray⟩))) ∧
      Hid (Calls Tryz.prog 67 #[.pointer (some ⟨b, 0, none⟩), .agg #[.int .i64 2, .int .i64 cl, .int .i64 sq, .string ⟨k.toArray⟩, .string ⟨v.toArray⟩, .string ⟨d.toArray⟩]] (wA.alloc (.cells #[.int .i64 0, .string ⟨[].toArray⟩] 40)) fun e w3 => e = .returned (.agg #[.int .i64 rc, .string ⟨rv.toArray⟩]) ∧ Core w W2 w3 b mp ms { K with ps := ps' } ∧ Cel w3 wA.heap.size (.int .i64 0) (.string ⟨[].toArray⟩))) := fun Wc hB =>
    (operations_any b Wc).mono fun e wA ⟨h1, h2, h3⟩ => by
      have hBA : Below W2.heap.size W2 wA := hB.trans (h3.mono hB.size)
      refine ⟨_, h1, ops_look h2 2 (by omega), fun o => ops_look (h2.alloc o) 2 (by omega), hBA, ?_, ?_⟩
      · exact (CO2 wA hBA).mono fun e w3 ⟨k1, k2, k3⟩ => ⟨k1, k2, fun hx => k3 _ _ _ lW ((h3.block _ (Array.getElem?_eq_some_iff.1 hx).1).trans hx)⟩
      · exact (CO2 _ (Below.alloc' hBA _)).mono fun e w3 ⟨k1, k2, k3⟩ => ⟨k1, k2, k3 _ _ _ (Nat.le_trans lW hBA.size) (heap_alloc_new wA _)⟩
  have CA2 : Hid (Calls Tryz.prog 39 #[.pointer (some ⟨b, 0, none⟩)] (W2.alloc (.cells #[.int .i64 0, .string ⟨[].toArray⟩] 40)).drew fun e wA => ∃ m, e = .returned (.map (some m)) ∧ (Instr.lookup 92 (.map (some m)) (.int .i64 2) false).run Tryz.prog wA = .ok (.func (.func 67) #[.pointer (some ⟨b, 0, none⟩)] #[]) wA ∧ Below W2.heap.size W2 wA ∧
      Hid (Calls Tryz.prog 67 #[.pointer (some ⟨b, 0, none⟩), .agg #[.int .i64 2, .int .i64 cl, .int .i64 sq, .string ⟨k.toArray⟩, .string ⟨v.toArray⟩, .string ⟨d.toArray⟩]] wA fun e w3 => e = .returned (.agg #[.int .i64 rc, .string ⟨rv.toArray⟩]) ∧ Core w W2 w3 b mp ms { K with ps := ps' } ∧ Cel w3 W2.heap.size (.int .i64 0) (.string ⟨[].toArray⟩))) :=
    (CA.out (W2.alloc (.cells #[.int .i64 0, .string ⟨[].toArray⟩] 40)).drew (Below.drew' (Below.alloc' (Below.refl _ _) _))).mono fun e wA ⟨m, h1, h2, _, h4, h5, _⟩ => ⟨m, h1, h2, h4, h5.out.mono fun e w3 ⟨k1, k2, k3⟩ => ⟨k1, k2, k3 (heap_alloc_new W2 _)⟩⟩
  clear HF2 HF1 HF0 HW0 HW2 HB1 HB2 CS CO CO2
  go_cut [9] from 28 to 34 (fun v9 wx => Fin w W2 wx v9 b mp ms { K with ps := ps' } rc rv)
  case first =>
    go_region_held3 (fun W => W.cell? ⟨w.heap.size, 0, none⟩ = some (.int .i64 2) ∧ W.cell? ⟨w.heap.size, 1, none⟩ = some (.int .i64 cl) ∧ W.cell? ⟨w.heap.size, 2, none⟩ = some (.int .i64 sq) ∧ W.cell? ⟨w.heap.size, 3, none⟩ = some (.string ⟨k.toArray⟩) ∧ W.cell? ⟨w.heap.size, 4, none⟩ = some (.string ⟨v.toArray⟩) ∧ W.cell? ⟨w.heap.size, 5, none⟩ = some (.string ⟨d.toArray⟩)) (go_keep)
      (first
        | (go_at_call 39; refine CA2.out.mono ?_; rintro e wA ⟨m, rfl, hlA, hBA, HP3⟩; obtain ⟨-, s0, s1, s2, s3, s4, s5, -⟩ := HF3.out.below hBA; have lA : w.heap.size < wA.heap.size := Nat.lt_of_lt_of_le l1 hBA.size; have nA : w.heap.size ≠ wA.heap.size := Nat.ne_of_lt lA; have nA2 : wA.heap.size ≠ w.heap.size := Nat.ne_of_gt lA; have lA' : W2.heap.size ≤ wA.heap.size := hBA.size; clear hBA)
        | (go_at_call 39; refine (CA.out _ ?hb).mono ?_; (case hb => (repeat (first | (with_reducible refine Below.set' ?_ (by omega)) | (with_reducible refine Below.alloc' ?_ _) | (with_reducible refine Below.drewN' ?_ _) | (with_reducible refine Below.drew' ?_))); exact Below.refl _ _); rintro e wA ⟨m, rfl, hlA, hlA2, hBA, HP1, HP2⟩; obtain ⟨-, s0, s1, s2, s3, s4, s5, -⟩ := HF3.out.below hBA; have lA : w.heap.size < wA.heap.size := Nat.lt_of_lt_of_le l1 hBA.size; have nA : w.heap.size ≠ wA.heap.size := Nat.ne_of_lt lA; have nA2 : wA.heap.size ≠ w.heap.size := Nat.ne_of_gt lA; have lA' : W2.heap.size ≤ wA.heap.size := hBA.size; clear hBA)
        | (go_at_call 67; refine HP3.out.mono ?_; rintro e w3 ⟨rfl, h3, lD, x0, x1, y0, y1⟩; obtain ⟨⟨t0, t1, t2, t3, t4, t5⟩, -⟩ := HF3.out.turn h3.o2 HL.out.2.1; have H3 : Hid _ := h3; clear h3 HP3)
        | (go_at_call 67; refine HP1.out.mono ?_; rintro e w3 ⟨rfl, h3, -⟩; obtain ⟨⟨t0, t1, t2, t3, t4, t5⟩, -⟩ := HF3.out.turn h3.o2 HL.out.2.1; have H3 : Hid _ := h3; have l3 : w.heap.size < w3.heap.size := Nat.lt_of_lt_of_le l1 h3.o2.size; clear h3 HP1 HP2)
        | (go_at_call 67; refine HP2.out.mono ?_; rintro e w3 ⟨rfl, h3, lD, x0, x1, y0, y1⟩; obtain ⟨⟨t0, t1, t2, t3, t4, t5⟩, -⟩ := HF3.out.turn h3.o2 HL.out.2.1; have H3 : Hid _ := h3; clear h3 HP1 HP2)
        | fail)
    all_goals go_wp2_with fail
    all_goals go_meet
    all_goals first | exact fin_new H3.out | exact fin_set H3.out ⟨lD, x0, x1, y0, y1⟩ (Nat.le_refl _) lW HL.out | exact fin_set H3.out ⟨lD, x0, x1, y0, y1⟩ lA' lW HL.out
  case rest =>
    obtain ⟨D, rfl, hD, lD, d0, d1, hst, hO1, hO2⟩ := hcut
    generalize wc = W3 at *
    clear CA CA2
    obtain ⟨⟨q0, q1, q2, q3, q4, q5⟩, r0, r1, f0, f1⟩ := HF3.out.turn hO2 HL.out.2.1
    obtain ⟨c0, c1⟩ := hst.cells
    obtain ⟨w4, hr4, h4, hO4, -⟩ := (hst.drewN 1).putS ⟨cl, sq, ⟨rc, rv⟩⟩ hcl HOK2.out
    dsimp only at hr4
    replace hr4 : (Instr.mapUpdate 75 (.map (some ms)) (.int .i64 cl) (.agg #[.int .i64 cl, .int .i64 sq, .int .i64 rc, .string ⟨rv.toArray⟩])).run Tryz.prog W3.drew = .ok () w4 := hr4
    have l3 : w.heap.size + 1 < W3.heap.size := Nat.lt_of_lt_of_le l2 hO2.size
    have nm : ¬ w.heap.size + 1 = ms := by have := HL.out; omega
    have nD : ¬ D = ms := by have := HL.out; omega
    have m0 := (hO4.cell (r := w.heap.size + 1) (o := 0) l3 nm).1.trans r0
    have m1 := (hO4.cell (r := w.heap.size + 1) (o := 1) l3 nm).1.trans r1
    have n0 := (hO4.cell (r := w.heap.size + 1) (o := 0) l3 nm).2.trans f0
    have n1 := (hO4.cell (r := w.heap.size + 1) (o := 1) l3 nm).2.trans f1
    have e0 := (hO4.cell (r := D) (o := 0) lD nD).1.trans d0
    have e1 := (hO4.cell (r := D) (o := 1) lD nD).1.trans d1
    have H4 : Hid _ := h4
    have HO4 : Hid (Out (Mx mp ms) w w4) := (hO1.mono (Y := Mx mp ms) (fun i hi => .inl hi)).trans (show Out (· = ms) W3 w4 from ⟨hO4.os, hO4.tape, hO4.output, hO4.size, hO4.block⟩) (fun i hi _ => .inr hi)
    clear h4 hO4 hst hO1 hO2
    go_wp2
    go_region
    all_goals go_wp2
    all_goals
      refine bodyPost_ret (v := .tuple #[.agg #[.int .i64 rc, .string ⟨rv.toArray⟩], .int .i64 0]) (by simp [results, Tryz.results14, go_sem, m0, m1]) rfl ⟨rfl, ?_, ?_⟩
      · exact res_st H4.out (by have := HL.out; omega)
      · exact res_out HO4.out (by omega)
end Go.Proofs.YtglhjgfaelfleaaGreat
