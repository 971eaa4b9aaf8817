/-
  The document's network: Move.
-/
import Derived.Test.YtefbfjlmhfmiiaaRd
namespace Go.Proofs.Ytefbfjlmhfmiiaa
open Go.RowKit
set_option linter.unusedVariables false

/-- Where s[q:] begins. -/
def cutA (va : Option Addr) (vn q : Nat) : Option Addr := match va with | none => none | some ad => if vn = q then some ad else some ⟨ad.block, ad.off + q * 5, ad.spot⟩
theorem rowBase {N N' n : Nat} {e : TypeId} {w : World} {v : Value} {xs : List Value} (h : w.ownsRow N e 5 v n xs) (hN : N' ≤ N) : w.ownsRow N' e 5 v n xs := by
  refine ⟨h.1, ?_⟩
  rcases h.2 with h2 | ⟨g, cap, cur, hv, hg, r⟩
  · exact .inl h2
  · exact .inr ⟨g, cap, cur, hv, by omega, r⟩
theorem RTh.trans {N : Nat} {S : Nat → Prop} {w wr w2 : World} {b : Nat} {P P2 : PN} {C C2 : List Pr} (h : RTh N S w wr b P C) (k : RTh N (grew S w wr) wr w2 b P2 C2) : RTh N S w w2 b P2 C2 :=
  ⟨by rw [← grew_grew h.out.size k.out.size]; exact k.q, h.out.step k.out⟩

set_option maxRecDepth 100000 in
set_option maxHeartbeats 8000000 in
/-- Move. -/
theorem RMove_any {N : Nat} {S : Nat → Prop} {w : World} {b : Nat} {P : PN} {C : List Pr} (h : Rn N S w b P C) (hN : N ≤ w.heap.size) (i t : Int) :
    Calls Try.prog 34 #[.pointer (some ⟨b, 0, none⟩), .int .i64 i, .int .i64 t] w fun r w' => r = .returned (.bool (P.mov i t)) ∧ RTh N S w w' b (P.move i t) C := by
  have HA1 : Hid (Calls _ _ _ _ _) := there_any h i
  have HA2 : Hid (Calls _ _ _ _ _) := there_any h t
  have HTK : Hid (Calls _ _ _ _ _) := RTake_any h hN i
  cases hm : P.mov i t with
  | false =>
    have HT : Hid (RTh N S w w b (P.move i t) C) := by
      show RTh _ _ _ _ _ _ _
      unfold PN.move
      rw [if_neg (by rw [hm]; simp)]
      exact h.th hN (Below.refl _ _)
    unfold PN.mov at hm
    clear h HTK
    cases h1 : P.at i with
    | false =>
      rw [h1] at HA1
      clear h1 hm
      go_enter Try.func34, Try.ntmps34
      go_wp2_with fail
      refine HA1.out.mono ?_
      rintro r w1 ⟨rfl, hw⟩
      subst w1
      go_wp2
      go_ret
      exact ⟨rfl, HT.out⟩
    | true =>
      rw [h1] at HA1 hm
      have h2 : P.at t = false := by simpa using hm
      rw [h2] at HA2
      clear h1 hm h2
      go_enter Try.func34, Try.ntmps34
      go_wp2_with fail
      refine HA1.out.mono ?_
      rintro r w1 ⟨rfl, hw⟩
      subst w1
      go_wp2_with fail
      refine HA2.out.mono ?_
      rintro r w1 ⟨rfl, hw⟩
      subst w1
      go_wp2
      go_ret
      exact ⟨rfl, HT.out⟩
  | true =>
    have hmm := hm
    unfold PN.mov at hm
    simp only [Bool.and_eq_true] at hm
    obtain ⟨h1, h2⟩ := hm
    rw [h1] at HA1
    rw [h2] at HA2
    obtain ⟨i0, i1, i2⟩ := PN.at_of h1
    obtain ⟨t0, t1, t2⟩ := PN.at_of h2
    obtain ⟨k, rfl⟩ : ∃ k : Nat, i = (k : Int) := ⟨i.toNat, i2.symm⟩
    obtain ⟨q, rfl⟩ : ∃ q : Nat, t = (q : Int) := ⟨t.toNat, t2.symm⟩
    simp only [Int.toNat_natCast] at i1 t1
    have HST : Hid (Rn N S w b P C) := h
    have HI1 : Hid (k < P.E.length ∧ q < P.E.length) := ⟨i1, t1⟩
    have HMM : Hid (P.mov (k : Int) (q : Int) = true ∧ P.at (k : Int) = true) := ⟨hmm, h1⟩
    clear h h1 h2 i2 t2 i0 t0 i1 t1 hmm
    go_enter Try.func34, Try.ntmps34
    go_wp2_with fail
    refine HA1.out.mono ?_
    rintro r w1 ⟨rfl, hw⟩
    subst w1
    go_wp2_with fail
    refine HA2.out.mono ?_
    rintro r w1 ⟨rfl, hw⟩
    subst w1
    go_wp2_with fail
    refine HTK.out.mono ?_
    rintro r w2 (⟨ha, -, -⟩ | ⟨-, e, rfl, hsy, hT, hO2, hfe⟩)
    · exact absurd HMM.out.2 (by rw [ha]; simp)
    have htk : P.take (k : Int) = { P with E := P.E.eraseIdx k } := by unfold PN.take; rw [if_pos HMM.out.2]; rfl
    obtain ⟨va, vn, es, ca, cn, hm2, hl2, hvc, hvm, -, -, hv1, hv2, hv3⟩ := hT.q.cells
    have hlen : es.length + 1 = P.E.length := by
      rw [hl2, htk]
      have h2 : (P.E.eraseIdx k).length = P.E.length - 1 := by rw [List.length_eraseIdx, if_pos HI1.out.1]
      have h3 := HI1.out.1
      show (P.E.eraseIdx k).length + 1 = _
      omega
    have hql : q ≤ es.length := by have := HI1.out.2; omega
    have hrow2 := HST.out.ok.row
    have hbw2 : b < w2.heap.size := hT.q.inn _ hT.q.Sb
    have hNw2 : N ≤ w2.heap.size := Nat.le_trans hN hT.out.size
    have hm2r : MlsOw 58 0 w2 (.slice va es.length vn) es := by rw [hl2]; exact hm2.row
    have HBL : Hid (∀ wx, Below w2.heap.size w2 wx → wx.cell? ⟨b, 1, none⟩ = some (.slice va es.length vn) ∧ wx.frozen? ⟨b, 1, none⟩ = false ∧ b < wx.heap.size) := fun wx hB => by
      obtain ⟨⟨-, c1, -, -⟩, cf⟩ := cells4 ((hB.block b hbw2).trans hm2.blk)
      rw [← hl2] at c1
      exact ⟨c1, cf 1, Nat.lt_of_lt_of_le hbw2 hB.size⟩
    have hshape : (va = none ∧ es = [] ∧ vn = 0 ∧ q = 0) ∨ ∃ g, va = some ⟨g, 0, none⟩ := by
      rcases hm2r.row.2 with ⟨hv, h0⟩ | ⟨g, cap, cur, hv, -⟩
      · simp only [Value.slice.injEq] at hv
        exact .inl ⟨hv.1, List.length_eq_zero_iff.1 h0, hv.2.2, by omega⟩
      · simp only [Value.slice.injEq] at hv
        exact .inr ⟨g, hv.1⟩
    obtain ⟨A, hA⟩ : ∃ A : Option Addr, cutA va vn q = A := ⟨_, rfl⟩
    have HMA : Hid (∀ wx, Below w2.heap.size w2 wx → MlsAt wx.heap.size wx va (es.take q) ∧ MlsAt wx.heap.size wx A (es.drop q)) := fun wx hB => by
      have h1 := hm2r.below hB
      by_cases hz : es = []
      · rw [hz]; exact ⟨.inl (by simp), .inl (by simp)⟩
      · obtain ⟨g, cur, hge, -⟩ := h1.open (List.length_pos_iff.2 hz)
        subst hge
        have h2 := h1.prefixAt 0 q
        rw [Nat.zero_mul, List.drop_zero] at h2
        refine ⟨h2, ?_⟩
        by_cases hd0 : es.drop q = []
        · exact .inl hd0
        · have hne : ¬ vn = q := fun e9 => hd0 (List.drop_eq_nil_of_le (by omega))
          rw [← hA]
          simp only [cutA, if_neg hne]
          have h3 := h1.prefixAt q (es.length - q)
          rw [List.take_of_length_le (by simp)] at h3
          rw [Nat.zero_add]
          exact h3
    have htl : (es.take q).length = q := by simp; omega
    have hdl : (es.drop q).length = es.length - q := by simp
    have HFIN : Hid (∀ w8 v8, Below w2.heap.size w2 w8 → w8.ownsRow w2.heap.size 58 5 v8 ((es.take q ++ [e]).length + (es.drop q).length) (mlCells (es.take q ++ [e]) ++ mlCells (es.drop q)) → RTh N S w (w8.setCell ⟨b, 1, none⟩ v8) b (P.move (k : Int) (q : Int)) C) := fun w8 v8 hB hr => by
      have hmem : ∀ x ∈ es.take q ++ [e] ++ es.drop q, x = e ∨ x ∈ es := fun x hx => by
        rcases List.mem_append.1 hx with hx | hx
        · rcases List.mem_append.1 hx with hx | hx
          · exact .inr (List.mem_of_mem_take hx)
          · exact .inl (List.mem_singleton.1 hx)
        · exact .inr (List.mem_of_mem_drop hx)
      have hr' : MlsOw 58 0 w8 v8 (es.take q ++ [e] ++ es.drop q) := by
        refine ⟨⟨mlCells_length _, ?_⟩, fun x hx => ?_⟩
        · rw [mlCells_append (es.take q ++ [e]), @List.length_append _ (es.take q ++ [e]) (es.drop q)]
          rcases hr.2 with h2 | ⟨g, cap, cur, hv, hg', r⟩
          · exact .inl h2
          · exact .inr ⟨g, cap, cur, hv, Nat.zero_le _, r⟩
        · rcases hmem x hx with rfl | hx
          · exact hO2.below hB (Nat.le_refl _)
          · exact (hm2r.dat x hx).below hB (Nat.le_refl _)
      have hmv : P.move (k : Int) (q : Int) = { P with E := moveE P.E k q } := by unfold PN.move; rw [if_pos HMM.out.1]; rfl
      have hT2 := (hT.q.newRow (P' := P.move (k : Int) (q : Int)) (R := w8.heap.size) hNw2 hm2 hv3 hB hr' (fun g hg => ⟨(hr.lt g hg).1, by have := (hr.lt g hg).2; omega⟩) (fun x hx g hg => by
        rcases hmem x hx with rfl | hx
        · exact .inl (hfe g hg)
        · exact hv2 x hx g hg) (by
          rw [hmv, List.map_append, List.map_append, List.map_take, List.map_drop, hm2.says, htk]
          simp only [List.map_cons, List.map_nil, hsy, Int.toNat_natCast]
          show _ = moveE P.E k q
          unfold moveE
          simp) (by rw [hmv, htk]) (by rw [hmv, htk]) (by rw [hmv, htk]) (PN.move_ok HST.out.ok _ _) hB.size (Out.refl _ _)).1
      exact hT.trans hT2
    obtain ⟨W3, hW3⟩ : ∃ W3, w2.alloc (.cells #[.int .i64 e.n, .int .i64 e.f, .int .i64 e.t, .slice e.a e.d.length e.c, .bool e.s] 58) = W3 := ⟨_, rfl⟩
    have HW3 : Hid (w2.alloc (.cells #[.int .i64 e.n, .int .i64 e.f, .int .i64 e.t, .slice e.a e.d.length e.c, .bool e.s] 58) = W3) := hW3
    have hB3 : Below w2.heap.size w2 W3 := by rw [← hW3]; exact (Below.refl _ w2).alloc (Nat.le_refl _) _
    have HX3 : Hid (∀ wx, Below W3.heap.size W3 wx → wx.heap[w2.heap.size]? = some (.cells #[.int .i64 e.n, .int .i64 e.f, .int .i64 e.t, .slice e.a e.d.length e.c, .bool e.s] 58 (0, 0)) ∧ w2.heap.size < wx.heap.size ∧ Below w2.heap.size w2 wx) := fun wx hB => by
      have hz : W3.heap.size = w2.heap.size + 1 := by rw [← hW3]; simp
      have := hB.size
      exact ⟨(hB.block _ (by omega)).trans (by rw [← hW3]; exact heap_alloc_new w2 _), by omega, hB3.trans (hB.mono (by omega))⟩
    have HO2 : Hid (Ow 0 w2 e.x e.d) := hO2
    obtain ⟨c1, -, -⟩ := HBL.out w2 (Below.refl _ _)
    have hz23 : w2.heap.size ≤ W3.heap.size := hB3.size
    have hqn : q ≤ vn := by omega
    have hqi : (q : Int) ≤ (vn : Int) := by omega
    have hqe : (q : Int) ≤ (es.length : Int) := by omega
    have hq0 : (0 : Int) ≤ (q : Int) := by omega
    clear HTK HA1 HA2 hsy hT hfe htk hm2 hv1 hv2 hv3 hm2r hW3 HST hO2
    have hz3 : W3.heap.size = w2.heap.size + 1 := by rw [← HW3.out]; simp
    have HOW : (W3.alloc (.cells #[] 58)).ownsRow (w2.heap.size + 1) 58 5 (.slice (some ⟨w2.heap.size + 1, 0, none⟩) 0 0) 0 [] := by
      have h9 := own0 58 W3
      rw [hz3] at h9
      exact h9
    have HB4 : Hid (Below W3.heap.size W3 (W3.alloc (.cells #[] 58))) := (Below.refl _ W3).alloc (Nat.le_refl _) _
    have hsl5 := (HMA.out _ (HX3.out _ HB4.out).2.2).1
    have hlen5 : ([] : List Ml).length + (es.take q).length ≤ 1000000000 := by simp; omega
    have hlen7 : (es.take q).length + [e].length ≤ 1000000000 := by simp; omega
    have hlen8 : (es.take q ++ [e]).length + (es.drop q).length ≤ 1000000000 := by simp; omega
    have hmax : es.length ≤ 2000 := by omega
    have hN5 : w2.heap.size + 1 ≤ (W3.alloc (.cells #[] 58)).heap.size := by rw [World.size_alloc]; omega
    have HZ3 : Hid (W3.heap.size = w2.heap.size + 1) := hz3
    clear hz3
    rcases hshape with ⟨rfl, hes, rfl, rfl⟩ | ⟨g, rfl⟩
    · subst hes
      have HS1 : Hid (∀ v7 w7, w7.ownsRow (w2.heap.size + 1) 58 5 v7 (([] : List Ml).length + [e].length) (mlCells [] ++ mlCells [e]) → ((W3.alloc (.cells #[] 58)).alloc (.cells #[.int .i64 e.n, .int .i64 e.f, .int .i64 e.t, .slice e.a e.d.length e.c, .bool e.s] 58)).grownBy w7 (Value.slice (some ⟨w2.heap.size + 1, 0, none⟩) 0 0).ownBlock → (w7.cell? ⟨b, 1, none⟩ = some (.slice none 0 0) ∧ w7.frozen? ⟨b, 1, none⟩ = false ∧ b < w7.heap.size ∧ ∃ gg sc, v7 = .slice (some ⟨gg, 0, none⟩) 1 sc ∧ 1 ≤ sc) ∧ RTh N S w (w7.setCell ⟨b, 1, none⟩ v7) b (P.move (k : Int) ((0 : Nat) : Int)) C) := fun v7 w7 q1 q2 => by
        have h8 := HZ3.out
        have hB4 : Below w2.heap.size w2 ((W3.alloc (.cells #[] 58)).alloc (.cells #[.int .i64 e.n, .int .i64 e.f, .int .i64 e.t, .slice e.a e.d.length e.c, .bool e.s] 58)) := (hB3.trans (HB4.out.mono hz23)).alloc (by rw [World.size_alloc]; omega) _
        have hB7 : Below w2.heap.size w2 w7 := hB4.grown q2 hB4.size (fun k e => by have e9 : w2.heap.size + 1 = k := (by simpa [Value.ownBlock] using e); omega)
        obtain ⟨p1, p2, p3⟩ := HBL.out w7 hB7
        refine ⟨⟨p1, p2, p3, ?_⟩, HFIN.out w7 v7 hB7 (rowBase (by simpa [mlCells] using q1) (by omega))⟩
        rcases q1.2 with ⟨-, h0⟩ | ⟨g, cap, cur, hv, -, -, hc, -⟩
        · simp at h0
        · exact ⟨g, cap, hv, by simpa using hc⟩
      have hrow7 : ((W3.alloc (.cells #[] 58)).alloc (.cells #[.int .i64 e.n, .int .i64 e.f, .int .i64 e.t, .slice e.a e.d.length e.c, .bool e.s] 58)).ownsRow (w2.heap.size + 1) 58 5 (.slice (some ⟨w2.heap.size + 1, 0, none⟩) 0 0) 0 [] := World.ownsRow.alloc HOW _
      have hsl7 := mls_one 58 (W3.alloc (.cells #[] 58)) e (W3.alloc (.cells #[] 58)).heap.size (((HO2.out.below hB3 (Nat.le_refl _)).alloc _).sl (Nat.le_refl _)) (Nat.le_refl _)
      have hlen9 : ([] : List Ml).length + [e].length ≤ 1000000000 := by simp
      have hN7 : w2.heap.size + 1 ≤ ((W3.alloc (.cells #[] 58)).alloc (.cells #[.int .i64 e.n, .int .i64 e.f, .int .i64 e.t, .slice e.a e.d.length e.c, .bool e.s] 58)).heap.size := by rw [World.size_alloc, World.size_alloc]; have := HZ3.out; omega
      have HZZ : Hid ((W3.alloc (.cells #[] 58)).heap.size = w2.heap.size + 1 + 1) := by show _ = _; rw [World.size_alloc, HZ3.out]
      rw [HZZ.out] at hsl7
      rw [show ((0 : Nat) : Int) = 0 from rfl] at *
      clear HMA HFIN HB4 HO2 hl2 hlen HOW
      go_wp2_with (first
        | (at_builtin; ((try rw [HW3.out]); refine wpList_append_mls tyR rfl _ _ rfl (w2.heap.size + 1) (w2.heap.size + 1 + 1 + 1) (.slice (some ⟨w2.heap.size + 1, 0, none⟩) 0 0) (some ⟨w2.heap.size + 1 + 1, 0, none⟩) 1 [] [e] rfl hrow7 rfl hsl7 hlen9 hN7 ?_; intro v7 w7 q1 q2 q3; obtain ⟨⟨n1, nf, nb, gg, sc, hsh, hsc⟩, hT⟩ := HS1.out v7 w7 q1 q2; have HT : Hid (RTh _ _ _ _ _ _ _) := hT; clear q1 q2 q3 hT hrow7 hsl7; subst hsh)))
      go_ret
      exact ⟨rfl, HT.out⟩
    · simp only [cutA, Nat.zero_add] at hA
      have HS1 : Hid (∀ v5 w5, w5.ownsRow (w2.heap.size + 1) 58 5 v5 (([] : List Ml).length + (es.take q).length) (mlCells [] ++ mlCells (es.take q)) → (W3.alloc (.cells #[] 58)).grownBy w5 (Value.slice (some ⟨w2.heap.size + 1, 0, none⟩) 0 0).ownBlock → Below W3.heap.size W3 w5 ∧ w5.ownsRow (w2.heap.size + 1) 58 5 v5 (es.take q).length (mlCells (es.take q))) := fun v5 w5 q1 q2 => by
        refine ⟨HB4.out.grown q2 (by simp) (fun k e => by have e9 : w2.heap.size + 1 = k := (by simpa [Value.ownBlock] using e); have e8 := HZ3.out; omega), ?_⟩
        simpa [mlCells] using q1
      have HS2 : Hid (∀ v5 w5, Below W3.heap.size W3 w5 → w5.ownsRow (w2.heap.size + 1) 58 5 v5 (es.take q).length (mlCells (es.take q)) → (w5.alloc (.cells #[.int .i64 e.n, .int .i64 e.f, .int .i64 e.t, .slice e.a e.d.length e.c, .bool e.s] 58)).ownsRow (w2.heap.size + 1) 58 5 v5 (es.take q).length (mlCells (es.take q)) ∧ MlsAt (w5.heap.size + 1) (w5.alloc (.cells #[.int .i64 e.n, .int .i64 e.f, .int .i64 e.t, .slice e.a e.d.length e.c, .bool e.s] 58)) (some ⟨w5.heap.size, 0, none⟩) [e] ∧ w2.heap.size + 1 ≤ (w5.alloc (.cells #[.int .i64 e.n, .int .i64 e.f, .int .i64 e.t, .slice e.a e.d.length e.c, .bool e.s] 58)).heap.size) := fun v5 w5 hB5 hr => by
        have hBw := (HX3.out w5 hB5).2.2
        refine ⟨World.ownsRow.alloc hr _, mls_one 58 w5 e w5.heap.size ((HO2.out.below hBw (Nat.le_refl _)).sl (Nat.le_refl _)) (Nat.le_refl _), ?_⟩
        have h8 := HZ3.out
        have h9 := hB5.size
        rw [World.size_alloc]
        omega
      have HS3 : Hid (∀ v5 w5 v7 w7, Below W3.heap.size W3 w5 → w5.ownsRow (w2.heap.size + 1) 58 5 v5 (es.take q).length (mlCells (es.take q)) → w7.ownsRow (w2.heap.size + 1) 58 5 v7 ((es.take q).length + [e].length) (mlCells (es.take q) ++ mlCells [e]) → (w5.alloc (.cells #[.int .i64 e.n, .int .i64 e.f, .int .i64 e.t, .slice e.a e.d.length e.c, .bool e.s] 58)).grownBy w7 v5.ownBlock → Below w2.heap.size w2 w7 ∧ w7.ownsRow (w2.heap.size + 1) 58 5 v7 (es.take q ++ [e]).length (mlCells (es.take q ++ [e])) ∧ MlsAt w7.heap.size w7 A (es.drop q) ∧ w2.heap.size + 1 ≤ w7.heap.size) := fun v5 w5 v7 w7 hB5 hr q1 q2 => by
        have hBw := (HX3.out w5 hB5).2.2
        have h8 := HZ3.out
        have h9 := hB5.size
        have hBa : Below w2.heap.size w2 (w5.alloc (.cells #[.int .i64 e.n, .int .i64 e.f, .int .i64 e.t, .slice e.a e.d.length e.c, .bool e.s] 58)) := hBw.alloc hBw.size _
        have hB7 : Below w2.heap.size w2 w7 := hBa.grown q2 (by rw [World.size_alloc]; omega) (fun k hk => by have := (hr.lt k hk).1; omega)
        refine ⟨hB7, ?_, (HMA.out w7 hB7).2, ?_⟩
        · rw [mlCells_append, List.length_append]; exact q1
        · have := q2.size
          rw [World.size_alloc] at this
          omega
      have HS4 : Hid (∀ v7 w7 v8 w8, Below w2.heap.size w2 w7 → w7.ownsRow (w2.heap.size + 1) 58 5 v7 (es.take q ++ [e]).length (mlCells (es.take q ++ [e])) → w8.ownsRow (w2.heap.size + 1) 58 5 v8 ((es.take q ++ [e]).length + (es.drop q).length) (mlCells (es.take q ++ [e]) ++ mlCells (es.drop q)) → w7.grownBy w8 v7.ownBlock → (w8.cell? ⟨b, 1, none⟩ = some (.slice (some ⟨g, 0, none⟩) es.length vn) ∧ w8.frozen? ⟨b, 1, none⟩ = false ∧ b < w8.heap.size ∧ ∃ sa sl sc, v8 = .slice sa sl sc) ∧ RTh N S w (w8.setCell ⟨b, 1, none⟩ v8) b (P.move (k : Int) (q : Int)) C) := fun v7 w7 v8 w8 hB7 hr q1 q2 => by
        have hB8 : Below w2.heap.size w2 w8 := hB7.grown q2 hB7.size (fun k hk => by have := (hr.lt k hk).1; omega)
        obtain ⟨p1, p2, p3⟩ := HBL.out w8 hB8
        obtain ⟨sa, sc, hsh⟩ := row_shape q1
        exact ⟨⟨p1, p2, p3, sa, _, sc, hsh⟩, HFIN.out w8 v8 hB8 (rowBase q1 (by omega))⟩
      have hN8 : True := trivial
      clear HMA HFIN HB4 HO2 hl2 hlen
      go_wp2_with (first
        | (at_builtin; (try rw [HW3.out]); refine wpList_append_mls tyR rfl _ _ rfl (w2.heap.size + 1) (W3.alloc (.cells #[] 58)).heap.size (.slice (some ⟨w2.heap.size + 1, 0, none⟩) 0 0) (some ⟨g, 0, none⟩) vn [] (es.take q) rfl HOW (by rw [htl]; rfl) hsl5 hlen5 hN5 ?_; intro v5 w5 q1 q2 q3; obtain ⟨hB5, hr5⟩ := HS1.out v5 w5 q1 q2; obtain ⟨hX5, hw5, -⟩ := HX3.out w5 hB5; obtain ⟨⟨x0, x1, x2, x3, x4⟩, -⟩ := cells5 hX5; obtain ⟨hrow7, hsl7, hN7⟩ := HS2.out v5 w5 hB5 hr5; clear q1 q2 q3 hX5)
        | (at_builtin; refine wpList_append_mls tyR rfl _ _ rfl (w2.heap.size + 1) (w5.heap.size + 1) v5 (some ⟨w5.heap.size, 0, none⟩) 1 (es.take q) [e] rfl hrow7 rfl hsl7 hlen7 hN7 ?_; intro v7 w7 q1 q2 q3; obtain ⟨hB7, hr7, hsl8, hN8'⟩ := HS3.out v5 w5 v7 w7 hB5 hr5 q1 q2; obtain ⟨c7, -, hb7⟩ := HBL.out w7 hB7; clear q1 q2 q3 hrow7 hsl7 hN7)
        | (at_builtin; refine wpList_append_mls tyR rfl _ _ rfl (w2.heap.size + 1) w7.heap.size v7 A (vn - q) (es.take q ++ [e]) (es.drop q) rfl hr7 (by rw [hdl]; first | rfl | (simp [Act.eval]; exact hA)) hsl8 hlen8 hN8' ?_; intro v8 w8 q1 q2 q3; obtain ⟨⟨n1, nf, nb, sa, sl, sc, hsh⟩, hT⟩ := HS4.out v7 w7 v8 w8 hB7 hr7 q1 q2; have HT : Hid (RTh _ _ _ _ _ _ _) := hT; clear q1 q2 q3 hT; subst hsh))
      go_ret
      exact ⟨rfl, HT.out⟩
end Go.Proofs.Ytefbfjlmhfmiiaa
