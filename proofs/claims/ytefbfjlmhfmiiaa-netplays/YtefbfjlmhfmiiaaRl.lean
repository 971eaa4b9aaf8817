/-
  The document's network: Link.
-/
import Derived.Test.YtefbfjlmhfmiiaaRla
namespace Go.Proofs.Ytefbfjlmhfmiiaa
open Go.RowKit
set_option linter.unusedVariables false

set_option maxRecDepth 100000 in
set_option maxHeartbeats 8000000 in
/-- Link. -/
theorem RLink_any {N : Nat} {S : Nat → Prop} {w : World} {b : Nat} {P : PN} {C : List Pr} (h : Rn N S w b P C) (hN : N ≤ w.heap.size) (x y : Int) (up : Bool) (hC : C.length ≤ 100000) :
    Calls Try.prog 35 #[.pointer (some ⟨b, 0, none⟩), .int .i64 x, .int .i64 y, .bool up] w fun r w' => r = .returned (.bool (P.two x y)) ∧ ∃ C', RTh N S w w' b (P.link x y up) C' ∧ C'.length ≤ C.length + 1 := by
  have HTW : Hid (Calls _ _ _ _ _) := rtwo_any h x y
  by_cases ht : P.two x y = true
  · obtain ⟨va, vn, es, ca, cn, hm, hl, -, -, -, -, -⟩ := h.cells
    have hbw := h.inn _ h.Sb
    have HBL : Hid (∀ wr, Below w.heap.size w wr → (wr.cell? ⟨b, 3, none⟩ = some (.slice ca C.length cn) ∧ wr.frozen? ⟨b, 3, none⟩ = false ∧ b < wr.heap.size)) := fun wr hB => by
      obtain ⟨⟨-, -, -, c3⟩, cf⟩ := cells4 ((hB.block b hbw).trans hm.blk)
      exact ⟨c3, cf 3, Nat.lt_of_lt_of_le hbw hB.size⟩
    have HBE : Hid (∃ u0 u1 u2 u3, w.heap[b]? = some (.cells #[u0, u1, u2, u3] 39 (0, 0))) := ⟨_, _, _, _, hm.blk⟩
    have HCUT : Hid (POw 0 w (.slice ca C.length cn) C) := hm.cut
    have HFIN : Hid (∀ wr v, Out (fun i => i = b) w wr → (∀ u0 u1 u2 u3, w.heap[b]? = some (.cells #[u0, u1, u2, u3] 39 (0, 0)) → ∃ u, wr.heap[b]? = some (.cells #[u0, u1, u2, u] 39 (0, 0))) → POw w.heap.size wr v (cutP (pairOf x y) up C) → RTh N S w (wr.setCell ⟨b, 3, none⟩ v) b (P.link x y up) (cutP (pairOf x y) up C)) := fun wr v hO hb hr => h.newCut hN hO hb hr (PN.link_n _ _ _ _) (PN.link_E _ _ _ _) (PN.link_k _ _ _ _) (PN.link_ok h.ok _ _ _) (h.cok.link h.ok ht up)
    have HLN : Hid ((cutP (pairOf x y) up C).length ≤ C.length + 1) := by
      show _ ≤ _
      unfold cutP
      rw [List.length_append]
      have := dropP_len (pairOf x y) C
      split <;> simp <;> omega
    rw [ht] at HTW ⊢
    clear h hm hl ht
    go_enter Try.func35, Try.ntmps35
    go_wp2_with fail
    refine HTW.out.mono ?_
    rintro r w1 ⟨rfl, hw⟩
    subst w1
    go_wp2_with fail
    go_loopw [9, 10] (fun ov iv wr => ∃ j : Nat, iv = .int .i64 (j : Int) ∧ j ≤ C.length ∧ POw w.heap.size wr ov (dropP (pairOf x y) (C.take j)) ∧ Below w.heap.size w wr) (fun _ iv _ => C.length - (intOf iv).toNat)
    case atStart => exact ⟨0, rfl, Nat.zero_le _, POw.nil _ _, Below.refl _ _⟩
    case round =>
      obtain ⟨k, rfl, hk, hr, hB⟩ := hrel
      have HR : Hid (POw w.heap.size wr u9 (dropP (pairOf x y) (C.take k))) := hr
      have HB : Hid (Below w.heap.size w wr) := hB
      obtain ⟨c3, cf3, hbr⟩ := HBL.out wr hB
      have HPA : Hid (∀ wz, Below w.heap.size w wz → Calls Try.prog 48 #[.int .i64 x, .int .i64 y] wz.drew fun e w' => e = .returned (.agg #[.int .i64 (pairOf x y).1, .int .i64 (pairOf x y).2]) ∧ Below wz.heap.size wz w') := fun wz _ => (pair_any x y wz.drew).mono fun e w' ⟨h1, h2⟩ => ⟨h1, ⟨h2.os, h2.tape, h2.output, h2.size, h2.block⟩⟩
      clear hr hB
      by_cases hlt : k < C.length
      · obtain ⟨g, rfl, hg, g0, g1⟩ := HCUT.out.at hlt
        have d0 := (HB.out.cell (p := ⟨g, k * 2, none⟩) hg).trans g0
        have d1 := (HB.out.cell (p := ⟨g, k * 2 + 1, none⟩) hg).trans g1
        have HKS := dropP_take_succ (p := pairOf x y) hlt
        obtain ⟨q, hq⟩ : ∃ q, C.getD k (0, 0) = q := ⟨_, rfl⟩
        rw [hq] at d0 d1 HKS
        have i0 : (0 : Int) ≤ (k : Int) := by omega
        have i1 : (k : Int) < (C.length : Int) := by omega
        have hgr : g < wr.heap.size := Nat.lt_of_lt_of_le hg HB.out.size
        have HCC : Hid (∀ w2, Below wr.heap.size wr w2 → (w2.cell? ⟨b, 3, none⟩ = some (.slice (some ⟨g, 0, none⟩) C.length cn) ∧ w2.cell? ⟨g, k * 2, none⟩ = some (.int .i64 q.1) ∧ w2.cell? ⟨g, k * 2 + 1, none⟩ = some (.int .i64 q.2) ∧ b < w2.heap.size ∧ g < w2.heap.size)) := fun w2 h2 => ⟨(h2.cell (p := ⟨b, 3, none⟩) hbr).trans c3, (h2.cell (p := ⟨g, k * 2, none⟩) hgr).trans d0, (h2.cell (p := ⟨g, k * 2 + 1, none⟩) hgr).trans d1, Nat.lt_of_lt_of_le hbr h2.size, Nat.lt_of_lt_of_le hgr h2.size⟩
        have HP1 : Hid (Calls _ _ _ _ _) := HPA.out wr HB.out
        clear g0 g1 hq HPA
        by_cases he : q = pairOf x y
        · rw [if_pos he, List.append_nil] at HKS
          have heq : ∀ W : World, (Op.equalIn 10000 67 (.agg #[.int .i64 q.1, .int .i64 q.2]) (.agg #[.int .i64 (pairOf x y).1, .int .i64 (pairOf x y).2])).run Try.prog W = .ok true W := fun W => by
            rw [run_eq_pair]
            congr 1
            simp [he]
          have HNX : Hid (∀ w2, Below wr.heap.size wr w2 → POw w.heap.size w2 u9 (dropP (pairOf x y) (C.take (k + 1))) ∧ Below w.heap.size w w2) := fun w2 h2 => ⟨by rw [HKS]; exact HR.out.below h2, HB.out.trans (h2.mono HB.out.size)⟩
          clear he HKS HR
          generalize pairOf x y = pp at *
          go_wp2_with fail
          go_region_held3 (fun w2 => w2.cell? ⟨b, 3, none⟩ = some (.slice (some ⟨g, 0, none⟩) C.length cn) ∧ w2.cell? ⟨g, k * 2, none⟩ = some (.int .i64 q.1) ∧ w2.cell? ⟨g, k * 2 + 1, none⟩ = some (.int .i64 q.2)) (go_keep)
            (first
              | (go_at_call 48; refine HP1.out.mono ?_; rintro r w2 ⟨rfl, hB2⟩; obtain ⟨s0, s1, s2, s3, s4⟩ := HCC.out w2 hB2; have HN2 : Hid (_ ∧ _) := HNX.out w2 hB2; clear hB2)
              | fail)
          go_wp2
          exact ⟨⟨k + 1, by go_num, by omega, HN2.out.1, HN2.out.2⟩, by simp [intOf]; omega⟩
        · rw [if_neg he] at HKS
          have heq : ∀ W : World, (Op.equalIn 10000 67 (.agg #[.int .i64 q.1, .int .i64 q.2]) (.agg #[.int .i64 (pairOf x y).1, .int .i64 (pairOf x y).2])).run Try.prog W = .ok false W := fun W => by
            rw [run_eq_pair]
            congr 1
            simp [he]
          have HNX : Hid (∀ w2, Below wr.heap.size wr w2 → POw w.heap.size w2 u9 (dropP (pairOf x y) (C.take k)) ∧ Below w.heap.size w w2) := fun w2 h2 => ⟨HR.out.below h2, HB.out.trans (h2.mono HB.out.size)⟩
          have HK2 : Hid (dropP (pairOf x y) (C.take (k + 1)) = dropP (pairOf x y) (C.take k) ++ [q]) := HKS
          have hlen5 : (dropP (pairOf x y) (C.take k)).length + 1 ≤ 1000000000 := by have := dropP_len (pairOf x y) (C.take k); rw [List.length_take] at this; omega
          clear he HKS HR
          generalize pairOf x y = pp at *
          go_wp2_with fail
          go_region_held3 (fun w2 => w2.cell? ⟨b, 3, none⟩ = some (.slice (some ⟨g, 0, none⟩) C.length cn) ∧ w2.cell? ⟨g, k * 2, none⟩ = some (.int .i64 q.1) ∧ w2.cell? ⟨g, k * 2 + 1, none⟩ = some (.int .i64 q.2)) (go_keep)
            (first
              | (go_at_call 48; refine HP1.out.mono ?_; rintro r w2 ⟨rfl, hB2⟩; obtain ⟨s0, s1, s2, s3, s4⟩ := HCC.out w2 hB2; have HN2 : Hid (_ ∧ _) := HNX.out w2 hB2; clear hB2)
              | fail)
          obtain ⟨hp2, hb2⟩ := HN2.out
          have hz2 := hb2.size
          have hp5 : POw w.heap.size (w2.alloc (.cells #[.int .i64 q.1, .int .i64 q.2] 67)) u9 (dropP pp (C.take k)) := hp2.alloc _
          obtain ⟨n0, n1⟩ := cells2 (heap_alloc_new w2 (.cells #[.int .i64 q.1, .int .i64 q.2] 67))
          have hN5 : w.heap.size ≤ (w2.alloc (.cells #[.int .i64 q.1, .int .i64 q.2] 67)).heap.size := by simp; omega
          have HFF : Hid (∀ v' w', POw w.heap.size w' v' (dropP pp (C.take k) ++ [q]) → (w2.alloc (.cells #[.int .i64 q.1, .int .i64 q.2] 67)).grownBy w' u9.ownBlock → POw w.heap.size w' v' (dropP pp (C.take (k + 1))) ∧ Below w.heap.size w w') := fun v' w' q1 q2 => ⟨by rw [HK2.out]; exact q1, (hb2.alloc hb2.size _).grown q2 hN5 (fun j hj => (hp2.lt hj).1)⟩
          clear hp2 hb2 HN2 HK2 HNX HCC
          generalize dropP pp (C.take k) = ks at *
          go_wp2_with (at_builtin; refine wpList_append_p rfl _ _ rfl w.heap.size u9 w2.heap.size 1 ks q rfl hp5 rfl n0 n1 hlen5 hN5 ?_; intro v' w' q1 q2 q3; obtain ⟨r1, r2⟩ := HFF.out v' w' q1 q2; have HR1 : Hid (POw _ _ _ _) := r1; have HR2 : Hid (Below _ _ _) := r2; clear q1 q2 q3 r1 r2 hp5 n0 n1 HFF)
          exact ⟨⟨k + 1, by go_num, by omega, HR1.out, HR2.out⟩, by simp [intOf]; omega⟩
      · have hke : k = C.length := by omega
        subst hke
        have hke' : (C.length : Int) ≤ (C.length : Int) := Int.le_refl _
        obtain ⟨sa, sc, hsh, -, -⟩ := HR.out.shape
        rw [List.take_length] at hsh HR
        subst hsh
        have HOO : Hid (Out (fun i => i = b) w wr) := Out.of_below HB.out
        cases up
        · obtain ⟨W1, hW1⟩ : ∃ W1, wr.setCell ⟨b, 3, none⟩ (.slice sa (dropP (pairOf x y) C).length sc) = W1 := ⟨_, rfl⟩
          have HW1 : Hid (wr.setCell ⟨b, 3, none⟩ (.slice sa (dropP (pairOf x y) C).length sc) = W1) := hW1
          have hz1 : W1.heap.size = wr.heap.size := by rw [← hW1, size_set]
          have hzw := HB.out.size
          have hO1 : Out (fun i => i = b) w W1 := by rw [← hW1]; exact HOO.out.trans (Out.set (X := fun i => i = b) rfl) (fun _ hi _ => hi)
          have hbk : ∀ u0 u1 u2 u3, w.heap[b]? = some (.cells #[u0, u1, u2, u3] 39 (0, 0)) → W1.heap[b]? = some (.cells #[u0, u1, u2, .slice sa (dropP (pairOf x y) C).length sc] 39 (0, 0)) := fun u0 u1 u2 u3 e => by rw [← hW1]; exact heap_set ((HB.out.block b hbw).trans e) 3 _
          have hr1 : POw w.heap.size W1 (.slice sa (dropP (pairOf x y) C).length sc) (dropP (pairOf x y) C) := by
            rw [← hW1]
            refine HR.out.out (X := fun i => i = b) (Out.set rfl) ?_
            rintro g hg rfl
            have := (HR.out.lt hg).1
            omega
          have HP : Hid (∀ n, Calls Try.prog 48 #[.int .i64 x, .int .i64 y] (W1.drewN n) fun e w' => e = .returned (.agg #[.int .i64 (pairOf x y).1, .int .i64 (pairOf x y).2]) ∧ Below W1.heap.size W1 w') := fun n => (pair_any x y (W1.drewN n)).mono fun e w' ⟨h1, h2⟩ => ⟨h1, ⟨h2.os, h2.tape, h2.output, h2.size, h2.block⟩⟩
          obtain ⟨u0, u1, u2, u3, hbw0⟩ : ∃ u0 u1 u2 u3, w.heap[b]? = some (.cells #[u0, u1, u2, u3] 39 (0, 0)) := HBE.out
          have hb1 := hbk _ _ _ _ hbw0
          obtain ⟨⟨-, -, -, y3⟩, yf⟩ := cells4 hb1
          have hbw1 : b < W1.heap.size := by omega
          have HAF : Hid (∀ w3, Below W1.heap.size W1 w3 → w3.cell? ⟨b, 3, none⟩ = some (.slice sa (dropP (pairOf x y) C).length sc) ∧ b < w3.heap.size ∧ POw w.heap.size (w3.alloc (.cells #[.int .i64 (pairOf x y).1, .int .i64 (pairOf x y).2] 67)) (.slice sa (dropP (pairOf x y) C).length sc) (dropP (pairOf x y) C) ∧ (w3.alloc (.cells #[.int .i64 (pairOf x y).1, .int .i64 (pairOf x y).2] 67)).cell? ⟨w3.heap.size, 0, none⟩ = some (.int .i64 (pairOf x y).1) ∧ (w3.alloc (.cells #[.int .i64 (pairOf x y).1, .int .i64 (pairOf x y).2] 67)).cell? ⟨w3.heap.size, 1, none⟩ = some (.int .i64 (pairOf x y).2) ∧ w.heap.size ≤ (w3.alloc (.cells #[.int .i64 (pairOf x y).1, .int .i64 (pairOf x y).2] 67)).heap.size) := fun w3 h3 => by
            obtain ⟨m0, m1⟩ := cells2 (heap_alloc_new w3 (.cells #[.int .i64 (pairOf x y).1, .int .i64 (pairOf x y).2] 67))
            have := h3.size
            exact ⟨(h3.cell (p := ⟨b, 3, none⟩) hbw1).trans y3, by omega, (hr1.below h3).alloc _, m0, m1, by simp; omega⟩
          have HF : Hid (∀ w3 w6 v', Below W1.heap.size W1 w3 → POw w.heap.size w6 v' (dropP (pairOf x y) C ++ [pairOf x y]) → (w3.alloc (.cells #[.int .i64 (pairOf x y).1, .int .i64 (pairOf x y).2] 67)).grownBy w6 (Value.slice sa (dropP (pairOf x y) C).length sc).ownBlock → (w6.cell? ⟨b, 3, none⟩ = some (.slice sa (dropP (pairOf x y) C).length sc) ∧ w6.frozen? ⟨b, 3, none⟩ = false ∧ b < w6.heap.size ∧ ∃ ta tc, v' = .slice ta ((dropP (pairOf x y) C).length + 1) tc) ∧ RTh N S w (w6.setCell ⟨b, 3, none⟩ v') b (P.link x y false) (cutP (pairOf x y) false C)) := fun w3 w6 v' h3 q1 q2 => by
            have h4 : Below W1.heap.size W1 (w3.alloc (.cells #[.int .i64 (pairOf x y).1, .int .i64 (pairOf x y).2] 67)) := h3.alloc h3.size _
            have hz4 := h4.size
            have hne : (Value.slice sa (dropP (pairOf x y) C).length sc).ownBlock ≠ some b := fun e => by have := (hr1.lt e).1; omega
            have hb6 : ∀ u, W1.heap[b]? = some u → w6.heap[b]? = some u := fun u e => (q2.block b (by omega) (fun e9 => hne e9.symm)).trans ((h4.block b hbw1).trans e)
            obtain ⟨⟨-, -, -, z3⟩, zf⟩ := cells4 (hb6 _ hb1)
            obtain ⟨ta, tc, hsh9, -, -⟩ := q1.shape
            have hO4 : Out (fun i => i = b) w (w3.alloc (.cells #[.int .i64 (pairOf x y).1, .int .i64 (pairOf x y).2] 67)) := hO1.trans (Y := fun _ => False) (Out.of_below h4) (fun _ hf _ => hf.elim)
            have hO6 : Out (fun i => i = b) w w6 := hO4.trans (Out.grown q2 (fun j hj => hj)) (fun j hj hlt => by have := (hr1.lt hj).1; omega)
            refine ⟨⟨z3, zf 3, by have := hO6.size; omega, ta, tc, ?_⟩, HFIN.out w6 v' hO6 (fun _ _ _ _ e => ⟨_, hb6 _ (hbk _ _ _ _ e)⟩) q1⟩
            rw [hsh9]
            simp
          have hlen9 : (dropP (pairOf x y) C).length + 1 ≤ 1000000000 := by have := dropP_len (pairOf x y) C; omega
          have f3 := yf 3
          clear HR hO1 hbk hr1 hb1 yf hW1 HFIN HPA HBL HCUT hbw0 HBE HOO
          generalize dropP (pairOf x y) C = ks at *
          generalize cutP (pairOf x y) false C = C9 at *
          generalize pairOf x y = pp at *
          go_wp2_with fail
          rw [HW1.out]
          clear HW1
          clear cf3 c3 f3
          go_region_law (first
            | (refine step_append_p rfl (.tmp 56) (.tmp 60) rfl w.heap.size (.slice sa ks.length sc) w3.heap.size 1 ks pp (by simp [Act.eval]) hp5 (by simp [Act.eval]) n0 n1 hlen9 hN5 ?_; intro v' w6 q1 q2 q3; obtain ⟨⟨o1, of, oz, ta, tc, hsh⟩, hT⟩ := HF.out w3 w6 v' HB4.out q1 q2; have HT : Hid (RTh _ _ _ _ _ _ _) := hT; clear q1 q2 q3 hT; subst hsh)
            | (go_simp; go_at_call 48; refine (HP.out 1).mono ?_; rintro r w3 ⟨rfl, hB3⟩; obtain ⟨e1, e2, hp5, n0, n1, hN5⟩ := HAF.out w3 hB3; have HB4 : Hid (Below W1.heap.size W1 w3) := hB3; clear hB3)
            | fail)
          all_goals (go_wp2; go_ret; exact ⟨rfl, C9, HT.out, HLN.out⟩)
        · have HT : Hid (RTh N S w (wr.setCell ⟨b, 3, none⟩ (.slice sa (dropP (pairOf x y) C).length sc)) b (P.link x y true) (cutP (pairOf x y) true C)) := HFIN.out wr _ HOO.out (fun _ _ _ u3 e => ⟨u3, (HB.out.block b hbw).trans e⟩) (by unfold cutP; rw [if_pos rfl, List.append_nil]; exact HR.out)
          clear HR HFIN HPA HBL HCUT
          generalize dropP (pairOf x y) C = ks at *
          generalize cutP (pairOf x y) true C = C9 at *
          go_wp2
          go_ret
          exact ⟨rfl, C9, HT.out, HLN.out⟩
  · have ht' : P.two x y = false := by simpa using ht
    have HT : Hid (RTh N S w w b (P.link x y up) C) := by
      show RTh _ _ _ _ _ _ _
      unfold PN.link
      rw [if_neg ht]
      exact h.th hN (Below.refl _ _)
    rw [ht'] at HTW ⊢
    clear h ht ht'
    go_enter Try.func35, Try.ntmps35
    go_wp2_with fail
    refine HTW.out.mono ?_
    rintro r w1 ⟨rfl, hw⟩
    subst w1
    go_wp2
    go_ret
    exact ⟨rfl, C, HT.out, by omega⟩
end Go.Proofs.Ytefbfjlmhfmiiaa
