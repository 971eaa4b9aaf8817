/-
  The document's network: Clear.
-/
import Derived.Test.YtefbfjlmhfmiiaaRd
namespace Go.Proofs.Ytefbfjlmhfmiiaa
open Go.RowKit
set_option linter.unusedVariables false

theorem rowMls {w wr : World} {v : Value} {es fs : List Ml} {v0 : Value} (h : MlsOw 58 0 w v0 es) (hf : ∀ e ∈ fs, e ∈ es) (hB : Below w.heap.size w wr) (hr : wr.ownsRow w.heap.size 58 5 v fs.length (mlCells fs)) : MlsOw 58 0 wr v fs := by
  refine ⟨⟨hr.1, ?_⟩, fun e he => (h.dat e (hf e he)).below hB (Nat.le_refl _)⟩
  rcases hr.2 with h2 | ⟨g, cap, cur, hv, hg', r⟩
  · exact .inl h2
  · exact .inr ⟨g, cap, cur, hv, Nat.zero_le _, r⟩

set_option maxRecDepth 100000 in
set_option maxHeartbeats 8000000 in
/-- Clear. -/
theorem RClear_any {N : Nat} {S : Nat → Prop} {w : World} {b : Nat} {P : PN} {C : List Pr} (h : Rn N S w b P C) (hN : N ≤ w.heap.size) (to : Int) :
    Calls Try.prog 36 #[.pointer (some ⟨b, 0, none⟩), .int .i64 to] w fun r w' => r = .returned (.int .i64 (P.clr to)) ∧ RTh N S w w' b (P.clear to) C := by
  obtain ⟨va, vn, es, ca, cn, hm, hl, hvc, hvm, -, -, hv1, hv2, hv3⟩ := h.cells
  have hbw := h.inn _ h.Sb
  have hrow := h.ok.row
  have HM : Hid (MlsAt w.heap.size w va es) := MlsOw.at (es := es) (by rw [hl]; exact hm.row)
  have hsy := keepE_says hm.says to
  have HEL : Hid (es.length = P.E.length) := hl
  have HBL : Hid (∀ wr, Below w.heap.size w wr → (wr.cell? ⟨b, 1, none⟩ = some (.slice va P.E.length vn) ∧ wr.frozen? ⟨b, 1, none⟩ = false ∧ b < wr.heap.size)) := fun wr hB => by
    obtain ⟨⟨-, c1, -, -⟩, cf⟩ := cells4 ((hB.block b hbw).trans hm.blk)
    exact ⟨c1, cf 1, Nat.lt_of_lt_of_le hbw hB.size⟩
  have HFIN : Hid (∀ wr v, Below w.heap.size w wr → wr.ownsRow w.heap.size 58 5 v (keepE to (es.take es.length)).length (mlCells (keepE to (es.take es.length))) → RTh N S w (wr.setCell ⟨b, 1, none⟩ v) b (P.clear to) C) := fun wr v hB hr => by
    rw [List.take_length] at hr
    have hr' := rowMls hm.row (fun e he => (List.mem_filter.1 he).1) hB hr
    exact (h.newRow (P' := P.clear to) (R := wr.heap.size) hN hm hv3 hB hr' (fun g hg => ⟨(hr.lt g hg).1, by have := (hr.lt g hg).2; omega⟩) (fun e he g hg => hv2 e (List.mem_filter.1 he).1 g hg) hsy rfl rfl rfl (PN.clear_ok h.ok to) hB.size (Out.refl _ _)).1
  have HCL : Hid ((keepE to (es.take es.length)).length = (clearE P.E to).length) := by show _ = _; rw [List.take_length, ← hsy]; simp
  unfold PN.clr
  rw [← hl]
  rw [← hl] at hrow
  clear h hm hv1 hv2 hv3 hsy hvc hvm
  rw [← hl] at HBL
  clear hl
  go_enter Try.func36, Try.ntmps36
  go_wp2_with fail
  go_loopw [5, 6, 7] (fun ov kv iv wr => ∃ (j q : Nat), iv = .int .i64 (j : Int) ∧ kv = .int .i64 (q : Int) ∧ j ≤ es.length ∧ q + (keepE to (es.take j)).length = j ∧ wr.ownsRow w.heap.size 58 5 ov (keepE to (es.take j)).length (mlCells (keepE to (es.take j))) ∧ Below w.heap.size w wr) (fun _ _ iv _ => es.length - (intOf iv).toNat)
  case atStart => exact ⟨0, 0, rfl, rfl, Nat.zero_le _, by simp [keepE], by simpa [keepE, mlCells] using World.ownsRow_nil _ _ _ _, Below.refl _ _⟩
  case round =>
    obtain ⟨j, q, rfl, rfl, hj, hq, hr, hB⟩ := hrel
    have HR : Hid (wr.ownsRow w.heap.size 58 5 u5 (keepE to (es.take j)).length (mlCells (keepE to (es.take j)))) := hr
    have HB : Hid (Below w.heap.size w wr) := hB
    have HQ : Hid (q + (keepE to (es.take j)).length = j) := hq
    obtain ⟨c1, cf, hbr⟩ := HBL.out wr hB
    clear hr hB
    by_cases hlt : j < es.length
    · obtain ⟨g, off, hea, hg, he⟩ := HM.out.at hlt
      subst hea
      have he1 := he.below hg HB.out
      have HKS := keepE_take_succ (to := to) hlt
      have hel : es.getD j nilMl = es.getD j nilMl := rfl
      obtain ⟨e, hee⟩ : ∃ e, es.getD j nilMl = e := ⟨_, rfl⟩
      rw [hee] at he1 HKS
      obtain ⟨d0, d1, d2, d3, d4, hsd⟩ := he1
      unfold Ml.x at d3
      have HSD : Hid (Sl w.heap.size wr e.x e.d) := hsd
      have i0 : (0 : Int) ≤ (j : Int) := by omega
      have i1 : (j : Int) < (es.length : Int) := by omega
      have hgr : g < wr.heap.size := Nat.lt_of_lt_of_le hg HB.out.size
      have hql : q ≤ j := by omega
      clear he hee hsd hel hq
      by_cases ht : e.t = to
      · rw [if_pos ht] at HKS
        have HK2 : Hid (keepE to (es.take (j + 1)) = keepE to (es.take j)) := HKS
        have ht' : (e.t == to) = true := by simpa using ht
        have HNX : Hid (q + 1 + (keepE to (es.take (j + 1))).length = j + 1) := by show _ = _; rw [HK2.out]; have := HQ.out; omega
        have HRX : Hid (wr.ownsRow w.heap.size 58 5 u5 (keepE to (es.take (j + 1))).length (mlCells (keepE to (es.take (j + 1))))) := by
          have := HR.out
          rw [← HK2.out] at this
          exact this
        clear HKS ht HQ HK2
        go_wp2
        exact ⟨⟨j + 1, q + 1, by go_num, by go_num, by omega, HNX.out, HRX.out, HB.out⟩, by simp [intOf]; omega⟩
      · rw [if_neg ht] at HKS
        have HK2 : Hid (keepE to (es.take (j + 1)) = keepE to (es.take j) ++ [e]) := HKS
        have ht' : (e.t == to) = false := by simpa using ht
        have HNX : Hid (q + (keepE to (es.take (j + 1))).length = j + 1) := by show _ = _; rw [HK2.out, List.length_append]; have := HQ.out; simp; omega
        have hrow5 : (wr.alloc (.cells #[.int .i64 e.n, .int .i64 e.f, .int .i64 e.t, .slice e.a e.d.length e.c, .bool e.s] 58)).ownsRow w.heap.size 58 5 u5 (keepE to (es.take j)).length (mlCells (keepE to (es.take j))) := World.ownsRow.alloc HR.out _
        have hsl5 := mls_one 58 wr e w.heap.size HSD.out HB.out.size
        have hlen5 : (keepE to (es.take j)).length + [e].length ≤ 1000000000 := by have := keepE_le to es j; simp; omega
        have hN5 : w.heap.size ≤ (wr.alloc (.cells #[.int .i64 e.n, .int .i64 e.f, .int .i64 e.t, .slice e.a e.d.length e.c, .bool e.s] 58)).heap.size := by have := HB.out.size; simp; omega
        have HFF : Hid (∀ v' w', w'.ownsRow w.heap.size 58 5 v' ((keepE to (es.take j)).length + [e].length) (mlCells (keepE to (es.take j)) ++ mlCells [e]) → (wr.alloc (.cells #[.int .i64 e.n, .int .i64 e.f, .int .i64 e.t, .slice e.a e.d.length e.c, .bool e.s] 58)).grownBy w' u5.ownBlock → w'.ownsRow w.heap.size 58 5 v' (keepE to (es.take (j + 1))).length (mlCells (keepE to (es.take (j + 1)))) ∧ Below w.heap.size w w') := fun v' w' q1 q2 => by
          refine ⟨by rw [HK2.out, mlCells_append, List.length_append]; exact q1, ?_⟩
          exact (HB.out.alloc HB.out.size _).grown q2 hN5 (fun k hk => (HR.out.lt k hk).1)
        clear HKS ht HQ HK2
        generalize keepE to (es.take j) = ks at *
        go_wp2_with (at_builtin; refine wpList_append_mls tyR rfl _ _ rfl w.heap.size (wr.heap.size + 1) u5 (some ⟨wr.heap.size, 0, none⟩) 1 ks [e] rfl hrow5 rfl hsl5 hlen5 hN5 ?_; intro v' w' q1 q2 q3; obtain ⟨r1, r2⟩ := HFF.out v' w' q1 q2; have HR1 : Hid (World.ownsRow _ _ _ _ _ _ _) := r1; have HR2 : Hid (Below _ _ _) := r2; clear q1 q2 q3 r1 r2 hrow5 hsl5 HFF)
        exact ⟨⟨j + 1, q, by go_num, rfl, by omega, HNX.out, HR1.out, HR2.out⟩, by simp [intOf]; omega⟩
    · have hje : j = es.length := by omega
      subst hje
      have hje' : (es.length : Int) ≤ (es.length : Int) := Int.le_refl _
      have HT : Hid (RTh N S w (wr.setCell ⟨b, 1, none⟩ u5) b (P.clear to) C) := HFIN.out wr u5 HB.out HR.out
      have HKK : Hid ((q : Int) = (es.length : Int) - ((clearE P.E to).length : Int)) := by show _ = _; rw [← HCL.out]; have := HQ.out; omega
      obtain ⟨sa, sc, hsh⟩ := row_shape HR.out
      rw [List.take_length] at hsh
      clear HR HFIN HM HQ hq HCL hj hlt
      subst hsh
      go_wp2
      go_ret
      exact ⟨by rw [← HKK.out]; rfl, HT.out⟩
end Go.Proofs.Ytefbfjlmhfmiiaa
