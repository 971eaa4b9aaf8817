/-
  does, one kind of operations.
-/
import Derived.Test.YthaoobfldponpaaDm
namespace Go.Proofs.Ythaoobfldponpaa
open Go.RowKit
set_option linter.unusedVariables false

set_option maxRecDepth 100000 in
set_option maxHeartbeats 8000000 in
theorem does1 {N : Nat} {S S' : Nat → Prop} {w : World} {p R q R' : Nat} {la lb : List Int} {va vb : Value} (h : Qp N S S' w p R q R' la lb va vb) (hN : N ≤ w.heap.size) (k n ln : Int) (x : Int) (l : List Int) (he : la = x :: l) :
    Calls Try.prog 11 #[.pointer (some ⟨p, 0, none⟩), .pointer (some ⟨q, 0, none⟩), va, vb, .int .i64 (R : Int), .int .i64 (R' : Int), .agg #[.int .i64 1, .int .i64 n, .int .i64 ln]] w fun e w' => Dn N w p R q R' l lb e w' := by
  have hR := h.qq.p.rm
  have hR' := h.qq.q.rm
  have hla := h.qq.p.len
  have hlb := h.qq.q.len
  obtain ⟨W, HW⟩ : ∃ W, Hid (w.alloc (.cells #[.int .i64 1, .int .i64 n, .int .i64 ln] 28) = W) := ⟨_, rfl⟩
  have HB : Hid (Below w.heap.size w W) := by rw [← HW.out]; exact (Below.refl _ _).alloc (Nat.le_refl _) _
  have HBX : Hid (W.heap[w.heap.size]? = some (.cells #[.int .i64 1, .int .i64 n, .int .i64 ln] 28 (0, 0))) := by rw [← HW.out]; exact heap_alloc_new w _
  have HQ : Hid (Qp N S S' W p R q R' la lb va vb) := h.below HB.out
  have HN : Hid (N ≤ W.heap.size) := Nat.le_trans hN HB.out.size
  have HWN : Hid (N ≤ w.heap.size) := hN
  have HBN : Hid (Below N w W) := HB.out.mono hN
  obtain ⟨aa, ac, rfl, hac1, hac2⟩ := h.ra.shape
  obtain ⟨ba, bc, rfl, hbc1, hbc2⟩ := h.rb.shape
  have hac3 : ac ≤ 9223372036854775807 := by unfold maxLen at hac2; omega
  have hbc3 : bc ≤ 9223372036854775807 := by unfold maxLen at hbc2; omega
  have HCX : Hid (∀ V : World, V.heap[w.heap.size]? = some (.cells #[.int .i64 1, .int .i64 n, .int .i64 ln] 28 (0, 0)) → V.cell? ⟨w.heap.size, 0, none⟩ = some (.int .i64 1) ∧ V.cell? ⟨w.heap.size, 1, none⟩ = some (.int .i64 n)) := fun V hV => by constructor <;> (simp only [World.cell?, hV]; rfl)
  have HKEEP : Hid (∀ {X : Nat → Prop} (V : World), Out X W V → (∀ i, X i → S i ∨ S' i) → V.heap[w.heap.size]? = some (.cells #[.int .i64 1, .int .i64 n, .int .i64 ln] 28 (0, 0))) := fun V hO hX => (hO.block _ (Array.getElem?_eq_some_iff.1 HBX.out).1 (fun e => by
    rcases hX _ e with e | e
    · have := h.qq.p.inn _ e; omega
    · have := h.qq.q.inn _ e; omega)).trans HBX.out
  have HAC : Hid (la.length ≤ ac ∧ ac ≤ maxLen) := ⟨hac1, hac2⟩
  have HBC : Hid (lb.length ≤ bc ∧ bc ≤ maxLen) := ⟨hbc1, hbc2⟩
  clear h hN hac1 hac2 hbc1 hbc2
  subst he
  have CP := peek_any HQ.out.qq.p
  have HPK : Hid (Calls _ _ _ _ _) := CP
  have CT := take_any HQ.out.qq.p HN.out
  have HTK : Hid (Calls _ _ _ _ _) := CT
  obtain ⟨g, c, hv, -, hcell, -⟩ := HQ.out.ra.at0 (by simp)
  cases hv
  have d00 : W.cell? ⟨g, 0, none⟩ = some (.int .i64 x) := by have := hcell 0 (by simp); simpa using this
  clear CP CT hcell
  by_cases hcap : ac = 1
  · subst hcap
    have hl0 : l = [] := by have := HAC.out.1; simp at this; exact this
    subst hl0
    have hl1 : ([] : List Int).length + ([] : List Int).length ≤ 1099511627776 := by simp
    obtain ⟨x0, x1⟩ := HCX.out W HBX.out
    go_enter Try.func11, Try.ntmps11
    go_wp2_with fail
    rw [HW.out]
    refine HPK.out.mono ?_
    rintro e w2 ⟨rfl, hw⟩
    subst w2
    go_wp2_with fail
    refine HTK.out.mono ?_
    rintro e w2 ⟨rfl, t⟩
    obtain ⟨h1, h2, h3⟩ := HQ.out.one t
    have HB2 : Hid (Below N w w2) := HBN.out.trans (t.bel HN.out)
    have HN2 : Hid (N ≤ w2.heap.size) := Nat.le_trans HN.out t.out.size
    obtain ⟨q0, q1⟩ := HCX.out w2 (HKEEP.out w2 t.out (fun i hi => .inl hi))
    obtain ⟨g', c', hv', -, hcell2, -⟩ := h2.1.at0 (by simp)
    simp only [Value.slice.injEq] at hv'
    obtain ⟨hg', -, -⟩ := hv'
    cases hg'
    have d0 : w2.cell? ⟨g, 0, none⟩ = some (.int .i64 x) := by have := hcell2 0 (by simp); simpa using this
    have hgl : g < w2.heap.size := (h2.1.lt rfl).2
    have HD0 : Hid (∀ V, Below w2.heap.size w2 V → V.cell? ⟨g, 0, none⟩ = some (.int .i64 x)) := fun V hB => (hB.cell (p := ⟨g, 0, none⟩) hgl).trans d0
    have HSA : Hid (∀ V, Below w2.heap.size w2 V → Sl w2.heap.size V (.slice (some ⟨g, 0, none⟩) 0 0) ([] : List Int)) := fun V hB => ⟨_, _, rfl, by simp, by unfold maxLen; omega, .inl rfl⟩
    have HM0 : Hid (Mem w2.heap.size w2 w2.drew []) := Mem.start ((Below.refl _ _).drew) (Nat.le_refl _)
    have HR3 : Hid _ := h3
    have HQ1 : Hid (Qq _ _ _ _ _ _ _ _ _ _) := h1
    clear t h1 h2 h3 HPK HTK hcell2 x0 x1 HKEEP HCX
    go_wp2_with fail
    go_region_held3 (fun w' => w'.cell? ⟨g, 0, none⟩ = some (.int .i64 x)) (go_keep) (first
      | (have hm : Mem w2.heap.size w2 (w2.drew.alloc (.cells #[] 3)) [(.slice (some ⟨w2.heap.size, 0, none⟩) 0 0, [])] := (HM0.out.new0 (B := w2.heap.size) (by first | rfl | (rw [World.size_alloc]; rfl))); refine step_append_oq rfl (.tmp 77) (.tmp 79) rfl w2.heap.size w2.heap.size (.slice (some ⟨w2.heap.size, 0, none⟩) 0 0) (.slice (some ⟨g, 0, none⟩) 0 0) [] [] rfl hm.hd rfl (HSA.out _ hm.bel) hl1 hm.hN ?_; intro v_ab w_ab g1 g2 g3; rw [List.nil_append] at g1; have HM_ab : Hid (Mem w2.heap.size w2 w_ab [(v_ab, [])]) := hm.app g1 g2 g3; have d1 := HD0.out w_ab HM_ab.out.bel; have hz1 := HM_ab.out.bel.size; have hgl1 := Nat.lt_of_lt_of_le hgl hz1; clear hm g1 g2 g3 HM0)
      | fail)
    all_goals (go_wp2; go_ret3; exact ⟨_, _, _, _, by simp, HQ1.out.rowA HN2.out HM_ab.out.bel HM_ab.out.hd HR3.out.1 HR3.out.2, HB2.out.trans (HM_ab.out.bel.mono HN2.out)⟩)

  · have HLC : Hid (l.length ≤ ac - 1) := by have := HAC.out.1; simp at this; show _ ≤ _; omega
    have HLM : Hid (ac - 1 ≤ maxLen) := by have := HAC.out.2; show _ ≤ _; omega
    have hc1 : (1 : Int) ≤ (ac : Int) := by have := HAC.out.1; simp at this; omega
    have hc2 : ¬ ac = 1 := hcap
    clear hcap
    have hl1 : ([] : List Int).length + l.length ≤ 1099511627776 := by simp; simp at hla; omega
    generalize hml : (x :: l).length = m at *
    have HML : Hid (l.length = m - 1 ∧ 1 ≤ m) := by show _ ∧ _; simp at hml; omega
    have hs1 : (1 : Int) ≤ (m : Int) := by have := HML.out; omega
    have hs0 : 0 < m := by have := HML.out; omega
    have hs2 : (m : Int) ≤ (ac : Int) := by have := HLC.out; have := HML.out; omega
    clear hml
    obtain ⟨x0, x1⟩ := HCX.out W HBX.out
    go_enter Try.func11, Try.ntmps11
    go_wp2_with fail
    rw [HW.out]
    refine HPK.out.mono ?_
    rintro e w2 ⟨rfl, hw⟩
    subst w2
    go_wp2_with fail
    refine HTK.out.mono ?_
    rintro e w2 ⟨rfl, t⟩
    obtain ⟨h1, h2, h3⟩ := HQ.out.one t
    have HB2 : Hid (Below N w w2) := HBN.out.trans (t.bel HN.out)
    have HN2 : Hid (N ≤ w2.heap.size) := Nat.le_trans HN.out t.out.size
    obtain ⟨q0, q1⟩ := HCX.out w2 (HKEEP.out w2 t.out (fun i hi => .inl hi))
    obtain ⟨g', c', hv', -, hcell2, -⟩ := h2.1.at0 (by simp)
    simp only [Value.slice.injEq] at hv'
    obtain ⟨hg', -, -⟩ := hv'
    cases hg'
    have d0 : w2.cell? ⟨g, 0, none⟩ = some (.int .i64 x) := by have := hcell2 0 (by simp); simpa using this
    have hgl : g < w2.heap.size := (h2.1.lt rfl).2
    have HD0 : Hid (∀ V, Below w2.heap.size w2 V → V.cell? ⟨g, 0, none⟩ = some (.int .i64 x)) := fun V hB => (hB.cell (p := ⟨g, 0, none⟩) hgl).trans d0
    have HSA : Hid (∀ V, Below w2.heap.size w2 V → Sl w2.heap.size V (.slice (some ⟨g, 1, none⟩) (m - 1) (ac - 1)) l) := fun V hB => Sl.below ⟨_, _, by rw [HML.out.1], HLC.out, HLM.out, .inr ⟨g, 1, rfl, hgl, fun i hi => by have := hcell2 (i + 1) (by simpa using hi); rw [Nat.add_comm 1 i]; simpa using this⟩⟩ hB
    have HM0 : Hid (Mem w2.heap.size w2 w2.drew []) := Mem.start ((Below.refl _ _).drew) (Nat.le_refl _)
    have HR3 : Hid _ := h3
    have HQ1 : Hid (Qq _ _ _ _ _ _ _ _ _ _) := h1
    clear t h1 h2 h3 HPK HTK hcell2 x0 x1 HKEEP HCX
    go_wp2_with fail
    go_region_held3 (fun w' => w'.cell? ⟨g, 0, none⟩ = some (.int .i64 x)) (go_keep) (first
      | (have hm : Mem w2.heap.size w2 (w2.drew.alloc (.cells #[] 3)) [(.slice (some ⟨w2.heap.size, 0, none⟩) 0 0, [])] := (HM0.out.new0 (B := w2.heap.size) (by first | rfl | (rw [World.size_alloc]; rfl))); refine step_append_oq rfl (.tmp 77) (.tmp 79) rfl w2.heap.size w2.heap.size (.slice (some ⟨w2.heap.size, 0, none⟩) 0 0) (.slice (some ⟨g, 1, none⟩) (m - 1) (ac - 1)) [] l rfl hm.hd rfl (HSA.out _ hm.bel) hl1 hm.hN ?_; intro v_ab w_ab g1 g2 g3; rw [List.nil_append] at g1; have HM_ab : Hid (Mem w2.heap.size w2 w_ab [(v_ab, l)]) := hm.app g1 g2 g3; have d1 := HD0.out w_ab HM_ab.out.bel; have hz1 := HM_ab.out.bel.size; have hgl1 := Nat.lt_of_lt_of_le hgl hz1; clear hm g1 g2 g3 HM0)
      | fail)
    all_goals (go_wp2; go_ret3; exact ⟨_, _, _, _, by simp, HQ1.out.rowA HN2.out HM_ab.out.bel HM_ab.out.hd HR3.out.1 HR3.out.2, HB2.out.trans (HM_ab.out.bel.mono HN2.out)⟩)


end Go.Proofs.Ythaoobfldponpaa
