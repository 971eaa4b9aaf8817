/-
  does, one kind of operations.
-/
import Derived.Test.YthaoobfldponpaaDm
namespace Go.Proofs.Ythaoobfldponpaa
open Go.RowKit
set_option linter.unusedVariables false

set_option maxRecDepth 100000 in
set_option maxHeartbeats 8000000 in
theorem does0 {N : Nat} {S S' : Nat → Prop} {w : World} {p R q R' : Nat} {la lb : List Int} {va vb : Value} (h : Qp N S S' w p R q R' la lb va vb) (hN : N ≤ w.heap.size) (k n ln : Int) (hf : la.length < R) :
    Calls Try.prog 11 #[.pointer (some ⟨p, 0, none⟩), .pointer (some ⟨q, 0, none⟩), va, vb, .int .i64 (R : Int), .int .i64 (R' : Int), .agg #[.int .i64 0, .int .i64 n, .int .i64 ln]] w fun e w' => Dn N w p R q R' (la ++ [n]) lb e w' := by
  have hR := h.qq.p.rm
  have hR' := h.qq.q.rm
  have hla := h.qq.p.len
  have hlb := h.qq.q.len
  obtain ⟨W, HW⟩ : ∃ W, Hid (w.alloc (.cells #[.int .i64 0, .int .i64 n, .int .i64 ln] 28) = W) := ⟨_, rfl⟩
  have HB : Hid (Below w.heap.size w W) := by rw [← HW.out]; exact (Below.refl _ _).alloc (Nat.le_refl _) _
  have HBX : Hid (W.heap[w.heap.size]? = some (.cells #[.int .i64 0, .int .i64 n, .int .i64 ln] 28 (0, 0))) := by rw [← HW.out]; exact heap_alloc_new w _
  have HQ : Hid (Qp N S S' W p R q R' la lb va vb) := h.below HB.out
  have HN : Hid (N ≤ W.heap.size) := Nat.le_trans hN HB.out.size
  have HWN : Hid (N ≤ w.heap.size) := hN
  have HBN : Hid (Below N w W) := HB.out.mono hN
  obtain ⟨aa, ac, rfl, hac1, hac2⟩ := h.ra.shape
  obtain ⟨ba, bc, rfl, hbc1, hbc2⟩ := h.rb.shape
  have hac3 : ac ≤ 9223372036854775807 := by unfold maxLen at hac2; omega
  have hbc3 : bc ≤ 9223372036854775807 := by unfold maxLen at hbc2; omega
  have HCX : Hid (∀ V : World, V.heap[w.heap.size]? = some (.cells #[.int .i64 0, .int .i64 n, .int .i64 ln] 28 (0, 0)) → V.cell? ⟨w.heap.size, 0, none⟩ = some (.int .i64 0) ∧ V.cell? ⟨w.heap.size, 1, none⟩ = some (.int .i64 n)) := fun V hV => by constructor <;> (simp only [World.cell?, hV]; rfl)
  have HKEEP : Hid (∀ {X : Nat → Prop} (V : World), Out X W V → (∀ i, X i → S i ∨ S' i) → V.heap[w.heap.size]? = some (.cells #[.int .i64 0, .int .i64 n, .int .i64 ln] 28 (0, 0))) := fun V hO hX => (hO.block _ (Array.getElem?_eq_some_iff.1 HBX.out).1 (fun e => by
    rcases hX _ e with e | e
    · have := h.qq.p.inn _ e; omega
    · have := h.qq.q.inn _ e; omega)).trans HBX.out
  have HAC : Hid (la.length ≤ ac ∧ ac ≤ maxLen) := ⟨hac1, hac2⟩
  have HBC : Hid (lb.length ≤ bc ∧ bc ≤ maxLen) := ⟨hbc1, hbc2⟩
  clear h hN hac1 hac2 hbc1 hbc2
  have hd1 : decide (la.length < R) = true := by simpa using hf
  have CP := put_any HQ.out.qq.p HN.out n
  rw [hd1] at CP
  have e1 : putL R la n = la ++ [n] := by unfold putL; rw [if_pos hf]
  rw [e1] at CP
  have HCP : Hid (Calls _ _ _ _ _) := CP
  have hl1 : ([] : List Int).length + la.length ≤ 1099511627776 := by simp; omega
  have hl2 : la.length + [n].length ≤ 1099511627776 := by simp; omega
  clear CP e1 hd1
  obtain ⟨x0, x1⟩ := HCX.out W HBX.out
  go_enter Try.func11, Try.ntmps11
  go_wp2_with fail
  rw [HW.out]
  refine HCP.out.mono ?_
  rintro e w2 ⟨rfl, t⟩
  obtain ⟨h1, h2, h3⟩ := HQ.out.one t
  have HB2 : Hid (Below N w w2) := HBN.out.trans (t.bel HN.out)
  have HN2 : Hid (N ≤ w2.heap.size) := Nat.le_trans HN.out t.out.size
  have hbx := HKEEP.out w2 t.out (fun i hi => .inl hi)
  obtain ⟨q0, d0⟩ := HCX.out w2 hbx
  have hgl : w.heap.size < w2.heap.size := (Array.getElem?_eq_some_iff.1 hbx).1
  have HD0 : Hid (∀ V, Below w2.heap.size w2 V → V.cell? ⟨w.heap.size, 1, none⟩ = some (.int .i64 n)) := fun V hB => (hB.cell (p := ⟨w.heap.size, 1, none⟩) hgl).trans d0
  have HSA : Hid (∀ V, Below w2.heap.size w2 V → Sl w2.heap.size V (.slice aa la.length ac) la) := fun V hB => (h2.1.sl (Nat.le_refl _)).below hB
  have HM0 : Hid (Mem w2.heap.size w2 w2.drew []) := Mem.start ((Below.refl _ _).drew) (Nat.le_refl _)
  have HR3 : Hid _ := h3
  have HQ1 : Hid (Qq _ _ _ _ _ _ _ _ _ _) := h1
  clear t h1 h2 h3 HCP x0 x1 HKEEP HCX hbx
  go_wp2_with fail
  go_region_held3 (fun w' => w'.cell? ⟨w.heap.size, 1, none⟩ = some (.int .i64 n)) (go_keep) (first
    | (have hm : Mem w2.heap.size w2 (w2.drew.alloc (.cells #[] 3)) [(.slice (some ⟨w2.heap.size, 0, none⟩) 0 0, [])] := (HM0.out.new0 (B := w2.heap.size) (by first | rfl | (rw [World.size_alloc]; rfl))); refine step_append_oq rfl (.tmp 34) (.tmp 35) rfl w2.heap.size w2.heap.size (.slice (some ⟨w2.heap.size, 0, none⟩) 0 0) (.slice aa la.length ac) [] la rfl hm.hd rfl (HSA.out _ hm.bel) hl1 hm.hN ?_; intro v_ab w_ab g1 g2 g3; rw [List.nil_append] at g1; obtain ⟨a_ab, c_ab, rfl, -, -⟩ := g1.shape; have HM_ab : Hid (Mem w2.heap.size w2 w_ab [(.slice a_ab la.length c_ab, la)]) := hm.app g1 g2 g3; have d1 := HD0.out w_ab HM_ab.out.bel; have hz1 := HM_ab.out.bel.size; have hgl1 := Nat.lt_of_lt_of_le hgl hz1; clear hm g1 g2 g3 HM0)
    | (have hm : Mem w2.heap.size w2 (w_ab.alloc (.cells #[.int .i64 n] 3)) [(.slice (some ⟨w_ab.heap.size, 0, none⟩) 1 1, [n]), (.slice a_ab la.length c_ab, la)] := (HM_ab.out.one n (B := w_ab.heap.size) (by first | rfl | (rw [World.size_alloc]; rfl))); replace hm := hm.swap; refine step_append_oq rfl (.tmp 36) (.tmp 39) rfl w2.heap.size _ (.slice a_ab la.length c_ab) (.slice (some ⟨w_ab.heap.size, 0, none⟩) 1 1) la [n] rfl hm.hd rfl (hm.snd.sl (Nat.le_refl _)) hl2 hm.hN ?_; intro v_ab_co w_ab_co g1 g2 g3; have HMF : Hid (Mem w2.heap.size w2 w_ab_co [(v_ab_co, (la ++ [n])), (.slice (some ⟨w_ab.heap.size, 0, none⟩) 1 1, [n])]) := (hm.app g1 g2 g3); have d1 := HD0.out w_ab_co HMF.out.bel; have hz1 := HMF.out.bel.size; have hgl1 := Nat.lt_of_lt_of_le hgl hz1; clear hm g1 g2 g3 HM_ab)
    | (have hm : Mem w2.heap.size w2 ((w2.drew.alloc (.cells #[] 3)).alloc (.cells #[.int .i64 n] 3)) [(.slice (some ⟨w2.heap.size + 1, 0, none⟩) 1 1, [n]), (.slice (some ⟨w2.heap.size, 0, none⟩) 0 0, [])] := ((HM0.out.new0 (B := w2.heap.size) (by first | rfl | (rw [World.size_alloc]; rfl))).one n (B := w2.heap.size + 1) (by first | rfl | (rw [World.size_alloc]; rfl))); replace hm := hm.swap; refine step_append_oq rfl (.tmp 34) (.tmp 35) rfl w2.heap.size w2.heap.size (.slice (some ⟨w2.heap.size, 0, none⟩) 0 0) (.slice aa la.length ac) [] la rfl hm.hd rfl (HSA.out _ hm.bel) hl1 hm.hN ?_; intro v_abo w_abo g1 g2 g3; rw [List.nil_append] at g1; obtain ⟨a_abo, c_abo, rfl, -, -⟩ := g1.shape; have HM_abo : Hid (Mem w2.heap.size w2 w_abo [(.slice a_abo la.length c_abo, la), (.slice (some ⟨w2.heap.size + 1, 0, none⟩) 1 1, [n])]) := hm.app g1 g2 g3; have d1 := HD0.out w_abo HM_abo.out.bel; have hz1 := HM_abo.out.bel.size; have hgl1 := Nat.lt_of_lt_of_le hgl hz1; clear hm g1 g2 g3 HM0)
    | (have hm : Mem w2.heap.size w2 w_abo [(.slice a_abo la.length c_abo, la), (.slice (some ⟨w2.heap.size + 1, 0, none⟩) 1 1, [n])] := HM_abo.out; refine step_append_oq rfl (.tmp 36) (.tmp 39) rfl w2.heap.size _ (.slice a_abo la.length c_abo) (.slice (some ⟨w2.heap.size + 1, 0, none⟩) 1 1) la [n] rfl hm.hd rfl (hm.snd.sl (Nat.le_refl _)) hl2 hm.hN ?_; intro v_abo_c w_abo_c g1 g2 g3; have HMF : Hid (Mem w2.heap.size w2 w_abo_c [(v_abo_c, (la ++ [n])), (.slice (some ⟨w2.heap.size + 1, 0, none⟩) 1 1, [n])]) := (hm.app g1 g2 g3); have d1 := HD0.out w_abo_c HMF.out.bel; have hz1 := HMF.out.bel.size; have hgl1 := Nat.lt_of_lt_of_le hgl hz1; clear hm g1 g2 g3 HM_abo)
    | (have hm : Mem w2.heap.size w2 ((w2.drew.alloc (.cells #[.int .i64 n] 3)).alloc (.cells #[] 3)) [(.slice (some ⟨w2.heap.size + 1, 0, none⟩) 0 0, []), (.slice (some ⟨w2.heap.size, 0, none⟩) 1 1, [n])] := ((HM0.out.one n (B := w2.heap.size) (by first | rfl | (rw [World.size_alloc]; rfl))).new0 (B := w2.heap.size + 1) (by first | rfl | (rw [World.size_alloc]; rfl))); refine step_append_oq rfl (.tmp 34) (.tmp 35) rfl w2.heap.size w2.heap.size (.slice (some ⟨w2.heap.size + 1, 0, none⟩) 0 0) (.slice aa la.length ac) [] la rfl hm.hd rfl (HSA.out _ hm.bel) hl1 hm.hN ?_; intro v_aob w_aob g1 g2 g3; rw [List.nil_append] at g1; obtain ⟨a_aob, c_aob, rfl, -, -⟩ := g1.shape; have HM_aob : Hid (Mem w2.heap.size w2 w_aob [(.slice a_aob la.length c_aob, la), (.slice (some ⟨w2.heap.size, 0, none⟩) 1 1, [n])]) := hm.app g1 g2 g3; have d1 := HD0.out w_aob HM_aob.out.bel; have hz1 := HM_aob.out.bel.size; have hgl1 := Nat.lt_of_lt_of_le hgl hz1; clear hm g1 g2 g3 HM0)
    | (have hm : Mem w2.heap.size w2 w_aob [(.slice a_aob la.length c_aob, la), (.slice (some ⟨w2.heap.size, 0, none⟩) 1 1, [n])] := HM_aob.out; refine step_append_oq rfl (.tmp 36) (.tmp 39) rfl w2.heap.size _ (.slice a_aob la.length c_aob) (.slice (some ⟨w2.heap.size, 0, none⟩) 1 1) la [n] rfl hm.hd rfl (hm.snd.sl (Nat.le_refl _)) hl2 hm.hN ?_; intro v_aob_c w_aob_c g1 g2 g3; have HMF : Hid (Mem w2.heap.size w2 w_aob_c [(v_aob_c, (la ++ [n])), (.slice (some ⟨w2.heap.size, 0, none⟩) 1 1, [n])]) := (hm.app g1 g2 g3); have d1 := HD0.out w_aob_c HMF.out.bel; have hz1 := HMF.out.bel.size; have hgl1 := Nat.lt_of_lt_of_le hgl hz1; clear hm g1 g2 g3 HM_aob)
    | fail)
  all_goals (go_wp2; go_ret3; exact ⟨_, _, _, _, rfl, HQ1.out.rowA HN2.out HMF.out.bel HMF.out.hd HR3.out.1 HR3.out.2, HB2.out.trans (HMF.out.bel.mono HN2.out)⟩)

end Go.Proofs.Ythaoobfldponpaa
