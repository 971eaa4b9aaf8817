/-
  For every bytes and every place the law FrameGets returns true: Get and One answer what the document says, in memory of their own, and what was handed in stays; no condition.
-/
import Derived.Test.YthhnjiodfbckcaaRowIn
import Derived.Test.YthhnjiodfbckcaaRefGet
import Derived.Test.YthhnjiodfbckcaaSums
namespace Go.Proofs.Ythhnjiodfbckcaa
open Go.ChangeShapes Go.WideShapes Go.ChangeAt Go.RowKit
open Go.ChangeMaps (open_string shut_string)
set_option linter.unusedVariables false

theorem getAt_len (l : List UInt8) (i : Int) : (getAt l i).1.length ≤ l.length := by
  unfold getAt
  split
  · simp
  · unfold getFront
    split
    · simp
    · split
      · simp
      · split
        · simp
        · split
          · simp
          · simp; omega

theorem Sl.narrow {N M : Nat} {w : World} {g n c : Nat} {l : List UInt8} (h : Sl N w (.slice (some ⟨g, 0, none⟩) n c) l) (hg : g < M) : Sl M w (.slice (some ⟨g, 0, none⟩) n c) l := by
  obtain ⟨a, cap, e, h1, h2, h3⟩ := h
  cases e
  refine ⟨_, _, rfl, h1, h2, ?_⟩
  rcases h3 with h3 | ⟨b, off, e, hb, hc⟩
  · exact .inl h3
  · cases e
    exact .inr ⟨_, _, rfl, hg, hc⟩

set_option maxRecDepth 100000 in
set_option maxHeartbeats 4000000 in
theorem frameGets_walk0 (v : Value) (l : List UInt8) (i : Int) (w : World) (hv : Sl w.heap.size w v l) (hi : i ≤ 9223372036854775807) :
    Calls Try.prog 4 #[v, .int .i64 i] w fun e w' => e = .returned (.bool true) ∧ Below w.heap.size w w' := by
  obtain ⟨a, c, rfl, -⟩ := id hv
  by_cases hl : l.length ≤ 4000
  · go_enter Try.func4, Try.ntmps4
    go_wp2_with fail
    refine (first_any _).mono ?_
    rintro e w1 ⟨rfl, hB1⟩
    have hz1 := hB1.size
    have hv1 := hv.below hB1
    go_wp2_with fail
    refine (lent_any w.heap.size _ l _ hv1 hz1 (by omega)).mono ?_
    rintro e w2 ⟨g, cap, rfl, hO2, hB2⟩
    have hz2 := hB2.size
    have HW2 : Hid (Below w.heap.size w w2) := hB1.trans (hB2.mono hz1)
    clear hB1 hB2 hv1
    have hs2 := hO2.lent (Nat.le_refl w2.heap.size)
    have HG2 : Hid (g < w2.heap.size) := (World.ownsRow.lt hO2 g rfl).2
    go_wp2_with fail
    refine (get_any _ _ l i w2 hs2 (Nat.le_refl _) (by omega) hi).mono ?_
    rintro e w3 ⟨v3, rfl, hP3, hB3⟩
    obtain ⟨a3, c3, rfl, -⟩ := hP3.shape
    have hz3 := hB3.size
    have HW3 : Hid (Below w.heap.size w w3) := HW2.out.trans (hB3.mono (by omega))
    have hO3 := hO2.below hB3 (Nat.le_refl _)
    have hs3 := hs2.below hB3
    clear hB3 hO2 hs2
    go_wp2_with fail
    refine (one_any _ _ l w3 hs3 hz3 (by omega)).mono ?_
    rintro e w4 ⟨v4, rfl, hQ4, hB4⟩
    obtain ⟨a4, c4, rfl, -⟩ := hQ4.shape
    have hz4 := hB4.size
    have HW4 : Hid (Below w.heap.size w w4) := HW3.out.trans (hB4.mono (by omega))
    have hO4 := hO3.below hB4 (Nat.le_refl _)
    have hP4 := hP3.below hB4 (Nat.le_refl _)
    clear hB4 hO3 hs3 hP3
    go_wp2_with fail
    refine (kept_any _ g cap _ l w4 (by omega) hO4 ((hv.below HW4.out).mono HW4.out.size)).mono ?_
    rintro e w5 ⟨rfl, n5, rfl⟩
    have hB5 : Below w4.heap.size w4 (w4.drewN n5) := below_drewN (Below.refl _ _) n5
    generalize w4.drewN n5 = w5 at *
    have hz5 := hB5.size
    have HW5 : Hid (Below w.heap.size w w5) := HW4.out.trans (hB5.mono (by omega))
    have hO5 := hO4.below hB5 (Nat.le_refl _)
    have hP5 := hP4.below hB5 (Nat.le_refl _)
    have hQ5 := hQ4.below hB5 (Nat.le_refl _)
    clear hB5 hO4 hP4 hQ4
    go_wp2_with fail
    refine (refGet_any w.heap.size _ l i w5 (hv.below HW5.out) HW5.out.size (by omega)).mono ?_
    rintro e w6 ⟨v6, rfl, hX6, hB6⟩
    obtain ⟨a6, c6, rfl, -⟩ := hX6.shape
    have hz6 := hB6.size
    have HW6 : Hid (Below w.heap.size w w6) := HW5.out.trans (hB6.mono (by omega))
    have hO6 := hO5.below hB6 (Nat.le_refl _)
    have hP6 := hP5.below hB6 (Nat.le_refl _)
    have hQ6 := hQ5.below hB6 (Nat.le_refl _)
    clear hB6 hO5 hP5 hQ5
    go_wp2_with fail
    refine (refOne_any w.heap.size _ l w6 (hv.below HW6.out) HW6.out.size (by omega)).mono ?_
    rintro e w7 ⟨v7, rfl, hY7, hB7⟩
    obtain ⟨a7, c7, rfl, -⟩ := hY7.shape
    have hz7 := hB7.size
    have HW7 : Hid (Below w.heap.size w w7) := HW6.out.trans (hB7.mono (by omega))
    have hO7 := hO6.below hB7 (Nat.le_refl _)
    have hP7 := hP6.below hB7 (Nat.le_refl _)
    have hQ7 := hQ6.below hB7 (Nat.le_refl _)
    have hX7 := hX6.below hB7 (Nat.le_refl _)
    clear hB7 hO6 hP6 hQ6 hX6
    go_wp2_with fail
    refine (same_any _ _ _ _ _ w7 (hP7.sl (Nat.le_refl _)) (hX7.sl (Nat.le_refl _))).mono ?_
    rintro e w8 ⟨rfl, n8, rfl⟩
    simp only [decide_true]
    have hB8 : Below w7.heap.size w7 (w7.drewN n8) := below_drewN (Below.refl _ _) n8
    generalize w7.drewN n8 = w8 at *
    have hz8 := hB8.size
    have HW8 : Hid (Below w.heap.size w w8) := HW7.out.trans (hB8.mono (by omega))
    have hO8 := hO7.below hB8 (Nat.le_refl _)
    have hP8 := hP7.below hB8 (Nat.le_refl _)
    have hQ8 := hQ7.below hB8 (Nat.le_refl _)
    have hY8 := hY7.below hB8 (Nat.le_refl _)
    clear hB8 hO7 hP7 hQ7 hY7 hX7
    go_wp2_with fail
    refine (same_any _ _ _ _ _ w8 (hQ8.sl (Nat.le_refl _)) (hY8.sl (Nat.le_refl _))).mono ?_
    rintro e w9 ⟨rfl, n9, rfl⟩
    simp only [decide_true]
    have hB9 : Below w8.heap.size w8 (w8.drewN n9) := below_drewN (Below.refl _ _) n9
    generalize w8.drewN n9 = w9 at *
    have hz9 := hB9.size
    have HW9 : Hid (Below w.heap.size w w9) := HW8.out.trans (hB9.mono (by omega))
    have hO9 := hO8.below hB9 (Nat.le_refl _)
    have hP9 := hP8.below hB9 (Nat.le_refl _)
    have hpl := getAt_len l i
    generalize getAt l i = r at *
    obtain ⟨p, n, f⟩ := r
    generalize oneOf l = q at *
    obtain ⟨q, h⟩ := q
    simp only at hpl hP9 hO9 ⊢
    clear hB9 hO8 hP8 hQ8 hY8
    have HK : Hid (∀ wx, Below w2.heap.size w9 wx → Below w.heap.size w wx ∧ Sl wx.heap.size wx (.slice (some ⟨g, 0, none⟩) l.length cap) l ∧ Sl wx.heap.size wx (.slice a l.length c) l) := by
      intro wx hB
      have h1 := HW9.out.trans (hB.mono (by omega))
      have h2 := ((hO9.lent (Nat.le_refl _)).narrow HG2.out).below hB
      exact ⟨h1, h2.mono (Nat.le_trans (by omega) hB.size), (hv.below h1).mono h1.size⟩
    have HZ : Hid (w2.heap.size ≤ w9.heap.size) := by unfold Hid; omega
    clear hO9 hv HW2 HW3 HW4 HW5 HW6 HW7 HW8 HW9 HG2 hz1 hz2 hz3 hz4 hz5 hz6 hz7 hz8 hz9 hi
    go_wp2_with fail
    go_loopw [20] (fun i wr => ∃ (k : Nat) (m : List UInt8), i = .int .i64 (k : Int) ∧ k ≤ p.length ∧ m.length = p.length ∧ Ow w2.heap.size wr (.slice a3 p.length c3) m ∧ Below w2.heap.size w9 wr) (fun i _ => p.length - (intOf i).toNat)
    case atStart => exact ⟨0, p, rfl, by omega, rfl, hP9, Below.refl _ _⟩
    case round =>
      obtain ⟨k, m, rfl, hk, hm, hO, hB⟩ := hrel
      by_cases hlt : k < p.length
      · have hO' : Ow w2.heap.size wr (.slice a3 m.length c3) m := by rw [hm]; exact hO
        obtain ⟨gp, rfl, hgl, hlc, hcm, -⟩ := hO'.at0 (by omega)
        obtain ⟨k1, k2, k3⟩ := hO'.can k (by omega)
        have HF : Hid (Ow w2.heap.size (wr.setCell ⟨gp, k, none⟩ (.int .u8 0)) (.slice (some ⟨gp, 0, none⟩) p.length c3) (m.set k 0) ∧ Below w2.heap.size w9 (wr.setCell ⟨gp, k, none⟩ (.int .u8 0))) := by
          have := hO'.store k 0
          rw [hm] at this
          exact ⟨this, hB.setCell (p := ⟨gp, k, none⟩) k3 _⟩
        have hm2 : (m.set k 0).length = p.length := by simp [hm]
        have HM : Hid ((m.set k 0).length = p.length) := hm2
        rw [hm] at hlc
        unfold maxLen at hcm
        unfold encB at k1
        clear hO hO' hB hP9 hm hm2
        generalize byteAt m k = x at *
        go_wp2
        go_roundw
        case rel => exact ⟨k + 1, m.set k 0, by go_num, by omega, HM.out, HF.out.1, HF.out.2⟩
        case measure => simp [intOf]; omega
      · have hs2 := sl_new wr [1] #[.int .u8 1] (by simp) (by simp) (by rfl)
        have hO2 := hO.alloc (.cells #[.int .u8 1] 5)
        have hB2 := hB.alloc (Nat.le_trans HZ.out hB.size) (.cells #[.int .u8 1] 5)
        have hm1 : (m ++ [(1 : UInt8)]).length = p.length + 1 := by simp [hm]
        have hlt2 := World.ownsRow.lt hO2
        have hml : m.length ≤ 4000 := by omega
        have hlt' : decide ((k : Int) < (p.length : Int)) = false := by simp; omega
        have HE : Hid (w2.heap.size ≤ (wr.alloc (.cells #[.int .u8 1] 5)).heap.size) := Nat.le_trans HZ.out hB2.size
        clear hO hB hP9
        go_wp2_with (at_builtin; refine wpList_append_ow rfl _ _ rfl w2.heap.size _ _ _ m [1] rfl hO2 rfl hs2 (by simp; omega) HE.out ?_; intro v3 w3 hO3 hg3 hn3; obtain ⟨a9, c9, hv9, -⟩ := hO3.shape; rw [hm1] at hv9; subst hv9; obtain ⟨hBw, hsi, hsb⟩ := HK.out w3 (hB2.trans (below_grown hg3 HE.out (fun k e => (hlt2 k e).1))); clear hg3 hn3 hO3)
        go_wp2_with (first
          | (go_at_call 17; refine (num_any _ _).mono ?_; rintro e w' ⟨rfl, hw⟩; subst w')
          | (go_at_call 14; refine (same_any _ _ _ l l w3 hsi hsb).mono ?_; rintro e w4 ⟨rfl, n4, rfl⟩; simp only [decide_true]))
        go_ret
        exact ⟨rfl, below_drewN hBw n4⟩
  · have hl' : decide ((4000 : Int) < (l.length : Int)) = true := by simp; omega
    go_enter Try.func4, Try.ntmps4
    go_wp2_with fail
    refine (first_any _).mono ?_
    rintro e w1 ⟨rfl, hB1⟩
    go_wp2
    go_ret
    exact ⟨rfl, hB1⟩
theorem frameGets_walk (a0 : Option Addr) (len0 cap0 : Nat) (z0 : List Int) (a1 : Int) (w : World) (w0 : IsRow .u8 w a0 len0 cap0 z0) (w1 : (Lit.int .i64 a1).wf = true) :
    Calls Try.prog 4 #[.slice a0 len0 cap0, .int .i64 a1] w fun e w' => e = .returned (.bool true) ∧ Below w.heap.size w w' := by
  obtain ⟨l, rfl, hs⟩ := isRow_sl w0
  exact frameGets_walk0 _ l a1 w hs (by have := bounds_i64 w1; omega)

set_option maxRecDepth 100000 in
theorem frameGets_lifted (os : Os) (started : os.Started) (H : Type) (enc : TypeId × Value → H) :
    ReturnsInHanded {} Try.checked os 4 .any (Rows.frameGetsSpec.pre6 enc Try.prog Try.f4 Rows.frameGetsRow.domain false) (Rows.frameGetsSpec.post enc Try.prog Try.f4 false true false false) := by
  refine returnsInHanded_of_change (C := Try.checked) own started (by kernel_rfl) Try.func4
    (ChangeSpec.witness6 (enc := enc) (C := Try.checked) false ⟨#[], #[.slice none 0 0, .int .i64 0], []⟩ 8 (by kernel_rfl) (by kernel_rfl) (by kernel_rfl) (by kernel_rfl)) ?_
  intro W base args ds gs before hval0 hW hcnd _
  have hval : ∀ (j : Nat) t v, Try.f4.params[j]? = some t → args[j]? = some v → Value.okWide Try.prog W .any base t v := hval0
  have hW' := hW
  obtain ⟨p, q, hA0, hV, rfl, hfz, hnd⟩ := hW
  have hA : DataW.TrodAll enc Try.prog W 0 (fun _ => true) true Try.f4.params.toList args.toList ds p := hA0
  rw [Try.params4] at hA hval
  obtain ⟨v0, vs0, d0, ds0, p0, q0, hargs, rfl, rfl, h0, r0⟩ := trodAll_cons hA
  obtain ⟨v1, vs1, d1, ds1, p1, q1, rfl, rfl, rfl, h1, r1⟩ := trodAll_cons r0
  obtain ⟨rfl, rfl, rfl⟩ := trodAll_nil r1
  obtain rfl : args = #[v0, v1] := by cases args; simp_all
  obtain ⟨rfl, rfl⟩ := trodVars_none hV
  obtain ⟨a0, len0, cap0, rfl⟩ := okWide_slice Try.underlying22 (hval 0 22 v0 rfl rfl)
  have k0 := h0
  have lt0 : ∀ x ∈ p0, x.block < W.heap.size := by obtain ⟨m, hm⟩ := k0; exact DataW.trod_lt m _ _ _ hm
  obtain ⟨z0, w0⟩ : ∃ zs, IsRow .u8 W a0 len0 cap0 zs := by
    obtain ⟨fuel, hf⟩ := h0
    rcases open_ints Try.underlying22 Try.underlying5 (by kernel_rfl) hf with ⟨hcs, _⟩ | ⟨x, l, c, zs, hcs, _, hl, hm, hz, _, hcell, hwz⟩
    · simp [Value.cells] at hcs
      obtain ⟨rfl, rfl, rfl⟩ := hcs
      exact ⟨[], .inl ⟨rfl, rfl, rfl, rfl⟩⟩
    · simp [Value.cells] at hcs
      obtain ⟨rfl, rfl, rfl⟩ := hcs
      exact ⟨zs, .inr ⟨_, rfl, hl, hm, by simpa using hz, hcell, hwz⟩⟩
  obtain ⟨a1, rfl, rfl, rfl, w1⟩ := open_int Try.underlying3 (hval 1 3 v1 rfl rfl) h1
  clear hA0 hval0
  refine (frameGets_walk a0 len0 cap0 z0 a1 W w0 w1).mono fun e W' ⟨he, bel⟩ => ?_
  subst he
  exact ⟨_, rfl, _, _, _, [], _, [], hW', trodAll_mk1 (shut_bool Try.underlying4 _), (trodAll_cons_mk (Below.trod laidOut (by kernel_rfl) (of_decide_eq_true (by kernel_rfl)) k0 bel lt0) (trodAll_cons_mk (shut_int Try.underlying3 w1) trodAll_mk0)), rfl, bel.frame _, fun h => by cases h⟩

theorem frameGets_holds : Rows.FrameGetsSaid :=
  OpenClaim.holds_of_wide 4 Try.f4 rfl rfl rfl rfl rfl rfl rfl ⟨rfl, rfl, rfl, rfl, rfl⟩ rfl rfl rfl rfl rfl (by kernel_rfl) Try.func4 (by kernel_rfl)
    (of_decide_eq_true (by kernel_rfl)) (by unfold Func.isWrapper; first | (rw [if_pos (by decide +kernel)]; kernel_rfl) | (rw [if_neg (by decide +kernel)]; exact ⟨rfl, rfl⟩))
    (fun os started H enc _ => frameGets_lifted os started H enc)
#print axioms frameGets_holds
end Go.Proofs.Ythhnjiodfbckcaa
