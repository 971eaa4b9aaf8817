/-
  For every bytes and every place the law WireFronts returns true: what is read as a number, written again, is just those bytes, and its fronts are none; no condition.
-/
import Derived.Test.YtndgfkgfonfliabRowIn
import Derived.Test.YtndgfkgfonfliabCanon
namespace Go.Proofs.Ytndgfkgfonfliab
open Go.ChangeShapes Go.WideShapes Go.ChangeAt Go.RowKit
open Go.ChangeMaps (open_string shut_string)
set_option linter.unusedVariables false

theorem Sl.front {M : Nat} {w : World} {a : Option Addr} {cap : Nat} {l : List UInt8} (h : Sl M w (.slice a l.length cap) l) (k : Nat) (hk : k ≤ l.length) : Sl M w (.slice a k cap) (l.take k) := by
  obtain ⟨a', c, e, h1, h2, h3⟩ := h
  cases e
  have hlen : (l.take k).length = k := by simp; omega
  refine ⟨a, cap, by rw [hlen], by omega, h2, ?_⟩
  rcases h3 with h3 | ⟨b, off, e, hb, hc⟩
  · subst h3; exact .inl (by simp)
  · refine .inr ⟨b, off, e, hb, fun i hi => ?_⟩
    rw [hlen] at hi
    rw [hc i (by omega)]
    simp [hi]

theorem Sl.mid {M : Nat} {w : World} {b off cap : Nat} {l : List UInt8} (h : Sl M w (.slice (some ⟨b, off, none⟩) l.length cap) l) (a k : Nat) (hk : a + k ≤ l.length) (hk0 : 0 < k) : Sl M w (.slice (some ⟨b, off + a, none⟩) k (cap - a)) ((l.drop a).take k) := by
  obtain ⟨a', c, e, h1, h2, h3⟩ := h
  cases e
  have hlen : ((l.drop a).take k).length = k := by simp; omega
  refine ⟨_, _, by rw [hlen], by omega, by omega, ?_⟩
  rcases h3 with h3 | ⟨b', off', e, hb, hc⟩
  · subst h3; simp at hk; omega
  · cases e
    refine .inr ⟨b, off + a, rfl, hb, fun i hi => ?_⟩
    rw [hlen] at hi
    rw [Nat.add_assoc, hc (a + i) (by omega)]
    simp [hi, List.getElem?_drop]

set_option maxRecDepth 100000 in
set_option maxHeartbeats 4000000 in
theorem wireFronts_walk0 (v : Value) (l : List UInt8) (i : Int) (w : World) (hv : Sl w.heap.size w v l) :
    Calls Try.prog 3 #[v, .int .i64 i] w fun e w' => e = .returned (.bool true) ∧ Below w.heap.size w w' := by
  obtain ⟨av, c, rfl, hlc, hcm, hg⟩ := id hv
  by_cases hl : l.length ≤ 20000
  · by_cases he : (intAt l i).2.2 = 0
    · obtain ⟨a, k, n, rfl, hint, hk1, hk9, hak, hn, hnum, hshort⟩ := intAt_fronts l i he
      obtain ⟨b, off, rfl, hbM, -⟩ := hg.resolve_left (by intro h; subst h; simp at hak; omega)
      have HI : Hid (intAt l (a : Int) = (n, k, 0)) := hint
      have HS : Hid (intAt (l.take (a + k - 1)) (a : Int) = (0, 0, 2)) := hshort
      have pn : putB (n : Int) = (l.drop a).take k := by rw [← hnum]; simp [putB, isNumB]; omega
      have en : putE (n : Int) = 0 := by simp [putE, isNumB]; omega
      unfold maxLen at hcm
      clear hint hshort hnum he hg
      go_enter Try.func3, Try.ntmps3
      go_wp2_with fail
      refine (first_any _).mono ?_
      rintro e w1 ⟨rfl, hB1⟩
      have hz1 := hB1.size
      have hv1 := hv.below hB1
      go_wp2_with fail
      refine (wInt_any w.heap.size _ l _ _ hz1 hv1).mono ?_
      rintro e w2 ⟨rfl, hB2⟩
      rw [HI.out]
      unfold tup3
      have hz2 := hB2.size
      have hv2 := hv1.below (hB2.mono hz1)
      go_wp2_with fail
      refine (num_any _ _).mono ?_
      rintro e w' ⟨rfl, hw⟩; subst w'
      have t1 : decide ((k : Int) < 1) = false := by simp; omega
      have t2 : decide ((9 : Int) < (k : Int)) = false := by simp; omega
      have t3 : decide ((a : Int) < 0) = false := by simp
      have t4 : decide ((l.length : Int) - (k : Int) < (a : Int)) = false := by simp; omega
      go_wp2_with fail
      refine (put_any _ _).mono ?_
      rintro e w3 ⟨v3, rfl, hO3, hB3⟩
      have hz3 := hB3.size
      rw [pn] at hO3
      rw [en]
      obtain ⟨a3, c3, rfl, -, -⟩ := hO3.shape
      have hv3 := (hv2.below (hB3.mono (by omega))).mono (show w.heap.size ≤ w3.heap.size by omega)
      have hm3 := hv3.mid a k hak (by omega)
      have hf3 := hv3.front (a + k - 1) (by omega)
      have hs3 := hO3.sl (Nat.le_refl w3.heap.size)
      have HB3 : Hid (Below w.heap.size w w3) := (hB1.trans (hB2.mono hz1)).trans (hB3.mono (by omega))
      clear hO3 hv3 hv2 hv1 hv hB1 hB2 hB3 pn en
      have hlen3 : ((l.drop a).take k).length = k := by simp; omega
      have hca : a + k ≤ c := by omega
      rw [hlen3] at hs3 ⊢
      go_wp2_with fail
      refine (same_any _ _ _ _ _ _ hs3 hm3).mono ?_
      rintro e w4 ⟨rfl, n4, rfl⟩
      simp only [decide_true]
      have hf4 : Sl w3.heap.size (w3.drewN n4) (.slice (some ⟨b, off, none⟩) (a + k - 1) c) (l.take (a + k - 1)) := hf3.below ⟨rfl, rfl, rfl, Nat.le_refl _, fun _ _ => rfl⟩
      have HB4 : Hid (Below w.heap.size w (w3.drewN n4)) := HB3.out.trans ⟨rfl, rfl, rfl, Nat.le_refl _, fun _ _ => rfl⟩
      clear hs3 hm3 hf3
      go_wp2_with fail
      refine (wInt_any w3.heap.size _ (l.take (a + k - 1)) _ (w3.drewN n4) (show w3.heap.size ≤ (w3.drewN n4).heap.size from Nat.le_refl _) hf4).mono ?_
      rintro e w5 ⟨rfl, hB5⟩
      rw [HS.out]
      unfold tup3
      have HB5 : Hid (Below w.heap.size w w5) := HB4.out.trans (hB5.mono (show w.heap.size ≤ w3.heap.size by omega))
      clear hB5 hf4
      go_wp2_with (go_at_call 6; refine (num_any _ _).mono ?_; rintro e w' ⟨rfl, hw⟩; subst w')
      go_ret
      exact ⟨rfl, HB5.out⟩
    · have h0 : (intAt l i).1 = 0 ∧ (intAt l i).2.1 = 0 := by
        by_cases hi : i < 0 ∨ (l.length : Int) ≤ i
        · rw [intAt_off l i hi]; exact ⟨rfl, rfl⟩
        · obtain ⟨a, rfl⟩ := Int.eq_ofNat_of_zero_le (show 0 ≤ i by omega)
          exact (intAt_bd l a).2.2.2 he
      generalize hr : intAt l i = r at *
      obtain ⟨n, k, f⟩ := r
      have HR : Hid (intAt l i = (n, k, f)) := hr
      obtain ⟨rfl, rfl⟩ := h0
      have hf : ((f : Int) != 0) = true := by simp at he ⊢; omega
      clear hr he
      go_enter Try.func3, Try.ntmps3
      go_wp2_with fail
      refine (first_any _).mono ?_
      rintro e w1 ⟨rfl, hB1⟩
      have hz1 := hB1.size
      have hv1 := hv.below hB1
      go_wp2_with fail
      refine (wInt_any w.heap.size _ l _ _ hz1 hv1).mono ?_
      rintro e w2 ⟨rfl, hB2⟩
      rw [HR.out]
      unfold tup3
      go_wp2_with (go_at_call 6; refine (num_any _ _).mono ?_; rintro e w' ⟨rfl, hw⟩; subst w')
      go_ret
      exact ⟨rfl, hB1.trans (hB2.mono hz1)⟩
  · have hl2 : (20000 : Int) < (l.length : Int) := by omega
    go_enter Try.func3, Try.ntmps3
    go_wp2_with fail
    refine (first_any _).mono ?_
    rintro e w1 ⟨rfl, hB1⟩
    go_wp2
    go_ret
    exact ⟨rfl, hB1⟩

theorem wireFronts_walk (a0 : Option Addr) (len0 cap0 : Nat) (z0 : List Int) (a1 : Int) (w : World) (w0 : IsRow .u8 w a0 len0 cap0 z0) (w1 : (Lit.int .i64 a1).wf = true) :
    Calls Try.prog 3 #[.slice a0 len0 cap0, .int .i64 a1] w fun e w' => e = .returned (.bool true) ∧ Below w.heap.size w w' := by
  obtain ⟨l, rfl, hs⟩ := isRow_sl w0
  exact wireFronts_walk0 _ l a1 w hs

set_option maxRecDepth 100000 in
theorem wireFronts_lifted (os : Os) (started : os.Started) (H : Type) (enc : TypeId × Value → H) :
    ReturnsInHanded {} Try.checked os 3 .any (Rows.wireFrontsSpec.pre6 enc Try.prog Try.f3 Rows.wireFrontsRow.domain false) (Rows.wireFrontsSpec.post enc Try.prog Try.f3 false true false false) := by
  refine returnsInHanded_of_change (C := Try.checked) own started (by kernel_rfl) Try.func3
    (ChangeSpec.witness6 (enc := enc) (C := Try.checked) false ⟨#[], #[.slice none 0 0, .int .i64 0], []⟩ 8 (by kernel_rfl) (by kernel_rfl) (by kernel_rfl) (by kernel_rfl)) ?_
  intro W base args ds gs before hval0 hW hcnd _
  have hval : ∀ (j : Nat) t v, Try.f3.params[j]? = some t → args[j]? = some v → Value.okWide Try.prog W .any base t v := hval0
  have hW' := hW
  obtain ⟨p, q, hA0, hV, rfl, hfz, hnd⟩ := hW
  have hA : DataW.TrodAll enc Try.prog W 0 (fun _ => true) true Try.f3.params.toList args.toList ds p := hA0
  rw [Try.params3] at hA hval
  obtain ⟨v0, vs0, d0, ds0, p0, q0, hargs, rfl, rfl, h0, r0⟩ := trodAll_cons hA
  obtain ⟨v1, vs1, d1, ds1, p1, q1, rfl, rfl, rfl, h1, r1⟩ := trodAll_cons r0
  obtain ⟨rfl, rfl, rfl⟩ := trodAll_nil r1
  obtain rfl : args = #[v0, v1] := by cases args; simp_all
  obtain ⟨rfl, rfl⟩ := trodVars_none hV
  obtain ⟨a0, len0, cap0, rfl⟩ := okWide_slice Try.underlying22 (hval 0 22 v0 rfl rfl)
  have k0 := h0
  have lt0 : ∀ x ∈ p0, x.block < W.heap.size := by obtain ⟨m, hm⟩ := k0; exact DataW.trod_lt m _ _ _ hm
  obtain ⟨z0, w0⟩ : ∃ zs, IsRow .u8 W a0 len0 cap0 zs := by
    obtain ⟨fuel, hf⟩ := h0
    rcases open_ints Try.underlying22 Try.underlying5 (by kernel_rfl) hf with ⟨hcs, _⟩ | ⟨x, l, c, zs, hcs, _, hl, hm, hz, _, hcell, hwz⟩
    · simp [Value.cells] at hcs
      obtain ⟨rfl, rfl, rfl⟩ := hcs
      exact ⟨[], .inl ⟨rfl, rfl, rfl, rfl⟩⟩
    · simp [Value.cells] at hcs
      obtain ⟨rfl, rfl, rfl⟩ := hcs
      exact ⟨zs, .inr ⟨_, rfl, hl, hm, by simpa using hz, hcell, hwz⟩⟩
  obtain ⟨a1, rfl, rfl, rfl, w1⟩ := open_int Try.underlying3 (hval 1 3 v1 rfl rfl) h1
  clear hA0 hval0
  refine (wireFronts_walk a0 len0 cap0 z0 a1 W w0 w1).mono fun e W' ⟨he, bel⟩ => ?_
  subst he
  exact ⟨_, rfl, _, _, _, [], _, [], hW', trodAll_mk1 (shut_bool Try.underlying4 _), (trodAll_cons_mk (Below.trod laidOut (by kernel_rfl) (of_decide_eq_true (by kernel_rfl)) k0 bel lt0) (trodAll_cons_mk (shut_int Try.underlying3 w1) trodAll_mk0)), rfl, bel.frame _, fun h => by cases h⟩

theorem wireFronts_holds : Rows.WireFrontsSaid :=
  OpenClaim.holds_of_wide 3 Try.f3 rfl rfl rfl rfl rfl rfl rfl ⟨rfl, rfl, rfl, rfl, rfl⟩ rfl rfl rfl rfl rfl (by kernel_rfl) Try.func3 (by kernel_rfl)
    (of_decide_eq_true (by kernel_rfl)) (by unfold Func.isWrapper; first | (rw [if_pos (by decide +kernel)]; kernel_rfl) | (rw [if_neg (by decide +kernel)]; exact ⟨rfl, rfl⟩))
    (fun os started H enc _ => wireFronts_lifted os started H enc)
#print axioms wireFronts_holds
end Go.Proofs.Ytndgfkgfonfliab
