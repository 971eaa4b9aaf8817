/-
  For every int and every bytes the law FrameLong returns true: a payload at the limit and one above it; a length above it that stands ahead of anything; no condition.
-/
import Derived.Test.YthhnjiodfbckcaaRowIn
import Derived.Test.YthhnjiodfbckcaaJoin
import Derived.Test.YthhnjiodfbckcaaFact
import Derived.Test.YthhnjiodfbckcaaSums
import Derived.Laws.OwnMore
namespace Go.Proofs.Ythhnjiodfbckcaa
open Go.ChangeShapes Go.WideShapes Go.ChangeAt Go.RowKit
open Go.ChangeMaps (open_string shut_string)
set_option linter.unusedVariables false

theorem made_zero (n : Nat) : (madeCells (Value.cells (.int .u8 0)) (n * 1)).toList = (List.replicate n (0 : UInt8)).map encB := by
  have hs : (Value.cells (.int .u8 0)) = #[.int .u8 0] := rfl
  rw [hs, Nat.mul_one]
  apply List.ext_getElem
  · simp [madeCells]
  · intro i h1 h2
    simp [madeCells, encB, Nat.mod_one]

theorem make_zero (w : World) (n : Nat) (hn : n ≤ 16777216) :
    ∃ w', (Instr.makeSlice 22 (.int .i64 (n : Int)) (.int .i64 (n : Int))).run Try.prog w = .ok (.slice (some ⟨w.heap.size, 0, none⟩) n n) w' ∧ Ow w.heap.size w' (.slice (some ⟨w.heap.size, 0, none⟩) n n) (List.replicate n (0 : UInt8)) ∧ Below w.heap.size w w' := by
  obtain ⟨i0, hi, hz0, hz1, hz2⟩ := info_parts info5
  obtain ⟨w', h1, h2, h3⟩ := run_makeSlice_full (P := Try.prog) w w.heap.size 22 5 i0 (.int .u8 0) 1 Try.underlying22 hi hz0 hz1 .i64 .i64 n (by omega) (by rw [hz2]; omega) (by unfold maxLen; omega) (Nat.le_refl _)
  refine ⟨w', h1, ?_, (Below.refl _ w).grown h3 (Nat.le_refl _) (fun k e => by cases e)⟩
  unfold Ow
  rw [made_zero] at h2
  simpa using h2

theorem getAt_head (e : Nat) (he : e ≤ 2) (l : List UInt8) : getAt ([UInt8.ofNat (1 + e * 7), 0, 16, UInt8.ofNat e] ++ l) 0 = ([], 0, 3) := by
  unfold getAt
  rw [if_neg (by omega)]
  unfold getFront
  have hw : word4 ([UInt8.ofNat (1 + e * 7), 0, 16, UInt8.ofNat e] ++ l) = (1 + e * 7) + 16 * 65536 + e * 16777216 := by
    simp [word4, at0]; omega
  simp only [Int.toNat_zero, List.drop_zero]
  rw [hw, if_neg (by simp), if_pos (by omega)]

theorem tmod_three (i : Int) (h1 : -9223372036854775808 ≤ i) (h2 : i ≤ 9223372036854775807) : ∃ e : Nat, e ≤ 2 ∧ wrap64 ((wrap64 (i.tmod 3 + 3)).tmod 3 - 1) = (e : Int) - 1 := by
  have hb1 : -3 < i.tmod 3 := by have := Int.tmod_lt_of_pos (-i) (show (0 : Int) < 3 by decide); rw [Int.neg_tmod] at this; omega
  have hb2 : i.tmod 3 < 3 := Int.tmod_lt_of_pos i (by decide)
  have hw : wrap64 (i.tmod 3 + 3) = i.tmod 3 + 3 := by unfold wrap64; omega
  rw [hw]
  have hp : 0 ≤ i.tmod 3 + 3 := by omega
  rw [Int.tmod_eq_emod_of_nonneg hp]
  refine ⟨((i.tmod 3 + 3) % 3).toNat, by omega, ?_⟩
  unfold wrap64
  omega

set_option maxRecDepth 100000 in
set_option maxHeartbeats 4000000 in
theorem frameLong_walk0 (i : Int) (v : Value) (l : List UInt8) (w : World) (hv : Sl w.heap.size w v l) (hi1 : i ≤ 9223372036854775807) (hi2 : -9223372036854775808 ≤ i) :
    Calls Try.prog 7 #[.int .i64 i, v] w fun e w' => e = .returned (.bool true) ∧ Below w.heap.size w w' := by
  obtain ⟨a, c, rfl, -⟩ := id hv
  by_cases hl : l.length ≤ 4000
  · obtain ⟨x, hx, hd⟩ := tmod_three i hi2 hi1
    obtain ⟨n, hn⟩ : ∃ n, n = 1048575 + x := ⟨_, rfl⟩
    have hnw : wrap64 (1048576 + ((x : Int) - 1)) = (n : Int) := by unfold wrap64; omega
    go_enter Try.func7, Try.ntmps7
    go_wp2_with fail
    refine (first_any _).mono ?_
    rintro e w1 ⟨rfl, hB1⟩
    have hz1 := hB1.size
    have hv1 := hv.below hB1
    go_wp2_with fail
    simp only [hd]
    obtain ⟨w2, hmk, hO2, hB2⟩ := make_zero w1 n (by omega)
    have hpl : (List.replicate n (0 : UInt8)).length = n := by simp
    generalize List.replicate n (0 : UInt8) = p at *
    have hnn : (1048576 + ((x : Int) - 1)) = (n : Int) := by omega
    rw [hnn, hmk]
    clear hnn hmk hnw hd hi1 hi2
    subst hpl
    have HN : Hid (p.length = 1048575 + x) := hn
    have hpn : p.length ≤ 1048577 := by omega
    clear hn
    have hz2 := hB2.size
    have HW2 : Hid (Below w.heap.size w w2) := hB1.trans (hB2.mono hz1)
    clear hB1 hB2 hv1
    go_wp2_with fail
    refine (put_any w2.heap.size _ p w2 (hO2.sl (Nat.le_refl _)) (Nat.le_refl _)).mono ?_
    rintro e w3 ⟨v3, rfl, hP3, hB3⟩
    obtain ⟨a3, c3, rfl, -⟩ := hP3.shape
    have hz3 := hB3.size
    have HW3 : Hid (Below w.heap.size w w3) := HW2.out.trans (hB3.mono (by omega))
    have hO3 := hO2.below hB3 (Nat.le_refl _)
    clear hB3 hO2
    have hv3 := (hv.below HW3.out).mono HW3.out.size
    have hSS := sls_new (w := w3) (N := w3.heap.size) [l, p] [.slice a l.length c, .slice (some ⟨w1.heap.size, 0, none⟩) p.length p.length] (by simp) (by simp) (Nat.le_refl _) rfl (by intro i hi; rcases (by simp at hi; omega : i = 0 ∨ i = 1) with rfl | rfl; exact hv3; exact hO3.sl (Nat.le_refl _)) 22
    have hlong : anyLong [l, p] = decide (1048576 < p.length) := by simp [anyLong]; omega
    go_wp2_with fail
    refine (join_any _ _ [l, p] _ hSS (by simp) (fun h => by simp [joinB, frameB_len]; omega)).mono ?_
    rintro e w4 ⟨v4, rfl, hJ4, hB4⟩
    obtain ⟨a4, c4, rfl, -⟩ := hJ4.shape
    have hz4 := hB4.size
    simp only [World.size_alloc] at hz4
    have HW4 : Hid (Below w.heap.size w w4) := (HW3.out.alloc (by omega) _).trans (hB4.mono (by simp; omega))
    have hP4 := (hP3.alloc (.cells #[.slice a l.length c, .slice (some ⟨w1.heap.size, 0, none⟩) p.length p.length] 22)).below hB4 (by simp)
    have HJR : Hid ((joinR [l, p]).2 = if 1048576 < p.length then 3 else 0) := by
      unfold Hid joinR
      rw [hlong]
      by_cases h : 1048576 < p.length <;> simp [h]
    clear hB4 hP3 hSS hlong hv3 hO3 hJ4
    generalize joinR [l, p] = jr at *
    obtain ⟨j1, j2⟩ := jr
    simp only at HJR ⊢
    go_wp2_with fail
    refine (one_any w4.heap.size _ (putB p) w4 (hP4.sl (Nat.le_refl _)) (Nat.le_refl _) (by unfold putB; split <;> simp [frameB_len]; omega)).mono ?_
    rintro e w5 ⟨v5, rfl, hQ5, hB5⟩
    obtain ⟨a5, c5, rfl, -⟩ := hQ5.shape
    have hz5 := hB5.size
    have HW5 : Hid (Below w.heap.size w w5) := HW4.out.trans (hB5.mono (by omega))
    clear hB5 hP4 hQ5 HW2 HW3 HW4 hz1 hz2 hz3 hz4
    have hz5 := HW5.out.size
    have hv5 := hv.below HW5.out
    have hhead : (#[.int .u8 (1 + (x : Int) * 7), .int .u8 0, .int .u8 16, .int .u8 (x : Int)] : Array Value).toList = ([UInt8.ofNat (1 + x * 7), 0, 16, UInt8.ofNat x] : List UInt8).map encB := by
      rcases (by omega : x = 0 ∨ x = 1 ∨ x = 2) with rfl | rfl | rfl <;> rfl
    have hO6 := ow_new w5 [UInt8.ofNat (1 + x * 7), 0, 16, UInt8.ofNat x] _ (by simp) hhead
    have hB6 : Below w5.heap.size w5 (w5.alloc (.cells #[.int .u8 (1 + (x : Int) * 7), .int .u8 0, .int .u8 16, .int .u8 (x : Int)] 5)) := (Below.refl _ _).alloc (Nat.le_refl _) _
    have hGL := getAt_head x hx l
    have hhl : ([UInt8.ofNat (1 + x * 7), 0, 16, UInt8.ofNat x] ++ l).length = 4 + l.length := by simp; omega
    have HLL : Hid (([UInt8.ofNat (1 + x * 7), 0, 16, UInt8.ofNat x] : List UInt8).length = 4) := rfl
    have hhb : ([UInt8.ofNat (1 + x * 7), 0, 16, UInt8.ofNat x] : List UInt8).length + l.length ≤ 1099511627776 := by rw [HLL.out]; omega
    rw [HLL.out] at hO6
    generalize ([UInt8.ofNat (1 + x * 7), 0, 16, UInt8.ofNat x] : List UInt8) = hd at *
    have hv6 := hv5.below (hB6.mono hz5)
    have HW6 : Hid (Below w.heap.size w (w5.alloc (.cells #[.int .u8 (1 + (x : Int) * 7), .int .u8 0, .int .u8 16, .int .u8 (x : Int)] 5))) := HW5.out.trans (hB6.mono hz5)
    have hlt6 := World.ownsRow.lt hO6
    have hz6 := hB6.size
    have CG : Hid (∀ v7 w7, Ow w5.heap.size w7 v7 (hd ++ l) → Below w.heap.size w w7 → Calls Try.prog 18 #[v7, .int .i64 0] w7 fun e w' => (∃ v', e = .returned (.tuple #[v', .int .i64 0, .int .i64 3])) ∧ Below w.heap.size w w') := by
      intro v7 w7 h7 hB7
      refine Calls.mono (get_any w7.heap.size v7 (hd ++ l) 0 w7 (h7.sl (Nat.le_refl _)) (Nat.le_refl _) (by rw [hhl]; omega) (by omega)) ?_
      rw [hGL]
      rintro e w8 ⟨v8, rfl, -, hB8⟩
      exact ⟨⟨v8, rfl⟩, hB7.trans (hB8.mono hB7.size)⟩
    clear hGL hhead hB6 hv5 hv
    by_cases hlg : 1048576 < p.length
    · have e1 : putB p = [] := by unfold putB; rw [if_neg (by omega)]
      have e2 : putE p = 3 := by unfold putE; rw [if_neg (by omega)]
      have e3 := HJR.out
      rw [if_pos hlg] at e3
      rw [e1, e2, e3, oneOf_nil]
      have hx2 : decide ((1 : Int) < (x : Int)) = true := by have := HN.out; simp; omega
      clear e1 e2 e3 HJR HN
      go_wp2_with (first
        | (go_at_call 17; refine (num_any _ _).mono ?_; rintro e w' ⟨rfl, hw⟩; subst w')
        | (go_at_call 18; refine (CG.out _ w7 hO7 hB7).mono ?_; rintro e w8 ⟨⟨v8, rfl⟩, hB8⟩)
        | (at_builtin; refine wpList_append_ow rfl _ _ rfl w5.heap.size w.heap.size _ _ hd l rfl hO6 rfl hv6 hhb hz6 ?_; intro v7 w7 hO7 hg7 hn7; have hB7 := HW6.out.trans (below_grown hg7 HW6.out.size (fun k e => Nat.le_trans hz5 (hlt6 k e).1)); obtain ⟨a7, c7, hv7, -⟩ := hO7.shape; rw [hhl] at hv7; subst hv7; clear hg7 hn7))
      go_ret
      exact ⟨rfl, hB8⟩
    · have e1 : putB p = frameB p := by unfold putB; rw [if_pos (by omega)]
      have e2 : putE p = 0 := by unfold putE; rw [if_pos (by omega)]
      have e3 := HJR.out
      rw [if_neg hlg] at e3
      rw [e1, e2, e3, oneOf_frame p (by omega), frameB_len]
      have hx2 : decide ((1 : Int) < (x : Int)) = false := by have := HN.out; simp; omega
      have hq : (8 + (p.length : Int) == (p.length : Int) + 8) = true := by rw [beq_iff_eq]; omega
      clear e1 e2 e3 HJR HN
      simp only
      go_wp2_with (first
        | (go_at_call 17; refine (num_any _ _).mono ?_; rintro e w' ⟨rfl, hw⟩; subst w')
        | (go_at_call 18; refine (CG.out _ w7 hO7 hB7).mono ?_; rintro e w8 ⟨⟨v8, rfl⟩, hB8⟩)
        | (at_builtin; refine wpList_append_ow rfl _ _ rfl w5.heap.size w.heap.size _ _ hd l rfl hO6 rfl hv6 hhb hz6 ?_; intro v7 w7 hO7 hg7 hn7; have hB7 := HW6.out.trans (below_grown hg7 HW6.out.size (fun k e => Nat.le_trans hz5 (hlt6 k e).1)); obtain ⟨a7, c7, hv7, -⟩ := hO7.shape; rw [hhl] at hv7; subst hv7; clear hg7 hn7))
      go_ret
      exact ⟨rfl, hB8⟩
  · have hl' : decide ((4000 : Int) < (l.length : Int)) = true := by simp; omega
    go_enter Try.func7, Try.ntmps7
    go_wp2_with fail
    refine (first_any _).mono ?_
    rintro e w1 ⟨rfl, hB1⟩
    go_wp2
    go_ret
    exact ⟨rfl, hB1⟩
theorem frameLong_walk (a1 : Int) (a0 : Option Addr) (len0 cap0 : Nat) (z0 : List Int) (w : World) (w1 : (Lit.int .i64 a1).wf = true) (w0 : IsRow .u8 w a0 len0 cap0 z0) :
    Calls Try.prog 7 #[.int .i64 a1, .slice a0 len0 cap0] w fun e w' => e = .returned (.bool true) ∧ Below w.heap.size w w' := by
  obtain ⟨l, rfl, hs⟩ := isRow_sl w0
  have hb := bounds_i64 w1
  exact frameLong_walk0 a1 _ l w hs hb.2 hb.1

set_option maxRecDepth 100000 in
theorem frameLong_lifted (os : Os) (started : os.Started) (H : Type) (enc : TypeId × Value → H) :
    ReturnsInHanded {} Try.checked os 7 .any (Rows.frameLongSpec.pre6 enc Try.prog Try.f7 Rows.frameLongRow.domain false) (Rows.frameLongSpec.post enc Try.prog Try.f7 false true false false) := by
  refine returnsInHanded_of_change (C := Try.checked) own started (by kernel_rfl) Try.func7
    (ChangeSpec.witness6 (enc := enc) (C := Try.checked) false ⟨#[], #[.int .i64 0, .slice none 0 0], []⟩ 8 (by kernel_rfl) (by kernel_rfl) (by kernel_rfl) (by kernel_rfl)) ?_
  intro W base args ds gs before hval0 hW hcnd _
  have hval : ∀ (j : Nat) t v, Try.f7.params[j]? = some t → args[j]? = some v → Value.okWide Try.prog W .any base t v := hval0
  have hW' := hW
  obtain ⟨p, q, hA0, hV, rfl, hfz, hnd⟩ := hW
  have hA : DataW.TrodAll enc Try.prog W 0 (fun _ => true) true Try.f7.params.toList args.toList ds p := hA0
  rw [Try.params7] at hA hval
  obtain ⟨v0, vs0, d0, ds0, p0, q0, hargs, rfl, rfl, h0, r0⟩ := trodAll_cons hA
  obtain ⟨v1, vs1, d1, ds1, p1, q1, rfl, rfl, rfl, h1, r1⟩ := trodAll_cons r0
  obtain ⟨rfl, rfl, rfl⟩ := trodAll_nil r1
  obtain rfl : args = #[v0, v1] := by cases args; simp_all
  obtain ⟨rfl, rfl⟩ := trodVars_none hV
  obtain ⟨a1, rfl, rfl, rfl, w1⟩ := open_int Try.underlying3 (hval 0 3 v0 rfl rfl) h0
  obtain ⟨a0, len0, cap0, rfl⟩ := okWide_slice Try.underlying22 (hval 1 22 v1 rfl rfl)
  have k1 := h1
  have lt1 : ∀ x ∈ p1, x.block < W.heap.size := by obtain ⟨m, hm⟩ := k1; exact DataW.trod_lt m _ _ _ hm
  obtain ⟨z0, w0⟩ : ∃ zs, IsRow .u8 W a0 len0 cap0 zs := by
    obtain ⟨fuel, hf⟩ := h1
    rcases open_ints Try.underlying22 Try.underlying5 (by kernel_rfl) hf with ⟨hcs, _⟩ | ⟨x, l, c, zs, hcs, _, hl, hm, hz, _, hcell, hwz⟩
    · simp [Value.cells] at hcs
      obtain ⟨rfl, rfl, rfl⟩ := hcs
      exact ⟨[], .inl ⟨rfl, rfl, rfl, rfl⟩⟩
    · simp [Value.cells] at hcs
      obtain ⟨rfl, rfl, rfl⟩ := hcs
      exact ⟨zs, .inr ⟨_, rfl, hl, hm, by simpa using hz, hcell, hwz⟩⟩
  clear hA0 hval0
  refine (frameLong_walk a1 a0 len0 cap0 z0 W w1 w0).mono fun e W' ⟨he, bel⟩ => ?_
  subst he
  exact ⟨_, rfl, _, _, _, [], _, [], hW', trodAll_mk1 (shut_bool Try.underlying4 _), (trodAll_cons_mk (shut_int Try.underlying3 w1) (trodAll_cons_mk (Below.trod laidOut (by kernel_rfl) (of_decide_eq_true (by kernel_rfl)) k1 bel lt1) trodAll_mk0)), rfl, bel.frame _, fun h => by cases h⟩

theorem frameLong_holds : Rows.FrameLongSaid :=
  OpenClaim.holds_of_wide 7 Try.f7 rfl rfl rfl rfl rfl rfl rfl ⟨rfl, rfl, rfl, rfl, rfl⟩ rfl rfl rfl rfl rfl (by kernel_rfl) Try.func7 (by kernel_rfl)
    (of_decide_eq_true (by kernel_rfl)) (by unfold Func.isWrapper; first | (rw [if_pos (by decide +kernel)]; kernel_rfl) | (rw [if_neg (by decide +kernel)]; exact ⟨rfl, rfl⟩))
    (fun os started H enc _ => frameLong_lifted os started H enc)
#print axioms frameLong_holds
end Go.Proofs.Ythhnjiodfbckcaa
