/-
  For every bytes and every bit the law FrameSpoilt returns true: One of a frame is its payload, and with any one bit of the frame turned an error; no condition.
-/
import Derived.Test.YthhnjiodfbckcabRowIn
import Derived.Test.YthhnjiodfbckcabTurned
namespace Go.Proofs.Ythhnjiodfbckcab
open Go.ChangeShapes Go.WideShapes Go.ChangeAt Go.RowKit
open Go.ChangeMaps (open_string shut_string)
set_option linter.unusedVariables false

theorem below_drewN {N : Nat} {w w1 : World} (h : Below N w w1) (n : Nat) : Below N w (w1.drewN n) := h.trans ⟨rfl, rfl, rfl, Nat.le_refl _, fun _ _ => rfl⟩

theorem tmod_bit (i : Int) (n : Nat) (h0 : 0 < n) (hn : n ≤ 1000000000) : ∃ m : Nat, m < n ∧ (wrap64 (i.tmod (n : Int) + (n : Int))).tmod (n : Int) = (m : Int) := by
  have hb1 : -(n : Int) < i.tmod (n : Int) := by have := Int.tmod_lt_of_pos (-i) (show (0 : Int) < (n : Int) by omega); rw [Int.neg_tmod] at this; omega
  have hb2 : i.tmod (n : Int) < (n : Int) := Int.tmod_lt_of_pos i (by omega)
  generalize i.tmod (n : Int) = r at *
  have hw : wrap64 (r + (n : Int)) = r + (n : Int) := by unfold wrap64; omega
  rw [hw]
  have hp : 0 ≤ r + (n : Int) := by omega
  rw [Int.tmod_eq_emod_of_nonneg hp]
  have h1 := Int.emod_lt_of_pos (r + (n : Int)) (show (0 : Int) < (n : Int) by omega)
  have h2 := Int.emod_nonneg (r + (n : Int)) (show (n : Int) ≠ 0 by omega)
  exact ⟨((r + (n : Int)) % (n : Int)).toNat, by omega, by omega⟩

theorem xor_turned (y : UInt8) (k z : Nat) (hk : k < 8) (hz : z = 2 ^ k) : ∃ c : UInt8, bits .xor .u8 (y.toNat : Int) (z : Int) = (c.toNat : Int) ∧ c ≠ y := by
  have h : ∀ (k : Fin 8) (x : Fin 256), (0 ≤ bits .xor .u8 (x.val : Int) ((2 ^ k.val : Nat) : Int) ∧ bits .xor .u8 (x.val : Int) ((2 ^ k.val : Nat) : Int) < 256) ∧ bits .xor .u8 (x.val : Int) ((2 ^ k.val : Nat) : Int) ≠ (x.val : Int) := by decide +kernel
  have := h ⟨k, hk⟩ ⟨y.toNat, y.toNat_lt⟩
  simp only at this
  rw [← hz] at this
  obtain ⟨⟨h1, h2⟩, h3⟩ := this
  refine ⟨UInt8.ofNat (bits .xor .u8 (y.toNat : Int) (z : Int)).toNat, ?_, ?_⟩
  · rw [UInt8.toNat_ofNat']; omega
  · intro e
    apply h3
    have := congrArg UInt8.toNat e
    rw [UInt8.toNat_ofNat'] at this
    omega

set_option maxRecDepth 100000 in
set_option maxHeartbeats 4000000 in
theorem frameSpoilt_walk0 (v : Value) (p : List UInt8) (bit : Int) (w : World) (hv : Sl w.heap.size w v p) (hi1 : bit ≤ 9223372036854775807) (hi2 : -9223372036854775808 ≤ bit) :
    Calls Try.prog 3 #[v, .int .i64 bit] w fun e w' => e = .returned (.bool true) ∧ Below w.heap.size w w' := by
  obtain ⟨a, c, rfl, -⟩ := id hv
  by_cases hl : p.length ≤ 4000
  · have hE : putE p = 0 := by unfold putE; rw [if_pos (by omega)]
    have hP : putB p = frameB p := by unfold putB; rw [if_pos (by omega)]
    have hO1 := oneOf_frame p (by omega)
    have hSp := oneOf_spoilt p (by omega)
    have hfl := frameB_len p
    go_enter Try.func3, Try.ntmps3
    go_wp2_with fail
    refine (first_any _).mono ?_
    rintro e w1 ⟨rfl, hB1⟩
    have hz1 := hB1.size
    go_wp2_with fail
    refine (put_any w.heap.size _ p w1 (hv.below hB1) hz1).mono ?_
    rintro e w2 ⟨v2, rfl, hO2, hB2⟩
    rw [hE]
    rw [hP] at hO2
    obtain ⟨a2, c2, rfl, hc2, hm2⟩ := hO2.shape
    have hz2 := hB2.size
    have HW2 : Hid (Below w.heap.size w w2) := hB1.trans (hB2.mono hz1)
    clear hB1 hB2 hE hP
    generalize hf : frameB p = f at *
    rw [hfl] at hc2 hO2 ⊢
    obtain ⟨m, hm, hbit⟩ := tmod_bit bit (8 * (8 + p.length)) (by omega) (by omega)
    have hne : (8 + (p.length : Int) != (p.length : Int) + 8) = false := by rw [bne_eq_false_iff_eq]; omega
    go_upto_region 9 with (go_at_call 7; refine (num_any _ _).mono ?_; rintro e w' ⟨rfl, hw⟩; subst w')
    have hbit' : (wrap64 (bit.tmod (8 * (8 + (p.length : Int))) + 8 * (8 + (p.length : Int)))).tmod (8 * (8 + (p.length : Int))) = (m : Int) := by
      have e : ((8 * (8 + p.length) : Nat) : Int) = 8 * (8 + (p.length : Int)) := by omega
      rw [e] at hbit; exact hbit
    try simp only [hbit']
    clear hbit hbit' hi1 hi2 hne
    have HS : Hid (∀ j c, j < 8 + p.length → c ≠ f[j]?.getD 0 → (oneOf (f.set j c)).2 ≠ 0) := hSp
    have HFL : Hid (f.length = 8 + p.length) := hfl
    clear hSp hfl hf
    unfold maxLen at hm2
    have hv2 := (hv.below HW2.out).mono HW2.out.size
    go_wp2
    go_loop [9, 10] (fun x i => ∃ k z : Nat, i = .int .i64 (k : Int) ∧ x = .int .i64 (z : Int) ∧ k ≤ m % 8 ∧ z = 2 ^ k) (fun _ i => 8 - (intOf i).toNat)
    case atStart => exact ⟨0, 1, rfl, rfl, by omega, rfl⟩
    case round =>
      obtain ⟨k, z, rfl, rfl, hk, hz⟩ := hrel
      have hz128 : z ≤ 128 := by rw [hz]; exact Nat.pow_le_pow_right (by decide) (show k ≤ 7 by omega)
      have HZ : Hid (z = 2 ^ k) := hz
      clear hz
      by_cases hlt : k < m % 8
      · go_wp2
        go_round
        case rel => exact ⟨k + 1, 2 * z, by go_num, by go_num, by omega, by rw [HZ.out, Nat.pow_succ]; omega⟩
        case measure => simp [intOf]; omega
      · have hkm : k = m % 8 := by omega
        have C1 : Hid (Calls Try.prog 8 #[.slice a2 (8 + p.length) c2] w2 fun e w' => ∃ a3 c3, e = .returned (.tuple #[.slice a3 p.length c3, .int .i64 0]) ∧ Ow w2.heap.size w' (.slice a3 p.length c3) p ∧ Below w2.heap.size w2 w') := by
          have := one_any w2.heap.size (.slice a2 (8 + p.length) c2) f w2 (hO2.sl (Nat.le_refl _)) (Nat.le_refl _) (by rw [HFL.out]; omega)
          refine Calls.mono this ?_
          rw [hO1]
          rintro e w3 ⟨v3, rfl, hO3, hB3⟩
          obtain ⟨a3, c3, rfl, -⟩ := hO3.shape
          exact ⟨a3, c3, rfl, hO3, hB3⟩
        have hO2' : Ow w1.heap.size w2 (.slice a2 f.length c2) f := by rw [HFL.out]; exact hO2
        obtain ⟨g, rfl, hgl, -, -, -⟩ := hO2'.at0 (by rw [HFL.out]; omega)
        have hj : m / 8 < f.length := by rw [HFL.out]; omega
        obtain ⟨cc, hcx, hcn⟩ := xor_turned (byteAt f (m / 8)) k z (by omega) HZ.out
        have HF : Hid (∀ w4, Below w2.heap.size w2 w4 → w4.cell? ⟨g, m / 8, none⟩ = some (.int .u8 ((byteAt f (m / 8)).toNat : Int)) ∧ w4.frozen? ⟨g, m / 8, none⟩ = false ∧
            Calls Try.prog 8 #[.slice (some ⟨g, 0, none⟩) (8 + p.length) c2] (w4.setCell ⟨g, m / 8, none⟩ (.int .u8 (cc.toNat : Int))) fun e w' => ∃ a5 l5 c5 n5, e = .returned (.tuple #[.slice a5 l5 c5, .int .i64 (n5 : Nat)]) ∧ n5 ≠ 0 ∧ Below w.heap.size w w') := by
          intro w4 hB4
          have hO4 := hO2'.below hB4 (Nat.le_refl _)
          obtain ⟨k1, k2, k3⟩ := hO4.can (m / 8) hj
          refine ⟨k1, k2, ?_⟩
          have hst := hO4.store (m / 8) cc
          have hsl : (f.set (m / 8) cc).length = 8 + p.length := by rw [List.length_set, HFL.out]
          have hBs : Below w.heap.size w (w4.setCell ⟨g, m / 8, none⟩ (encB cc)) := (HW2.out.trans (hB4.mono HW2.out.size)).setCell (p := ⟨g, m / 8, none⟩) (Nat.le_trans hz1 k3) _
          have hsl2 := hst.sl (Nat.le_refl _)
          rw [HFL.out] at hsl2
          refine Calls.mono (one_any _ _ (f.set (m / 8) cc) _ hsl2 (Nat.le_refl _) (by rw [hsl]; omega)) ?_
          rintro e w5 ⟨v5, rfl, hO5, hB5⟩
          obtain ⟨a5, c5, rfl, -⟩ := hO5.shape
          exact ⟨a5, _, c5, _, rfl, HS.out (m / 8) cc (by rw [← HFL.out]; exact hj) hcn, hBs.trans (hB5.mono hBs.size)⟩
        have hy := (byteAt f (m / 8)).toNat_lt
        generalize byteAt f (m / 8) = y at *
        have HV : Hid (Sl w2.heap.size w2 (.slice a p.length c) p) := hv2
        clear hO2 hO2' hv2 hO1 hcn HZ
        go_wp2_with (first
          | (go_at_call 8; refine C1.out.mono ?_; rintro e w3 ⟨a3, c3, rfl, hO3, hB3⟩)
          | (go_at_call 9; refine (same_any w3.heap.size _ _ p p w3 (hO3.sl (Nat.le_refl _)) ((HV.out.below hB3).mono hB3.size)).mono ?_; rintro e w4 ⟨rfl, n4, rfl⟩; simp only [decide_true]; have hB4 := below_drewN hB3 n4; generalize w3.drewN n4 = w4 at *; obtain ⟨q1, q2, q3⟩ := HF.out w4 hB4))
        refine q3.mono ?_
        rintro e w5 ⟨a5, l5, c5, n5, rfl, hn5, hB5⟩
        have hn5' : ((n5 : Int) != 0) = true := by rw [bne_iff_ne]; omega
        clear hn5 q3 q1 q2
        go_wp2_with (go_at_call 7; refine (num_any _ _).mono ?_; rintro e w' ⟨rfl, hw⟩; subst w')
        go_ret
        exact ⟨rfl, hB5⟩
  · have hl' : decide ((4000 : Int) < (p.length : Int)) = true := by simp; omega
    go_enter Try.func3, Try.ntmps3
    go_wp2_with fail
    refine (first_any _).mono ?_
    rintro e w1 ⟨rfl, hB1⟩
    go_wp2
    go_ret
    exact ⟨rfl, hB1⟩
theorem frameSpoilt_walk (a0 : Option Addr) (len0 cap0 : Nat) (z0 : List Int) (a1 : Int) (w : World) (w0 : IsRow .u8 w a0 len0 cap0 z0) (w1 : (Lit.int .i64 a1).wf = true) :
    Calls Try.prog 3 #[.slice a0 len0 cap0, .int .i64 a1] w fun e w' => e = .returned (.bool true) ∧ Below w.heap.size w w' := by
  obtain ⟨l, rfl, hs⟩ := isRow_sl w0
  exact frameSpoilt_walk0 _ l a1 w hs (by have := bounds_i64 w1; omega) (by have := bounds_i64 w1; omega)

set_option maxRecDepth 100000 in
theorem frameSpoilt_lifted (os : Os) (started : os.Started) (H : Type) (enc : TypeId × Value → H) :
    ReturnsInHanded {} Try.checked os 3 .any (Rows.frameSpoiltSpec.pre6 enc Try.prog Try.f3 Rows.frameSpoiltRow.domain false) (Rows.frameSpoiltSpec.post enc Try.prog Try.f3 false true false false) := by
  refine returnsInHanded_of_change (C := Try.checked) own started (by kernel_rfl) Try.func3
    (ChangeSpec.witness6 (enc := enc) (C := Try.checked) false ⟨#[], #[.slice none 0 0, .int .i64 0], []⟩ 8 (by kernel_rfl) (by kernel_rfl) (by kernel_rfl) (by kernel_rfl)) ?_
  intro W base args ds gs before hval0 hW hcnd _
  have hval : ∀ (j : Nat) t v, Try.f3.params[j]? = some t → args[j]? = some v → Value.okWide Try.prog W .any base t v := hval0
  have hW' := hW
  obtain ⟨p, q, hA0, hV, rfl, hfz, hnd⟩ := hW
  have hA : DataW.TrodAll enc Try.prog W 0 (fun _ => true) true Try.f3.params.toList args.toList ds p := hA0
  rw [Try.params3] at hA hval
  obtain ⟨v0, vs0, d0, ds0, p0, q0, hargs, rfl, rfl, h0, r0⟩ := trodAll_cons hA
  obtain ⟨v1, vs1, d1, ds1, p1, q1, rfl, rfl, rfl, h1, r1⟩ := trodAll_cons r0
  obtain ⟨rfl, rfl, rfl⟩ := trodAll_nil r1
  obtain rfl : args = #[v0, v1] := by cases args; simp_all
  obtain ⟨rfl, rfl⟩ := trodVars_none hV
  obtain ⟨a0, len0, cap0, rfl⟩ := okWide_slice Try.underlying22 (hval 0 22 v0 rfl rfl)
  have k0 := h0
  have lt0 : ∀ x ∈ p0, x.block < W.heap.size := by obtain ⟨m, hm⟩ := k0; exact DataW.trod_lt m _ _ _ hm
  obtain ⟨z0, w0⟩ : ∃ zs, IsRow .u8 W a0 len0 cap0 zs := by
    obtain ⟨fuel, hf⟩ := h0
    rcases open_ints Try.underlying22 Try.underlying5 (by kernel_rfl) hf with ⟨hcs, _⟩ | ⟨x, l, c, zs, hcs, _, hl, hm, hz, _, hcell, hwz⟩
    · simp [Value.cells] at hcs
      obtain ⟨rfl, rfl, rfl⟩ := hcs
      exact ⟨[], .inl ⟨rfl, rfl, rfl, rfl⟩⟩
    · simp [Value.cells] at hcs
      obtain ⟨rfl, rfl, rfl⟩ := hcs
      exact ⟨zs, .inr ⟨_, rfl, hl, hm, by simpa using hz, hcell, hwz⟩⟩
  obtain ⟨a1, rfl, rfl, rfl, w1⟩ := open_int Try.underlying3 (hval 1 3 v1 rfl rfl) h1
  clear hA0 hval0
  refine (frameSpoilt_walk a0 len0 cap0 z0 a1 W w0 w1).mono fun e W' ⟨he, bel⟩ => ?_
  subst he
  exact ⟨_, rfl, _, _, _, [], _, [], hW', trodAll_mk1 (shut_bool Try.underlying4 _), (trodAll_cons_mk (Below.trod laidOut (by kernel_rfl) (of_decide_eq_true (by kernel_rfl)) k0 bel lt0) (trodAll_cons_mk (shut_int Try.underlying3 w1) trodAll_mk0)), rfl, bel.frame _, fun h => by cases h⟩

theorem frameSpoilt_holds : Rows.FrameSpoiltSaid :=
  OpenClaim.holds_of_wide 3 Try.f3 rfl rfl rfl rfl rfl rfl rfl ⟨rfl, rfl, rfl, rfl, rfl⟩ rfl rfl rfl rfl rfl (by kernel_rfl) Try.func3 (by kernel_rfl)
    (of_decide_eq_true (by kernel_rfl)) (by unfold Func.isWrapper; first | (rw [if_pos (by decide +kernel)]; kernel_rfl) | (rw [if_neg (by decide +kernel)]; exact ⟨rfl, rfl⟩))
    (fun os started H enc _ => frameSpoilt_lifted os started H enc)
#print axioms frameSpoilt_holds
end Go.Proofs.Ythhnjiodfbckcab
