/-
  KvFull: the walk of the law.
-/
import Derived.Test.YtglhjgfaelfleaaBo
namespace Go.Proofs.Ytglhjgfaelfleaa
open Go.RowKit
set_option linter.unusedVariables false

theorem rune_any : ∃ rs : Int → Bs, (∀ n, (rs n).length ≤ 4) ∧ ∀ (n : Int) (w : World), (convert 21 9 (.int .i32 n)).run Try.prog w = .ok (.string ⟨(rs n).toArray⟩) w := by
  refine ⟨fun n => (Utf8.encode n).data.toList, fun n => ?_, fun n w => ?_⟩
  · show (Utf8.encode n).data.toList.length ≤ 4
    unfold Utf8.encode
    dsimp only
    (repeat' split) <;> simp
  · simp [convert, run_underlying Try.underlying21, run_underlying Try.underlying9, Conv.intToString]
theorem mod3 (x : Int) : ∃ y : Nat, y < 3 ∧ (x.tmod 3 + 3).tmod 3 = (y : Int) ∧ IntKind.i64.wrap (x.tmod 3 + 3) = x.tmod 3 + 3 := by
  have h1 : -3 < x.tmod 3 ∧ x.tmod 3 < 3 := by
    constructor
    · exact Int.lt_tmod_of_pos x (by decide)
    · exact Int.tmod_lt_of_pos x (by decide)
  have h2 : 0 ≤ (x.tmod 3 + 3).tmod 3 := Int.tmod_nonneg _ (by omega)
  have h3 : (x.tmod 3 + 3).tmod 3 < 3 := Int.tmod_lt_of_pos _ (by decide)
  exact ⟨((x.tmod 3 + 3).tmod 3).toNat, by omega, by omega, by rw [IntKind.wrap_i64]; omega⟩

set_option maxRecDepth 100000 in
set_option maxHeartbeats 8000000 in
theorem full_walk (w : World) (keys sessions : Int) (a : Option Addr) (cap : Nat) (cs : List Cm) (hc : Cs w.heap.size w a cs) :
    Calls Try.prog 4 #[.int .i64 keys, .int .i64 sessions, .slice a cs.length cap] w fun e w' => e = .returned (.bool true) ∧ Below w.heap.size w w' := by
  have HC : Hid (∀ W, Below w.heap.size w W → Cs w.heap.size W a cs) := fun W hB => hc.below hB
  have hl : cs.length ≤ maxLen := hc.1
  unfold maxLen at hl
  clear hc
  obtain ⟨y1, hy1, q1, q2⟩ := mod3 keys
  obtain ⟨y2, hy2, q3, q4⟩ := mod3 sessions
  obtain ⟨rs, hrl, hrs⟩ := rune_any
  have HRL : Hid (∀ n, (rs n).length ≤ 4) := hrl
  clear hrl
  obtain ⟨KN, hKN, q5⟩ : ∃ KN : Nat, KN ≤ 128 ∧ IntKind.i64.wrap ((128 : Int) - (y1 : Int)) = (KN : Int) := ⟨128 - y1, by omega, by rw [IntKind.wrap_i64]; omega⟩
  obtain ⟨SN, hSN, q6, q7⟩ : ∃ SN : Nat, SN ≤ 32 ∧ IntKind.i64.wrap ((32 : Int) - (y2 : Int)) = ((SN + 1 : Nat) : Int) ∧ IntKind.i64.wrap (((SN + 1 : Nat) : Int) - 1) = (SN : Int) := ⟨31 - y2, by omega, by rw [IntKind.wrap_i64]; omega, by rw [IntKind.wrap_i64]; omega⟩
  clear hy1 hy2
  go_enter Try.func4, Try.ntmps4
  go_wp2_with fail
  refine (first_any w).mono ?_
  rintro e w1 ⟨rfl, hB1⟩
  have HF := few_any a cap cs w.heap.size w1 (HC.out w1 hB1)
  have HB1 : Hid (Below w.heap.size w w1) := hB1
  clear hB1
  go_wp2_with fail
  refine HF.mono ?_
  rintro e w2 ⟨t, rfl, ht, n2, rfl⟩
  have HB2 : Hid (Below w.heap.size w (w1.drewN n2)) := Below.drewN' HB1.out n2
  clear HF
  cases t with
  | false =>
    go_wp2
    go_ret
    exact ⟨rfl, HB2.out⟩
  | true =>
    have hl4 : cs.length ≤ 400 := ht rfl
    clear ht
    generalize w1.drewN n2 = W2 at *
    go_wp2_with fail
    refine (up_new W2).mono ?_
    rintro e W3 ⟨b, mp, ms, rfl, hU3⟩
    have HBD : Hid (Bd W2 (W3.alloc (.cells #[.slice none 0 0, .slice none 0 0] 31)) W3.heap.size b mp ms W3.heap.size ⟨[], []⟩ ⟨[], []⟩) := Bd.new hU3
    obtain ⟨W4, hW4⟩ : ∃ W4, W3.alloc (.cells #[.slice none 0 0, .slice none 0 0] 31) = W4 := ⟨_, rfl⟩
    rw [hW4] at HBD
    have hnl := HBD.out.lb
    clear hU3 HB1
    go_wp2
    clear hW4
    generalize W3.heap.size = d at *
    have HB2' := HB2
    go_loopw [11] (fun kv wr => ∃ (i : Nat) (K : KV), kv = .int .i64 (i : Int) ∧ i ≤ KN ∧ Bd W2 wr d b mp ms d K K) (fun kv _ => KN - (intOf kv).toNat)
    case atStart => exact ⟨0, _, rfl, Nat.zero_le _, HBD.out⟩
    case round =>
      obtain ⟨i, K, rfl, hi, hBd⟩ := hrel
      have HB : Hid (Bd W2 wr d b mp ms d K K) := hBd
      clear hBd HBD
      by_cases hlt : i < KN
      · have hlt' : (i : Int) < (KN : Int) := by omega
        obtain ⟨mn, hmn, e1⟩ : ∃ mn : Nat, min (i : Int) (SN : Int) = (mn : Int) ∧ IntKind.i64.wrap (100 + (mn : Int)) = 100 + (mn : Int) := ⟨min i SN, by omega, by rw [IntKind.wrap_i64]; omega⟩
        have e2 : IntKind.i64.wrap ((i : Int) + 1) = (i : Int) + 1 := by rw [IntKind.wrap_i64]; omega
        have e3 : ¬ 9223372036854775807 < (rs (65 + (i : Int) / 16)).length + (rs (97 + (i : Int) % 16)).length := by have := HRL.out (65 + (i : Int) / 16); have := HRL.out (97 + (i : Int) % 16); omega
        obtain ⟨ky, hky⟩ : ∃ ky : Bs, (⟨(rs (65 + (i : Int) / 16)).toArray⟩ : ByteArray) ++ ⟨(rs (97 + (i : Int) % 16)).toArray⟩ = ⟨ky.toArray⟩ := ⟨rs (65 + (i : Int) / 16) ++ rs (97 + (i : Int) % 16), by apply ByteArray.ext; simp⟩
        have HBc : Hid (∀ V, Below wr.heap.size wr V → Bd W2 V d b mp ms d K K) := fun V hB => HB.out.below hB
        obtain ⟨Wc, HWc⟩ : ∃ Wc, Hid (wr.alloc (.cells #[.int .i64 2, .int .i64 (100 + (mn : Int)), .int .i64 ((i : Int) + 1), .string ⟨ky.toArray⟩, .string ⟨[118].toArray⟩, .string ⟨[].toArray⟩] 38) = Wc) := ⟨_, rfl⟩
        have HDc : Hid (Dc Wc wr.heap.size 2 (100 + (mn : Int)) ((i : Int) + 1) ky [118] []) := by rw [← HWc.out]; exact heap_alloc_new wr _
        have hBc : Below wr.heap.size wr Wc := by rw [← HWc.out]; exact (Below.refl _ _).alloc (Nat.le_refl _) _
        have CD1 := (HBc.out Wc hBc).do1 ⟨2, 100 + (mn : Int), (i : Int) + 1, ky, [118], []⟩
        have HD2 : Hid (∀ V, Bd W2 V d b mp ms d (doF K ⟨2, 100 + (mn : Int), (i : Int) + 1, ky, [118], []⟩).1 K → Calls _ _ _ V _) := fun V hV => Bd.do2 ⟨2, 100 + (mn : Int), (i : Int) + 1, ky, [118], []⟩ hV
        dsimp only at CD1
        generalize Cm.ck ⟨2, 100 + (mn : Int), (i : Int) + 1, ky, [118], []⟩ = ee at *
        generalize doF K ⟨2, 100 + (mn : Int), (i : Int) + 1, ky, [118], []⟩ = dd at *
        obtain ⟨K1, rc, rv⟩ := dd
        dsimp only at CD1 HD2
        have HCD1 : Hid (Calls _ _ _ _ _) := CD1
        clear CD1 hBc HBc
        go_wp2_with fail
        rw [HWc.out]
        refine HCD1.out.mono ?_
        rintro e Wd ⟨rfl, hBd, hKd⟩
        have HBd : Hid (Bd W2 Wd d b mp ms d K1 K) := hBd
        have HDd : Hid (Dc Wd wr.heap.size 2 (100 + (mn : Int)) ((i : Int) + 1) ky [118] []) := hKd.dc HDc.out
        clear hBd hKd HCD1 HDc HWc
        obtain ⟨We, HWe⟩ : ∃ We, Hid (Wd.alloc (.cells #[.int .i64 rc, .string ⟨rv.toArray⟩] 33) = We) := ⟨_, rfl⟩
        have hBe : Below Wd.heap.size Wd We := by rw [← HWe.out]; exact (Below.refl _ _).alloc (Nat.le_refl _) _
        have HRe : Hid (Rb We Wd.heap.size rc rv) := by rw [← HWe.out]; exact Rb.new _ _ _
        have HDe := HDd.out.below hBe
        obtain ⟨a0, a1, a2, a3, a4, a5⟩ := HDe.cells
        dsimp only at a0 a1 a2 a3 a4 a5
        have CD2 := HD2.out We (HBd.out.below hBe)
        have HCD2 : Hid (Calls _ _ _ _ _) := CD2
        clear CD2 hBe HDe HDd
        have hwe := HWe.out
        go_wp2_with fail
        clear hwe
        refine HCD2.out.mono ?_
        rintro e Wf ⟨rfl, hBf, hKf⟩
        have HBf : Hid (Bd W2 Wf d b mp ms d K1 K1) := hBf
        have hRf := hKf.rb HRe.out
        obtain ⟨m0, m1⟩ := hRf.cells
        have lf : Wd.heap.size < Wf.heap.size := (Array.getElem?_eq_some_iff.1 hRf).1
        clear hBf hKf HCD2 HD2 HRe HWe hRf a0 a1 a2 a3 a4 a5
        have HFIN : Hid (Bd W2 (Wf.alloc (.cells #[.int .i64 rc, .string ⟨rv.toArray⟩] 33)) d b mp ms d K1 K1) := HBf.out.below ((Below.refl _ _).alloc (Nat.le_refl _) _)
        go_wp2
        exact ⟨⟨i + 1, K1, by go_num, by omega, HFIN.out⟩, by simp [intOf]; omega⟩
      · have hlt' : decide ((i : Int) < (KN : Int)) = false := by simp; omega
        clear hrs q1 q2 q3 q4 q5 q6 q7 hi
        generalize wr = Wq at *
        go_wp2
        go_loopw [17] (fun kv wr => ∃ (i : Nat) (K : KV), kv = .int .i64 (i : Int) ∧ i ≤ cs.length ∧ Bd W2 wr d b mp ms d K K) (fun kv _ => cs.length - (intOf kv).toNat)
        case atStart => exact ⟨0, _, rfl, Nat.zero_le _, HB.out⟩
        case round =>
          obtain ⟨i, K, rfl, hi, hBd⟩ := hrel
          have HBr : Hid (Bd W2 wr d b mp ms d K K) := hBd
          clear hBd
          by_cases hlt2 : i < cs.length
          · have hlt2' : (i : Int) < (cs.length : Int) := by omega
            have hi0 : (0 : Int) ≤ (i : Int) := by omega
            have HBW : Hid (∀ V, Below W2.heap.size W2 V → Below w.heap.size w V) := fun V hV => HB2'.out.trans (hV.mono HB2'.out.size)
            have HCE : Hid (∀ V, Below w.heap.size w V → ∃ g off, a = some ⟨g, off, none⟩ ∧ CmAt V g (off + i * 6) cs[i]) := fun V hV => by obtain ⟨g, off, e1, _, e2, _⟩ := (HC.out V hV).at hlt2; exact ⟨g, off, e1, e2⟩
            generalize cs[i] = x at *
            obtain ⟨op, cl, sq, ky, vl, od⟩ := x
            obtain ⟨g, off, hea, hcm⟩ := HCE.out wr (HBW.out wr HBr.out.up.bel)
            subst hea
            have HCF : Hid (∀ V, Below w.heap.size w V → CmAt V g (off + i * 6) ⟨op, cl, sq, ky, vl, od⟩) := fun V hV => by obtain ⟨g', off', e1, e2⟩ := HCE.out V hV; cases e1; exact e2
            obtain ⟨c0, c1, c2, c3, c4, c5⟩ := hcm
            dsimp only at c0 c1 c2 c3 c4 c5
            have CD1 := HBr.out.do1 ⟨op, cl, sq, ky, vl, od⟩
            have HD2 : Hid (∀ V, Bd W2 V d b mp ms d (doF K ⟨op, cl, sq, ky, vl, od⟩).1 K → Calls _ _ _ V _) := fun V hV => Bd.do2 ⟨op, cl, sq, ky, vl, od⟩ hV
            dsimp only at CD1
            generalize Cm.ck ⟨op, cl, sq, ky, vl, od⟩ = ee at *
            generalize doF K ⟨op, cl, sq, ky, vl, od⟩ = dd at *
            obtain ⟨K1, rc, rv⟩ := dd
            dsimp only at CD1 HD2
            have HCD1 : Hid (Calls _ _ _ _ _) := CD1
            clear CD1 HCE
            go_wp2_with fail
            refine HCD1.out.mono ?_
            rintro e Wd ⟨rfl, hBd, hKd⟩
            have HBd : Hid (Bd W2 Wd d b mp ms d K1 K) := hBd
            clear hBd hKd HCD1 c0 c1 c2 c3 c4 c5
            obtain ⟨We, HWe⟩ : ∃ We, Hid (Wd.alloc (.cells #[.int .i64 rc, .string ⟨rv.toArray⟩] 33) = We) := ⟨_, rfl⟩
            have hBe : Below Wd.heap.size Wd We := by rw [← HWe.out]; exact (Below.refl _ _).alloc (Nat.le_refl _) _
            have HRe : Hid (Rb We Wd.heap.size rc rv) := by rw [← HWe.out]; exact Rb.new _ _ _
            have hBDe := HBd.out.below hBe
            obtain ⟨c0, c1, c2, c3, c4, c5⟩ := HCF.out We (HBW.out We hBDe.up.bel)
            dsimp only at c0 c1 c2 c3 c4 c5
            have CD2 := HD2.out We hBDe
            have HCD2 : Hid (Calls _ _ _ _ _) := CD2
            clear CD2 hBe hBDe
            have hwe := HWe.out
            go_wp2_with fail
            clear hwe
            refine HCD2.out.mono ?_
            rintro e Wf ⟨rfl, hBf, hKf⟩
            have HBf : Hid (Bd W2 Wf d b mp ms d K1 K1) := hBf
            have hRf := hKf.rb HRe.out
            obtain ⟨m0, m1⟩ := hRf.cells
            have lf : Wd.heap.size < Wf.heap.size := (Array.getElem?_eq_some_iff.1 hRf).1
            clear hBf hKf HCD2 HD2 HRe HWe hRf c0 c1 c2 c3 c4 c5
            have HFIN : Hid (Bd W2 (Wf.alloc (.cells #[.int .i64 rc, .string ⟨rv.toArray⟩] 33)) d b mp ms d K1 K1) := HBf.out.below ((Below.refl _ _).alloc (Nat.le_refl _) _)
            go_wp2_with (go_at_call 13; refine (num_any _ _).mono ?_; rintro e wz ⟨rfl, hz⟩; subst wz)
            exact ⟨⟨i + 1, K1, by go_num, by omega, HFIN.out⟩, by simp [intOf]; omega⟩
          · have hlt2' : decide ((i : Int) < (cs.length : Int)) = false := by simp; omega
            have CS := HBr.out.same
            have HCS : Hid (Calls _ _ _ _ _) := CS
            clear CS
            go_wp2_with fail
            refine HCS.out.mono ?_
            rintro e Wz ⟨rfl, hBz, -⟩
            have HBz : Hid (Below w.heap.size w Wz) := HB2'.out.trans (hBz.up.bel.mono HB2'.out.size)
            clear hBz HCS
            go_wp2
            go_ret
            exact ⟨rfl, HBz.out⟩
end Go.Proofs.Ytglhjgfaelfleaa
