/-
  KvPlays: the walk of the law.
-/
import Derived.Test.YtglhjgfaelfleaaEc
namespace Go.Proofs.Ytglhjgfaelfleaa
open Go.RowKit
set_option linter.unusedVariables false

theorem keyL (k : Bs) (hk : k.length ≤ 9223372036854775807) : keyOf Try.prog 9 (.string ⟨k.toArray⟩) = some (.string k) := by
  simp [keyOf, Try.underlying9, mapKey, maxLen, ByteArray.size]
  omega
theorem lookL_any {w : World} {b mp ms : Nat} {K : KV} (h : St w b mp ms K) (k : Bs) (hk : k.length ≤ 9223372036854775807) :
    (Instr.lookup 59 (.map (some mp)) (.string ⟨k.toArray⟩) true).run Try.prog w = .ok (.tuple #[pvOf (lookP k K.ps), .bool (lookP k K.ps).isSome]) w := by
  obtain ⟨v, ps, hr, hv⟩ := h.hp.look_ok lawS Try.underlying59 (zeroP w) (zd := .held _) (zp := []) rfl (keyL k hk)
  rw [hr, has_ents]
  rw [atKey_ents] at hv
  change _ = Result.ok (Value.tuple #[pvOf (lookK kP (.string k) K.ps), .bool (lookK kP (.string k) K.ps).isSome]) w
  generalize lookK kP (.string k) K.ps = q at hv ⊢
  cases q with
  | none => rw [rdV_inv hv]; rfl
  | some p => rw [rdV_inv hv]; rfl
set_option maxRecDepth 100000 in
set_option maxHeartbeats 2000000 in
theorem getL_any {w : World} {b mp ms : Nat} {K : KV} (h : St w b mp ms K) (k : Bs) (hk : k.length ≤ 9223372036854775807) :
    Calls Try.prog 14 #[.pointer (some ⟨b, 0, none⟩), .string ⟨k.toArray⟩] w fun e w' => e = .returned (getF K k).v ∧ Below w.heap.size w w' := by
  obtain ⟨c0, c1⟩ := h.cells
  have hl := fun o => lookL_any (h.alloc o) k hk
  have hB : ∀ o1 o2, Below w.heap.size w ((w.alloc o1).alloc o2) := fun o1 o2 => ((Below.refl _ w).alloc (Nat.le_refl _) _).alloc (by simp) _
  have HB : Hid (∀ o1 o2, Below w.heap.size w ((w.alloc o1).alloc o2)) := hB
  have hb := h.lt.1
  unfold getF
  clear hB h
  cases hq : lookP k K.ps with
  | none =>
    rw [hq] at hl
    simp only [pvOf, Option.isSome] at hl
    clear hq
    simp only [Rp.v, str]
    go_enter Try.func14, Try.ntmps14
    go_wp2
    exact bodyPost_ret (v := .agg #[.int .i64 2, .string ⟨[].toArray⟩]) (by simp [results, Try.results14, go_sem]) rfl ⟨rfl, HB.out _ _⟩
  | some s =>
    rw [hq] at hl
    simp only [pvOf, Option.isSome] at hl
    clear hq
    obtain ⟨s1, s2⟩ := s
    dsimp only at hl ⊢
    simp only [Rp.v, str]
    go_enter Try.func14, Try.ntmps14
    go_wp2
    exact bodyPost_ret (v := .agg #[.int .i64 1, .string ⟨s2.toArray⟩]) (by simp [results, Try.results14, go_sem]) rfl ⟨rfl, HB.out _ _⟩

theorem Bd.get1 {w W : World} {N b mp ms d : Nat} {K : KV} (h : Bd w W N b mp ms d K K) (k : Bs) (hk : k.length ≤ 9223372036854775807) :
    ∃ (gc : Int) (gv : Bs), ∀ V, Below W.heap.size W V → (Calls Try.prog 14 #[.pointer (some ⟨b, 0, none⟩), .string ⟨k.toArray⟩] V fun e w' => e = .returned (.agg #[.int .i64 gc, .string ⟨gv.toArray⟩]) ∧ Below V.heap.size V w') ∧
      (Calls Try.prog 15 #[.pointer (some ⟨d, 0, none⟩), .string ⟨k.toArray⟩] V fun e w' => e = .returned (.agg #[.int .i64 gc, .string ⟨gv.toArray⟩]) ∧ Below V.heap.size V w') := by
  refine ⟨(getF K k).code, (getF K k).val, fun V hB => ?_⟩
  obtain ⟨vp, vs, hd⟩ := (h.below hB).ds
  exact ⟨getL_any (h.below hB).up.st k hk, rget_any hd k⟩

set_option maxRecDepth 100000 in
set_option maxHeartbeats 8000000 in
theorem plays_walk (w : World) (a : Option Addr) (cap : Nat) (cs : List Cm) (hc : Cs w.heap.size w a cs) (key : Bs) (hkey : key.length ≤ maxLen) (stop : Int) :
    Calls Try.prog 3 #[.slice a cs.length cap, .string ⟨key.toArray⟩, .int .i64 stop] w fun e w' => e = .returned (.bool true) ∧ Below w.heap.size w w' := by
  have HC : Hid (∀ W, Below w.heap.size w W → Cs w.heap.size W a cs) := fun W hB => hc.below hB
  have hl : cs.length ≤ maxLen := hc.1
  unfold maxLen at hl hkey
  clear hc
  go_enter Try.func3, Try.ntmps3
  go_wp2_with fail
  refine (first_any w).mono ?_
  rintro e w1 ⟨rfl, hB1⟩
  have HF := few_any a cap cs w.heap.size w1 (HC.out w1 hB1)
  have HB1 : Hid (Below w.heap.size w w1) := hB1
  clear hB1
  go_wp2_with fail
  refine HF.mono ?_
  rintro e w2 ⟨t, rfl, ht, n2, rfl⟩
  have HB2 : Hid (Below w.heap.size w (w1.drewN n2)) := Below.drewN' HB1.out n2
  clear HF
  cases t with
  | false =>
    go_wp2
    go_ret
    exact ⟨rfl, HB2.out⟩
  | true =>
    have hl4 : cs.length ≤ 400 := ht rfl
    clear ht
    generalize w1.drewN n2 = W2 at *
    by_cases hkl : 1000 < key.length
    · have hkl' : decide ((1000 : Int) < (key.length : Int)) = true := by simp; omega
      clear hkl
      go_wp2
      go_ret
      exact ⟨rfl, HB2.out⟩
    have hkl' : decide ((1000 : Int) < (key.length : Int)) = false := by simp; omega
    go_wp2_with fail
    refine (up_new W2).mono ?_
    rintro e W3 ⟨b, mp, ms, rfl, hU3⟩
    have HBD : Hid (Bd W2 (W3.alloc (.cells #[.slice none 0 0, .slice none 0 0] 31)) W3.heap.size b mp ms W3.heap.size ⟨[], []⟩ ⟨[], []⟩) := Bd.new hU3
    obtain ⟨W4, hW4⟩ : ∃ W4, W3.alloc (.cells #[.slice none 0 0, .slice none 0 0] 31) = W4 := ⟨_, rfl⟩
    rw [hW4] at HBD
    clear hU3 HB1
    go_wp2
    clear hW4
    generalize W3.heap.size = d at *
    have HBW : Hid (∀ V, Below W2.heap.size W2 V → Below w.heap.size w V) := fun V hV => HB2.out.trans (hV.mono HB2.out.size)
    go_loopw [11] (fun kv wr => ∃ (i : Nat) (K : KV), kv = .int .i64 (i : Int) ∧ i ≤ cs.length ∧ Bd W2 wr d b mp ms d K K) (fun kv _ => cs.length - (intOf kv).toNat)
    case atStart => exact ⟨0, _, rfl, Nat.zero_le _, HBD.out⟩
    case round =>
      obtain ⟨i, K, rfl, hi, hBd⟩ := hrel
      have HBr : Hid (Bd W2 wr d b mp ms d K K) := hBd
      clear hBd HBD
      by_cases hlt2 : i < cs.length
      · have hlt2' : (i : Int) < (cs.length : Int) := by omega
        have hi0 : (0 : Int) ≤ (i : Int) := by omega
        have HCE : Hid (∀ V, Below w.heap.size w V → ∃ g off, a = some ⟨g, off, none⟩ ∧ g < w.heap.size ∧ CmAt V g (off + i * 6) cs[i]) := fun V hV => by obtain ⟨g, off, e1, e3, e2, _⟩ := (HC.out V hV).at hlt2; exact ⟨g, off, e1, e3, e2⟩
        have hin : CmIn cs[i] := by obtain ⟨g, off, e1, _, e2, e4⟩ := (HC.out W2 HB2.out).at hlt2; exact e4
        generalize cs[i] = x at *
        obtain ⟨op, cl, sq, ky, vl, od⟩ := x
        obtain ⟨hk3, -, -⟩ := hin
        dsimp only at hk3
        unfold maxLen at hk3
        obtain ⟨g, off, hea, hgw, hcm⟩ := HCE.out wr (HBW.out wr HBr.out.up.bel)
        subst hea
        have HCF : Hid (∀ V, Below w.heap.size w V → CmAt V g (off + i * 6) ⟨op, cl, sq, ky, vl, od⟩) := fun V hV => by obtain ⟨g', off', e1, _, e2⟩ := HCE.out V hV; cases e1; exact e2
        obtain ⟨c0, c1, c2, c3, c4, c5⟩ := hcm
        dsimp only at c0 c1 c2 c3 c4 c5
        have CD1 := HBr.out.do1 ⟨op, cl, sq, ky, vl, od⟩
        have HD2 : Hid (∀ V, Bd W2 V d b mp ms d (doF K ⟨op, cl, sq, ky, vl, od⟩).1 K → Calls _ _ _ V _) := fun V hV => Bd.do2 ⟨op, cl, sq, ky, vl, od⟩ hV
        dsimp only at CD1
        generalize Cm.ck ⟨op, cl, sq, ky, vl, od⟩ = ee at *
        generalize doF K ⟨op, cl, sq, ky, vl, od⟩ = dd at *
        obtain ⟨K1, rc, rv⟩ := dd
        dsimp only at CD1 HD2
        have HCD1 : Hid (Calls _ _ _ _ _) := CD1
        clear CD1 HCE
        go_wp2_with fail
        refine HCD1.out.mono ?_
        rintro e Wd ⟨rfl, hBd, hKd⟩
        have HBd : Hid (Bd W2 Wd d b mp ms d K1 K) := hBd
        clear hBd hKd HCD1 c0 c1 c2 c3 c4 c5
        obtain ⟨We, HWe⟩ : ∃ We, Hid (Wd.alloc (.cells #[.int .i64 rc, .string ⟨rv.toArray⟩] 33) = We) := ⟨_, rfl⟩
        have hBe : Below Wd.heap.size Wd We := by rw [← HWe.out]; exact (Below.refl _ _).alloc (Nat.le_refl _) _
        have HRe : Hid (Rb We Wd.heap.size rc rv) := by rw [← HWe.out]; exact Rb.new _ _ _
        have hBDe := HBd.out.below hBe
        obtain ⟨c0, c1, c2, c3, c4, c5⟩ := HCF.out We (HBW.out We hBDe.up.bel)
        dsimp only at c0 c1 c2 c3 c4 c5
        have CD2 := HD2.out We hBDe
        have HCD2 : Hid (Calls _ _ _ _ _) := CD2
        clear CD2 hBe hBDe
        have hwe := HWe.out
        go_wp2_with fail
        clear hwe
        refine HCD2.out.mono ?_
        rintro e Wx ⟨rfl, hBf, hKf⟩
        have HBx : Hid (Bd W2 Wx d b mp ms d K1 K1) := hBf
        have HRx : Hid (Rb Wx Wd.heap.size rc rv) := hKf.rb HRe.out
        clear hBf hKf HCD2 HD2 HRe HWe c0 c1 c2 c3 c4 c5 HBd
        obtain ⟨Wf, hWf⟩ : ∃ Wf, Wx.alloc (.cells #[.int .i64 rc, .string ⟨rv.toArray⟩] 33) = Wf := ⟨_, rfl⟩
        have hBxf : Below Wx.heap.size Wx Wf := by rw [← hWf]; exact (Below.refl _ _).alloc (Nat.le_refl _) _
        have HBf : Hid (Bd W2 Wf d b mp ms d K1 K1) := HBx.out.below hBxf
        have HR1 : Hid (Rb Wf Wd.heap.size rc rv) := HRx.out.below hBxf
        have HR2 : Hid (Rb Wf Wx.heap.size rc rv) := by rw [← hWf]; exact Rb.new _ _ _
        obtain ⟨gc, gv, hget⟩ := HBf.out.get1 ky hk3
        have HG1 : Hid (∀ V, Below Wf.heap.size Wf V → Calls Try.prog 14 #[.pointer (some ⟨b, 0, none⟩), .string ⟨ky.toArray⟩] V fun e w' => e = .returned (.agg #[.int .i64 gc, .string ⟨gv.toArray⟩]) ∧ Below V.heap.size V w') := fun V hB => (hget V hB).1
        have HG2 : Hid (∀ V, Below Wf.heap.size Wf V → Calls Try.prog 15 #[.pointer (some ⟨d, 0, none⟩), .string ⟨ky.toArray⟩] V fun e w' => e = .returned (.agg #[.int .i64 gc, .string ⟨gv.toArray⟩]) ∧ Below V.heap.size V w') := fun V hB => (hget V hB).2
        have HFC : Hid (∀ V, Below Wf.heap.size Wf V → V.cell? ⟨Wd.heap.size, 0, none⟩ = some (.int .i64 rc) ∧ V.cell? ⟨Wd.heap.size, 1, none⟩ = some (.string ⟨rv.toArray⟩) ∧ V.cell? ⟨Wx.heap.size, 0, none⟩ = some (.int .i64 rc) ∧ V.cell? ⟨Wx.heap.size, 1, none⟩ = some (.string ⟨rv.toArray⟩) ∧ V.cell? ⟨g, off + i * 6 + 3, none⟩ = some (.string ⟨ky.toArray⟩)) := fun V hB => by
          obtain ⟨z1, z2⟩ := (HR1.out.below hB).cells
          obtain ⟨z3, z4⟩ := (HR2.out.below hB).cells
          obtain ⟨-, -, -, z5, -, -⟩ := HCF.out V (HBW.out V (HBf.out.below hB).up.bel)
          exact ⟨z1, z2, z3, z4, z5⟩
        have HBV : Hid (∀ V, Below Wf.heap.size Wf V → Bd W2 V d b mp ms d K1 K1) := fun V hB => HBf.out.below hB
        obtain ⟨s1, s2, s3, s4, s5⟩ := HFC.out Wf (Below.refl _ _)
        have l1 : Wd.heap.size < Wf.heap.size := (Array.getElem?_eq_some_iff.1 HR1.out).1
        have l2 : Wx.heap.size < Wf.heap.size := (Array.getElem?_eq_some_iff.1 HR2.out).1
        have l3 : g < Wf.heap.size := Nat.lt_of_lt_of_le hgw (HBW.out Wf HBf.out.up.bel).size
        have hB0 : Below Wf.heap.size Wf Wf.drew := (Below.refl _ _).drew
        clear hget hBxf HBx HRx HCF
        have hq8 : (i : Int).tmod 8 = ((i % 8 : Nat) : Int) := by rw [Int.tmod_eq_emod_of_nonneg hi0]; omega
        have HWF : Hid (Wx.alloc (.cells #[.int .i64 rc, .string ⟨rv.toArray⟩] 33) = Wf) := hWf
        go_wp2_with fail
        clear hWf
        go_region_held3 (fun w' => w'.cell? ⟨Wd.heap.size, 0, none⟩ = some (.int .i64 rc) ∧ w'.cell? ⟨Wd.heap.size, 1, none⟩ = some (.string ⟨rv.toArray⟩) ∧ w'.cell? ⟨Wx.heap.size, 0, none⟩ = some (.int .i64 rc) ∧ w'.cell? ⟨Wx.heap.size, 1, none⟩ = some (.string ⟨rv.toArray⟩) ∧ w'.cell? ⟨g, off + i * 6 + 3, none⟩ = some (.string ⟨ky.toArray⟩)) (go_keep)
          (first
            | (go_at_call 13; refine (num_any _ _).mono ?_; rintro r wz ⟨rfl, hz⟩; subst wz)
            | (go_at_call 14; refine (HG1.out _ (by first | exact hB0 | exact HB6.out)).mono ?_; rintro r w5 ⟨rfl, hB5⟩; have hB5' : Below Wf.heap.size Wf w5 := (by first | exact hB0.trans hB5 | exact HB6.out.trans (hB5.mono HB6.out.size)); obtain ⟨t1, t2, t3, t4, t5⟩ := HFC.out w5 hB5'; have HB5 : Hid (Below Wf.heap.size Wf w5) := hB5'; clear hB5 hB5')
            | (go_at_call 15; refine (HG2.out _ (by first | exact hB0 | exact HB5.out)).mono ?_; rintro r w6 ⟨rfl, hB6⟩; have hB6' : Below Wf.heap.size Wf w6 := (by first | exact hB0.trans hB6 | exact HB5.out.trans (hB6.mono HB5.out.size)); obtain ⟨t1, t2, t3, t4, t5⟩ := HFC.out w6 hB6'; have HB6 : Hid (Below Wf.heap.size Wf w6) := hB6'; clear hB6 hB6')
            | fail)
        have HBz : Hid (Bd W2 w6 d b mp ms d K1 K1) := HBV.out w6 HB6.out
        clear HG1 HG2 HFC HBV s1 s2 s3 s4 s5 t1 t2 t3 t4 t5 HR1 HR2 HBf hq8
        by_cases h8 : (i : Int) % 8 = 7
        · have h8' : ((i : Int) % 8 == 7) = true := by simpa using h8
          have HCS : Hid (Calls _ _ _ _ _) := HBz.out.same
          clear h8
          go_wp2_with fail
          refine HCS.out.mono ?_
          rintro e wz ⟨rfl, hBz2, -⟩
          have HBz2 : Hid (Bd W2 wz d b mp ms d K1 K1) := hBz2
          clear hBz2 HCS
          go_wp2
          exact ⟨⟨i + 1, K1, by go_num, by omega, HBz2.out⟩, by simp [intOf]; omega⟩
        · have h8' : ((i : Int) % 8 == 7) = false := by simpa using h8
          clear h8
          go_wp2
          exact ⟨⟨i + 1, K1, by go_num, by omega, HBz.out⟩, by simp [intOf]; omega⟩
      · have hlt2' : decide ((i : Int) < (cs.length : Int)) = false := by simp; omega
        have HCS : Hid (Calls _ _ _ _ _) := HBr.out.same
        go_wp2_with fail
        refine HCS.out.mono ?_
        rintro e Wz ⟨rfl, hBz, -⟩
        have HBz : Hid (Bd W2 Wz d b mp ms d K K) := hBz
        obtain ⟨gc, gv, hget⟩ := hBz.get1 key hkey
        have HG1 : Hid (Calls _ _ _ Wz _) := (hget Wz (Below.refl _ _)).1
        have HG2 : Hid (∀ V, Below Wz.heap.size Wz V → Calls Try.prog 15 #[.pointer (some ⟨d, 0, none⟩), .string ⟨key.toArray⟩] V fun e w' => e = .returned (.agg #[.int .i64 gc, .string ⟨gv.toArray⟩]) ∧ Below V.heap.size V w') := fun V hB => (hget V hB).2
        clear hBz hget HCS
        go_wp2_with fail
        refine HG1.out.mono ?_
        rintro e Wa ⟨rfl, hBa⟩
        have HBa : Hid (Below Wz.heap.size Wz Wa) := hBa
        clear hBa HG1
        go_wp2_with fail
        refine (HG2.out Wa HBa.out).mono ?_
        rintro e Wb ⟨rfl, hBb⟩
        have HBb : Hid (Bd W2 Wb d b mp ms d K K) := HBz.out.below (HBa.out.trans (hBb.mono HBa.out.size))
        clear hBb HG2 HBa HBz
        obtain ⟨vp, vs, hdd⟩ := HBb.out.ds
        have HCE : Hid (Calls _ _ _ _ _) := callsIn_wide.1 (eachKv_in 5 (Nat.le_refl _) HBb.out.up.st hdd stop)
        clear hdd
        go_wp2_with fail
        refine HCE.out.mono ?_
        rintro e Wc ⟨rfl, hBc⟩
        have HBc : Hid (Below w.heap.size w Wc) := HBW.out Wc (HBb.out.up.bel.trans (hBc.mono HBb.out.up.bel.size))
        clear hBc HCE
        go_wp2
        go_ret
        exact ⟨rfl, HBc.out⟩
end Go.Proofs.Ytglhjgfaelfleaa
