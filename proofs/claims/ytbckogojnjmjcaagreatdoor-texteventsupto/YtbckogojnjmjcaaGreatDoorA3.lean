/-
  The byte that stands first in a quoted word.
-/
import Derived.Test.YtbckogojnjmjcaaGreatDoorA1
import Derived.Test.YtbckogojnjmjcaaGreatDoorA2
namespace Go.Proofs.YtbckogojnjmjcaaGreatDoor
open Go.RowKit Go.Shelf

theorem ext_eq (s : Bs) (i j : Nat) : (⟨s.toArray⟩ : ByteArray).extract i j = ⟨((s.take j).drop i).toArray⟩ := by
  apply ByteArray.ext
  simp [List.drop_take]
/-- If a byte is spelt here, it is this one. -/
def Cand (s : Bs) (c : UInt8) : Prop := ∀ d, spell d <+: s → d = c
theorem cand_a {c : UInt8} {s : Bs} (h : c ≠ 92) : Cand (c :: s) c := by
  rintro d ⟨r, hr⟩
  rcases spell_cases d with ⟨h1, e1⟩ | ⟨a1, b1, n1, m1, e1⟩ | ⟨h1, e1⟩ <;> rw [e1] at hr <;> simp only [List.cons_append, List.nil_append, List.cons.injEq] at hr
  · exact absurd hr.1.symm h
  · exact hr.1
  · exact absurd hr.1.symm h
theorem cand_b (c : UInt8) : Cand [92] c := by
  rintro d ⟨r, hr⟩
  rcases spell_cases d with ⟨h1, e1⟩ | ⟨a1, b1, n1, m1, e1⟩ | ⟨h1, e1⟩ <;> rw [e1] at hr <;> simp at hr
  exact absurd hr.1 m1
theorem cand_c {c : UInt8} {s : Bs} (h : c ≠ 120) : Cand (92 :: c :: s) c := by
  rintro d ⟨r, hr⟩
  rcases spell_cases d with ⟨h1, e1⟩ | ⟨a1, b1, n1, m1, e1⟩ | ⟨h1, e1⟩ <;> rw [e1] at hr <;> simp only [List.cons_append, List.nil_append, List.cons.injEq] at hr
  · exact hr.2.1
  · exact absurd hr.1 m1
  · exact absurd hr.2.1.symm h
theorem cand_d {s : Bs} (c : UInt8) (h : s.length < 2) : Cand (92 :: 120 :: s) c := by
  rintro d ⟨r, hr⟩
  rcases spell_cases d with ⟨h1, e1⟩ | ⟨a1, b1, n1, m1, e1⟩ | ⟨h1, e1⟩ <;> rw [e1] at hr <;> simp only [List.cons_append, List.nil_append, List.cons.injEq] at hr
  · rcases h1 with rfl | rfl <;> exact absurd hr.2.1 (by decide)
  · exact absurd hr.1 m1
  · rw [← hr.2.2] at h; simp at h; omega
theorem cand_e {x y : UInt8} {s : Bs} {n : Nat} (hn : hexV 0 [x, y] = some n ∨ hexV 0 [x, y] = none ∧ n = 0) : Cand (92 :: 120 :: x :: y :: s) (UInt8.ofNat n) := by
  rintro d ⟨r, hr⟩
  have hd := d.toNat_lt
  rcases spell_cases d with ⟨h1, e1⟩ | ⟨a1, b1, n1, m1, e1⟩ | ⟨h1, e1⟩ <;> rw [e1] at hr <;> simp only [List.cons_append, List.nil_append, List.cons.injEq] at hr
  · rcases h1 with rfl | rfl <;> exact absurd hr.2.1 (by decide)
  · exact absurd hr.1 m1
  · have hv : hexV 0 [x, y] = some d.toNat := by
      rw [← hr.2.2.1, ← hr.2.2.2.1]
      simp only [hexV, hexN_D _ (show d.toNat / 16 < 16 by omega), hexN_D _ (show d.toNat % 16 < 16 by omega)]
      congr 1; omega
    rcases hn with h | h
    · rw [hv] at h; injection h with h; rw [← h]; simp
    · rw [hv] at h; cases h.1
/-- What takeByte answers. -/
def TbR (s : Bs) (e : Ending) : Prop := (∃ c, spell c <+: s ∧ e = .returned (.tuple #[.int .u8 (c.toNat : Int), .int .i64 ((spell c).length : Int)])) ∨ ((∀ c, ¬ spell c <+: s) ∧ e = .returned (.tuple #[.int .u8 0, .int .i64 0]))
theorem pre_any (s p : Bs) (w : World) : Calls Tryz.prog 107 #[str s, str p] w fun e w' => e = .returned (.bool (Lib.hasPrefix s p)) ∧ w' = w := by
  have h := Any.strings_HasPrefix Tryz.laysPre ⟨s.toArray⟩ ⟨p.toArray⟩ w
  rw [fPre] at h
  exact h
set_option maxRecDepth 100000 in
/-- From the candidate on. -/
theorem takeByte_any (s : Bs) (hs : s ≠ []) (hl : s.length ≤ 1000000000) (w : World) (hv : Vars w) : Calls Tryz.prog 88 #[str s] w fun e w' => TbR s e ∧ Below w.heap.size w w' := by
  have hz : (⟨s.toArray⟩ : ByteArray).size = s.length := by show s.toArray.size = _; simp
  have HP : Hid (∀ p w, Calls Tryz.prog 107 #[str s, str p] w fun e w' => e = .returned (.bool (Lib.hasPrefix s p)) ∧ w' = w) := pre_any s
  have HSP := spelt_any
  obtain ⟨c0, s1, hse⟩ : ∃ c0 s1, s = c0 :: s1 := by cases s with
    | nil => exact absurd rfl hs
    | cons c s => exact ⟨c, s, rfl⟩
  have h0l : 0 < s.length := by rw [hse]; simp
  have hx0 : (⟨s.toArray⟩ : ByteArray)[0]'(by rw [hz]; exact h0l) = c0 := by
    show s[0] = c0
    simp [hse]
  clear hs
  have HSE : Hid (s = c0 :: s1) := hse
  clear hse
  have HFIN : Hid (∀ (c : UInt8) (W : World), Cand s c → Calls Tryz.prog 107 #[str s, str (spell c)] W fun e w' => (((spell c <+: s) ∧ e = .returned (.bool true)) ∨ ((∀ d, ¬ spell d <+: s) ∧ e = .returned (.bool false))) ∧ w' = W) := fun c W hc => by
    refine (HP.out (spell c) W).mono ?_
    rintro e w' ⟨rfl, rfl⟩
    refine ⟨?_, rfl⟩
    cases hb : Lib.hasPrefix s (spell c) with
    | true => exact .inl ⟨List.isPrefixOf_iff_prefix.1 hb, rfl⟩
    | false =>
      refine .inr ⟨fun d hd => ?_, rfl⟩
      have := hc d hd
      subst this
      rw [show Lib.hasPrefix s (spell d) = true from List.isPrefixOf_iff_prefix.2 hd] at hb
      cases hb
  have HSL : Hid (∀ c : UInt8, (⟨(spell c).toArray⟩ : ByteArray).size = (spell c).length ∧ 1 ≤ (spell c).length ∧ (spell c).length ≤ 4) := fun c => ⟨by show (spell c).toArray.size = _; simp, spell_len c⟩
  unfold str at *
  by_cases h92 : c0 = 92
  · subst h92
    cases s1 with
    | nil =>
      have HC : Hid (Cand s 92) := by show Cand _ _; rw [HSE.out]; exact cand_b _
      have hle : s.length = 1 := by rw [HSE.out]; rfl
      have HX : Calls Tryz.prog 107 #[.string ⟨s.toArray⟩, .string ⟨#[92, 120]⟩] w fun e w' => e = .returned (.bool false) ∧ w' = w := by
        have := HP.out [92, 120] w
        rw [show Lib.hasPrefix s [92, 120] = false by rw [HSE.out]; rfl] at this
        exact this
      go_enter Tryz.func88, Tryz.ntmps88
      go_wp2_with fail
      refine HX.mono ?_
      rintro e w1 ⟨rfl, hw⟩
      subst w1
      go_wp2_with fail
      refine (HSP (92) _).mono ?_
      rintro e w1 ⟨rfl, hB1⟩
      have HF := HFIN.out (92) w1 HC.out
      obtain ⟨g1, g2, g3⟩ := HSL.out (92)
      generalize hsp : spell (92) = sp at *
      have HSPE : Hid (spell (92) = sp) := hsp
      clear hsp
      go_wp2_with fail
      refine HF.mono ?_
      rintro e w2 ⟨⟨hp, rfl⟩ | ⟨hp, rfl⟩, hw⟩
      · subst w2
        go_wp2
        go_ret2
        exact ⟨.inl ⟨(92), by rw [HSPE.out]; exact hp, by rw [HSPE.out]; rfl⟩, hB1⟩
      · subst w2
        go_wp2
        go_ret2
        exact ⟨.inr ⟨hp, rfl⟩, hB1⟩
    | cons d s2 =>
      have hl1 : 1 < s.length := by rw [HSE.out]; simp
      have hx1 : (⟨s.toArray⟩ : ByteArray)[1]'(by rw [hz]; exact hl1) = d := by
        show s[1] = d
        simp [HSE.out]
      by_cases h120 : d = 120
      · subst h120
        by_cases h2 : s2.length < 2
        · have HC : Hid (Cand s 120) := by show Cand _ _; rw [HSE.out]; exact cand_d _ h2
          have hl4 : s.length < 4 := by rw [HSE.out]; simp; omega
          have hxt : Lib.hasPrefix s [92, 120] = true := by rw [HSE.out]; rfl
          have HX : Calls Tryz.prog 107 #[.string ⟨s.toArray⟩, .string ⟨#[92, 120]⟩] w fun e w' => e = .returned (.bool true) ∧ w' = w := by
            have := HP.out [92, 120] w
            rw [show Lib.hasPrefix s [92, 120] = true by rw [HSE.out]; rfl] at this
            exact this
          go_enter Tryz.func88, Tryz.ntmps88
          go_wp2_with fail
          refine HX.mono ?_
          rintro e w1 ⟨rfl, hw⟩
          subst w1
          go_wp2_with fail
          refine (HSP (120) _).mono ?_
          rintro e w1 ⟨rfl, hB1⟩
          have HF := HFIN.out (120) w1 HC.out
          obtain ⟨g1, g2, g3⟩ := HSL.out (120)
          generalize hsp : spell (120) = sp at *
          have HSPE : Hid (spell (120) = sp) := hsp
          clear hsp
          go_wp2_with fail
          refine HF.mono ?_
          rintro e w2 ⟨⟨hp, rfl⟩ | ⟨hp, rfl⟩, hw⟩
          · subst w2
            go_wp2
            go_ret2
            exact ⟨.inl ⟨(120), by rw [HSPE.out]; exact hp, by rw [HSPE.out]; rfl⟩, hB1⟩
          · subst w2
            go_wp2
            go_ret2
            exact ⟨.inr ⟨hp, rfl⟩, hB1⟩
        · obtain ⟨x, y, s3, rfl⟩ : ∃ x y s3, s2 = x :: y :: s3 := by
            rcases s2 with _ | ⟨x, _ | ⟨y, s3⟩⟩
            · simp at h2
            · simp at h2
            · exact ⟨x, y, s3, rfl⟩
          have hl4 : 4 ≤ s.length := by rw [HSE.out]; simp
          have HPU := parse16 x y w hv
          unfold str at HPU
          have hext : (⟨s.toArray⟩ : ByteArray).extract 2 4 = ⟨#[x, y]⟩ := by rw [ext_eq, HSE.out]; rfl
          have HX : Calls Tryz.prog 107 #[.string ⟨s.toArray⟩, .string ⟨#[92, 120]⟩] w fun e w' => e = .returned (.bool true) ∧ w' = w := by
            have := HP.out [92, 120] w
            rw [show Lib.hasPrefix s [92, 120] = true by rw [HSE.out]; rfl] at this
            exact this
          go_enter Tryz.func88, Tryz.ntmps88
          go_wp2_with fail
          refine HX.mono ?_
          rintro e w1 ⟨rfl, hw⟩
          subst w1
          go_wp2_with fail
          refine HPU.mono ?_
          rintro e w0 ⟨⟨n, v, hn, rfl⟩, hB0⟩
          have HC : Hid (Cand s (UInt8.ofNat n)) := by show Cand _ _; rw [HSE.out]; exact cand_e hn
          have hwr : IntKind.u8.wrap (n : Int) = ((UInt8.ofNat n).toNat : Int) := by rw [IntKind.wrap_u8]; simp
          generalize UInt8.ofNat n = cc at HC hwr
          clear HPU hn hext
          go_wp2_with fail
          refine (HSP (cc) _).mono ?_
          rintro e w1 ⟨rfl, hB1⟩
          have HF := HFIN.out (cc) w1 HC.out
          obtain ⟨g1, g2, g3⟩ := HSL.out (cc)
          generalize hsp : spell (cc) = sp at *
          have HSPE : Hid (spell (cc) = sp) := hsp
          clear hsp
          go_wp2_with fail
          refine HF.mono ?_
          rintro e w2 ⟨⟨hp, rfl⟩ | ⟨hp, rfl⟩, hw⟩
          · subst w2
            go_wp2
            go_ret2
            exact ⟨.inl ⟨(cc), by rw [HSPE.out]; exact hp, by rw [HSPE.out]; rfl⟩, hB0.trans (hB1.mono hB0.size)⟩
          · subst w2
            go_wp2
            go_ret2
            exact ⟨.inr ⟨hp, rfl⟩, hB0.trans (hB1.mono hB0.size)⟩
      · have HC : Hid (Cand s d) := by show Cand _ _; rw [HSE.out]; exact cand_c h120
        have HX : Calls Tryz.prog 107 #[.string ⟨s.toArray⟩, .string ⟨#[92, 120]⟩] w fun e w' => e = .returned (.bool false) ∧ w' = w := by
          have := HP.out [92, 120] w
          rw [show Lib.hasPrefix s [92, 120] = false by rw [HSE.out]; simp [Lib.hasPrefix, List.isPrefixOf]; intro h; exact absurd h.symm h120] at this
          exact this
        go_enter Tryz.func88, Tryz.ntmps88
        go_wp2_with fail
        refine HX.mono ?_
        rintro e w1 ⟨rfl, hw⟩
        subst w1
        go_wp2_with fail
        refine (HSP (d) _).mono ?_
        rintro e w1 ⟨rfl, hB1⟩
        have HF := HFIN.out (d) w1 HC.out
        obtain ⟨g1, g2, g3⟩ := HSL.out (d)
        generalize hsp : spell (d) = sp at *
        have HSPE : Hid (spell (d) = sp) := hsp
        clear hsp
        go_wp2_with fail
        refine HF.mono ?_
        rintro e w2 ⟨⟨hp, rfl⟩ | ⟨hp, rfl⟩, hw⟩
        · subst w2
          go_wp2
          go_ret2
          exact ⟨.inl ⟨(d), by rw [HSPE.out]; exact hp, by rw [HSPE.out]; rfl⟩, hB1⟩
        · subst w2
          go_wp2
          go_ret2
          exact ⟨.inr ⟨hp, rfl⟩, hB1⟩
  · have HC : Hid (Cand s c0) := by show Cand _ _; rw [HSE.out]; exact cand_a h92
    have h1 : ((c0.toNat : Int) == 92) = false := by rw [beq_eq_false_iff_ne]; intro h; exact h92 (u8_eq (by show _ = 92; omega))
    have HX : Calls Tryz.prog 107 #[.string ⟨s.toArray⟩, .string ⟨#[92, 120]⟩] w fun e w' => e = .returned (.bool false) ∧ w' = w := by
      have := HP.out [92, 120] w
      rw [show Lib.hasPrefix s [92, 120] = false by rw [HSE.out]; simp [Lib.hasPrefix, List.isPrefixOf]; intro h; exact absurd h.symm h92] at this
      exact this
    go_enter Tryz.func88, Tryz.ntmps88
    go_wp2_with fail
    refine HX.mono ?_
    rintro e w1 ⟨rfl, hw⟩
    subst w1
    go_wp2_with fail
    refine (HSP (c0) _).mono ?_
    rintro e w1 ⟨rfl, hB1⟩
    have HF := HFIN.out (c0) w1 HC.out
    obtain ⟨g1, g2, g3⟩ := HSL.out (c0)
    generalize hsp : spell (c0) = sp at *
    have HSPE : Hid (spell (c0) = sp) := hsp
    clear hsp
    go_wp2_with fail
    refine HF.mono ?_
    rintro e w2 ⟨⟨hp, rfl⟩ | ⟨hp, rfl⟩, hw⟩
    · subst w2
      go_wp2
      go_ret2
      exact ⟨.inl ⟨(c0), by rw [HSPE.out]; exact hp, by rw [HSPE.out]; rfl⟩, hB1⟩
    · subst w2
      go_wp2
      go_ret2
      exact ⟨.inr ⟨hp, rfl⟩, hB1⟩
end Go.Proofs.YtbckogojnjmjcaaGreatDoor
