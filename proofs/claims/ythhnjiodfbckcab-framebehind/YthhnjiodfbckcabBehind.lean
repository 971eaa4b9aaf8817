/-
  For every two bytes the law FrameBehind returns true: what stands behind a whole frame changes nothing of Get at its place; Get, asked one behind the other, goes as far as All; no condition.
-/
import Derived.Test.YthhnjiodfbckcabRowIn
import Derived.Test.YthhnjiodfbckcabSpoilt
namespace Go.Proofs.Ythhnjiodfbckcab
open Go.ChangeShapes Go.WideShapes Go.ChangeAt Go.RowKit
open Go.ChangeMaps (open_string shut_string)
set_option linter.unusedVariables false

theorem getFront_more (r m : List UInt8) (h : (getFront r).2.2 = 0) : getFront (r ++ m) = getFront r := by
  have h4 : ¬ r.length < 4 := by intro h4; unfold getFront at h; rw [if_pos h4] at h; simp at h
  have hw : word4 (r ++ m) = word4 r := by rw [← word4_take (r ++ m) 4 (Nat.le_refl _), List.take_append_of_le_length (by omega), word4_take _ 4 (Nat.le_refl _)]
  obtain ⟨g1, g2, g3⟩ := getFront_ok r h
  have h2 : ¬ 1048576 < word4 r := by intro h2; unfold getFront at h; rw [if_neg h4, if_pos h2] at h; simp at h
  have e1 : (r ++ m).take 4 = r.take 4 := List.take_append_of_le_length (by omega)
  have e2 : ((r ++ m).drop 8).take (word4 r) = (r.drop 8).take (word4 r) := by
    rw [List.drop_append_of_le_length (by omega), List.take_append_of_le_length (by simp; omega)]
  have e3 : word4 ((r ++ m).drop 4) = word4 (r.drop 4) := by
    rw [List.drop_append_of_le_length (by omega), ← word4_take (r.drop 4 ++ m) 4 (Nat.le_refl _), List.take_append_of_le_length (by simp; omega), word4_take _ 4 (Nat.le_refl _)]
  unfold getFront
  rw [hw, e1, e2, e3, if_neg (by simp; omega), if_neg h2, if_neg (by simp; omega), if_neg h4, if_neg h2]
  rw [if_neg (show ¬ r.length < 8 + word4 r by omega)]

theorem getAt_more (b m : List UInt8) (k : Nat) (h : (getAt b (k : Int)).2.2 = 0) : getAt (b ++ m) (k : Int) = getAt b (k : Int) := by
  have hk : ¬ ((k : Int) < 0 ∨ (b.length : Int) < (k : Int)) := by intro q; unfold getAt at h; rw [if_pos q] at h; simp at h
  have e : getAt b (k : Int) = getFront (b.drop k) := by unfold getAt; rw [if_neg hk, Int.toNat_natCast]
  have e2 : getAt (b ++ m) (k : Int) = getFront (b.drop k ++ m) := by
    unfold getAt
    rw [if_neg (by simp; omega), Int.toNat_natCast, List.drop_append_of_le_length (by omega)]
  rw [e] at h ⊢
  rw [e2, getFront_more _ _ h]

theorem row_cell {N t : Nat} {w : World} {oa : Option Addr} {n oc : Nat} {xs : List FrD} (h : w.ownsRow N t 1 (.slice oa n oc) xs.length (xs.map FrD.v)) (k : Nat) (hk : k < xs.length) :
    ∃ b, oa = some ⟨b, 0, none⟩ ∧ w.cell? ⟨b, k, none⟩ = some (xs[k]'hk).v ∧ n = xs.length ∧ n ≤ oc ∧ oc ≤ maxLen := by
  rcases h.2 with ⟨h1, h2⟩ | ⟨g, cap, cur, h1, hg, hh, hc1, hc2, hc3, hc4⟩
  · omega
  · cases h1
    refine ⟨g, rfl, ?_, rfl, hc1, hc2⟩
    rw [Nat.mul_one] at hc4
    have : (cur.toList.take xs.length)[k]? = (xs.map FrD.v)[k]? := by rw [hc4]
    rw [List.getElem?_take, if_pos hk, List.getElem?_map, List.getElem?_eq_getElem hk] at this
    simp only [World.cell?, hh]
    simpa using this

/-- Where the frames from a place on begin. -/
theorem from_step (b : List UInt8) (f k i : Nat) (hf : b.length - k < f) (hs : (framesOf b).drop i = framesFrom f b k) (hi : i < (framesOf b).length) :
    (getAt b (k : Int)).2.2 = 0 ∧ (framesOf b)[i]? = some (k, (getAt b (k : Int)).1) ∧ ∃ f', f = f' + 1 ∧ (framesOf b).drop (i + 1) = framesFrom f' b (k + (getAt b (k : Int)).2.1) ∧ b.length - (k + (getAt b (k : Int)).2.1) < f' ∧ endFrom f b k = endFrom f' b (k + (getAt b (k : Int)).2.1) := by
  obtain ⟨f, rfl⟩ : ∃ f', f = f' + 1 := ⟨f - 1, by omega⟩
  have hd := List.drop_eq_getElem_cons hi
  by_cases h : (getAt b (k : Int)).2.2 = 0
  · have hgo := getAt_ok b k h
    have e : framesFrom (f + 1) b k = (k, (getAt b (k : Int)).1) :: framesFrom f b (k + (getAt b (k : Int)).2.1) := by simp [framesFrom, h]
    rw [e, hd] at hs
    have h1 := (List.cons.inj hs)
    refine ⟨h, by rw [List.getElem?_eq_getElem hi, h1.1], f, rfl, h1.2, by omega, ?_⟩
    simp [endFrom, h]
  · have e : framesFrom (f + 1) b k = [] := by simp [framesFrom, h]
    rw [e, hd] at hs
    cases hs

theorem from_end (b : List UInt8) (f k i : Nat) (hf : b.length - k < f) (hs : (framesOf b).drop i = framesFrom f b k) (hi : (framesOf b).length ≤ i) : (getAt b (k : Int)).2.2 ≠ 0 ∧ endFrom f b k = k := by
  obtain ⟨f, rfl⟩ : ∃ f', f = f' + 1 := ⟨f - 1, by omega⟩
  rw [List.drop_of_length_le hi] at hs
  by_cases h : (getAt b (k : Int)).2.2 = 0
  · simp [framesFrom, h] at hs
  · exact ⟨h, by simp [endFrom, h]⟩

set_option maxRecDepth 100000 in
set_option maxHeartbeats 4000000 in
theorem frameBehind_walk0 (v u : Value) (b m : List UInt8) (w : World) (hv : Sl w.heap.size w v b) (hu : Sl w.heap.size w u m) :
    Calls Try.prog 4 #[v, u] w fun e w' => e = .returned (.bool true) ∧ Below w.heap.size w w' := by
  obtain ⟨a, c, rfl, -⟩ := id hv
  obtain ⟨ua, uc, rfl, -⟩ := id hu
  by_cases hl : b.length ≤ 4000
  · by_cases hl2 : m.length ≤ 4000
    · go_enter Try.func4, Try.ntmps4
      go_wp2_with fail
      refine (first_any _).mono ?_
      rintro e w1 ⟨rfl, hB1⟩
      have hz1 := hB1.size
      go_wp2_with fail
      refine (all_any _ b w1 ((hv.below hB1).mono hz1) (by omega)).mono ?_
      rintro e w2 ⟨xs, vl, rfl, hk2, hrow2, hpay2, -, hB2⟩
      have hz2 := hB2.size
      have HW2 : Hid (Below w.heap.size w w2) := hB1.trans (hB2.mono hz1)
      have hvl : ∃ la lc, vl = .slice la xs.length lc := by
        rcases hrow2.2 with ⟨h1, h2⟩ | ⟨g, cap, cur, h1, _⟩
        · exact ⟨none, 0, by rw [h1, h2]⟩
        · exact ⟨_, _, h1⟩
      obtain ⟨la, lc, rfl⟩ := hvl
      have hxl : xs.length = (framesOf b).length := by rw [← hk2, List.length_map]
      clear hB1 hB2
      go_wp2_with fail
      refine (bytes_any w.heap.size _ b w2 (hv.below HW2.out) HW2.out.size (by omega)).mono ?_
      rintro e w3 ⟨v3, rfl, hO3, hB3⟩
      obtain ⟨a3, c3, rfl, -⟩ := hO3.shape
      have hz3 := hB3.size
      have HW3 : Hid (Below w.heap.size w w3) := HW2.out.trans (hB3.mono HW2.out.size)
      have hu3 := hu.below HW3.out
      have hlt3 := World.ownsRow.lt hO3
      have hcl : (b ++ m).length = b.length + m.length := by simp
      have HX : Hid (∀ wx, Below w2.heap.size w2 wx → ∀ i, i < xs.length → ∃ bl xa xc, la = some ⟨bl, 0, none⟩ ∧ xs.length ≤ lc ∧ lc ≤ maxLen ∧ wx.cell? ⟨bl, i, none⟩ = some (.slice xa ((framesOf b)[i]?.getD (0, [])).2.length xc) ∧ Sl wx.heap.size wx (.slice xa ((framesOf b)[i]?.getD (0, [])).2.length xc) ((framesOf b)[i]?.getD (0, [])).2) := by
        intro wx hBx i hi
        obtain ⟨bl, hla, hc, -, hlc1, hlc2⟩ := row_cell hrow2 i hi
        have hp : (xs[i]'hi).pay = ((framesOf b)[i]?.getD (0, [])).2 := by
          have : (xs.map FrD.key)[i]? = (framesOf b)[i]? := by rw [hk2]
          rw [List.getElem?_map, List.getElem?_eq_getElem hi] at this
          rw [← this]; rfl
        have hO := hpay2 (xs[i]'hi) (List.getElem_mem hi)
        have hbl : bl < w2.heap.size := cell_lt hc
        refine ⟨bl, (xs[i]'hi).a, (xs[i]'hi).cap, hla, hlc1, hlc2, ?_, ?_⟩
        · rw [(hBx.cell (p := ⟨bl, i, none⟩) hbl), hc, ← hp]; rfl
        · rw [← hp]
          exact (hO.below hBx (Nat.le_refl _)).sl (Nat.le_refl _)
      clear hrow2 hpay2 hk2
      go_wp2_with (at_builtin; refine wpList_append_ow rfl _ _ rfl w2.heap.size w.heap.size _ _ b m rfl hO3 rfl hu3 (by omega) hz3 ?_; intro v4 w4 hO4 hg4 hn4; obtain ⟨a4, c4, hv4, -⟩ := hO4.shape; rw [hcl] at hv4; subst hv4; have hB4 := hB3.trans (below_grown hg4 hz3 (fun k e => (hlt3 k e).1)); clear hg4 hn4)
      have hz4 := hB4.size
      have HW4 : Hid (Below w.heap.size w w4) := HW2.out.trans (hB4.mono HW2.out.size)
      have hs4 := hO4.sl (Nat.le_refl w4.heap.size)
      have HS4 : Hid (Sl w4.heap.size w4 (.slice a4 (b.length + m.length) c4) (b ++ m)) := hs4
      have HB4 : Hid (Below w2.heap.size w2 w4) := hB4
      have HE : Hid (endFrom (b.length + 1) b 0 = endOf b) := rfl
      have hel := endOf_le b
      clear hO4 hs4 hB4 hO3 hB3 hu3 hlt3
      go_wp2
      go_loopw [10, 11] (fun q i wr => ∃ i' k f : Nat, i = .int .i64 (i' : Int) ∧ q = .int .i64 (k : Int) ∧ i' ≤ xs.length ∧ k ≤ b.length ∧ b.length - k < f ∧ (framesOf b).drop i' = framesFrom f b k ∧ endFrom f b k = endOf b ∧ Below w4.heap.size w4 wr) (fun _ i _ => xs.length - (intOf i).toNat)
      case atStart => exact ⟨0, 0, b.length + 1, rfl, rfl, by omega, by omega, by omega, rfl, rfl, Below.refl _ _⟩
      case round =>
        obtain ⟨i', k, f, rfl, rfl, hi', hkb, hf, hs, he, hB⟩ := hrel
        have hz := hB.size
        by_cases hlt : i' < xs.length
        · obtain ⟨g0, g1, f', rfl, g2, g3, g4⟩ := from_step b f k i' hf hs (by omega)
          obtain ⟨h81, h82⟩ := getAt_ok b k g0
          have hmore := getAt_more b m k g0
          have CG := get_any w4.heap.size _ (b ++ m) (k : Int) wr (HS4.out.below hB) hz (by simp; omega) (by omega)
          rw [hmore] at CG
          have HXI : Hid (∀ wx, Below w2.heap.size w2 wx → ∃ bl xa xc, la = some ⟨bl, 0, none⟩ ∧ xs.length ≤ lc ∧ lc ≤ maxLen ∧ wx.cell? ⟨bl, i', none⟩ = some (.slice xa (getAt b (k : Int)).1.length xc) ∧ Sl wx.heap.size wx (.slice xa (getAt b (k : Int)).1.length xc) (getAt b (k : Int)).1) := by
            intro wx hBx
            have := HX.out wx hBx i' hlt
            rw [g1] at this
            exact this
          have HB2 : Hid (∀ wx, Below wr.heap.size wr wx → Below w2.heap.size w2 wx ∧ Below w4.heap.size w4 wx) := fun wx h => ⟨(HB4.out.trans (hB.mono hz4)).trans (h.mono (Nat.le_trans hz4 hz)), hB.trans (h.mono hz)⟩
          rw [he] at g4
          have HN : Hid ((framesOf b).drop (i' + 1) = framesFrom f' b (k + (getAt b (k : Int)).2.1) ∧ endFrom f' b (k + (getAt b (k : Int)).2.1) = endOf b) := ⟨g2, g4.symm⟩
          clear hs he g1 g2 g4 hmore
          generalize getAt b (k : Int) = gg at *
          obtain ⟨pp, n, ee⟩ := gg
          simp only at g0 h81 h82 CG g3 HXI HN
          subst g0
          obtain ⟨bl, xa0, xc0, rfl, hlc1, hlc2, -, -⟩ := HXI.out wr (HB2.out wr (Below.refl _ _)).1
          unfold maxLen at hlc2
          have HC : Hid (∀ wx, Below wr.heap.size wr wx → ∃ xa xc, wx.cell? ⟨bl, i', none⟩ = some (.slice xa pp.length xc) ∧ Sl wx.heap.size wx (.slice xa pp.length xc) pp ∧ Below w4.heap.size w4 wx) := by
            intro wx h
            obtain ⟨bl', xa, xc, e, -, -, h1, h2⟩ := HXI.out wx (HB2.out wx h).1
            cases e
            exact ⟨xa, xc, h1, h2, (HB2.out wx h).2⟩
          have hn : ((n : Int) != 8 + (pp.length : Int)) = false := by rw [bne_eq_false_iff_eq]; omega
          have hxb : xs.length ≤ 4000 := by have := framesOf_len b; omega
          clear HXI HB2 hB
          go_wp2_with (first
            | (go_at_call 12; refine CG.mono ?_; rintro e w5 ⟨v5, rfl, hO5, hB5⟩; obtain ⟨a5, c5, rfl, -⟩ := hO5.shape; obtain ⟨xa, xc, hcx, hsx, hB45⟩ := HC.out w5 hB5; simp only at hO5)
            | (go_at_call 9; refine (same_any w5.heap.size _ _ pp pp w5 (hO5.sl (Nat.le_refl _)) hsx).mono ?_; rintro e w6 ⟨rfl, n6, rfl⟩; simp only [decide_true]; have hB6 := below_drewN hB45 n6; generalize w5.drewN n6 = w6 at *)
            | (go_at_call 7; refine (num_any _ _).mono ?_; rintro e w' ⟨rfl, hw⟩; subst w'))
          go_roundw
          case rel => exact ⟨i' + 1, k + n, f', by go_num, by go_num, by omega, by omega, g3, HN.out.1, HN.out.2, hB6⟩
          case measure => simp [intOf]; omega
        · obtain ⟨g0, g1⟩ := from_end b f k i' hf hs (by omega)
          rw [he] at g1
          have hBw := HW4.out.trans (hB.mono HW4.out.size)
          have CG := get_any w.heap.size _ b (k : Int) wr (hv.below hBw) hBw.size (by omega) (by omega)
          have hAE : allE b = if k = b.length then 0 else (getAt b (k : Int)).2.2 := by unfold allE; rw [g1]
          rw [g1] at *
          generalize getAt b (k : Int) = gg at *
          obtain ⟨pp, n, ee⟩ := gg
          simp only at g0 CG hAE
          have HBW : Hid (∀ wx, Below wr.heap.size wr wx → Below w.heap.size w wx) := fun wx h => hBw.trans (h.mono hBw.size)
          have hil : decide ((i' : Int) < (xs.length : Int)) = false := by simp; omega
          have hne : ((ee : Int) != 0) = true := by rw [bne_iff_ne]; omega
          clear hs he hB hBw hz
          have hki : ((k : Int) == (k : Int)) = true := by simp
          by_cases hkb2 : k = b.length
          · rw [if_pos hkb2] at hAE
            rw [hAE]
            have hlt2 : ¬ (k : Int) < (b.length : Int) := by omega
            have hlt3 : (b.length : Int) ≤ (k : Int) := by omega
            clear hkb2 hAE g1 hel hkb
            go_wp2_with (first
              | (go_at_call 12; refine CG.mono ?_; rintro e w5 ⟨v5, rfl, -, hB5⟩; have hBw5 := HBW.out w5 hB5)
              | (go_at_call 7; refine (num_any _ _).mono ?_; rintro e w' ⟨rfl, hw⟩; subst w'))
            go_ret
            exact ⟨rfl, hBw5⟩
          · rw [if_neg hkb2] at hAE
            rw [hAE]
            have hlt2 : (k : Int) < (b.length : Int) := by omega
            have hlt3 : k < b.length := by omega
            clear hkb2 hAE g1
            go_wp2_with (first
              | (go_at_call 12; refine CG.mono ?_; rintro e w5 ⟨v5, rfl, -, hB5⟩; have hBw5 := HBW.out w5 hB5)
              | (go_at_call 7; refine (num_any _ _).mono ?_; rintro e w' ⟨rfl, hw⟩; subst w'))
            go_ret
            exact ⟨rfl, hBw5⟩
    · have hl2' : decide ((4000 : Int) < (m.length : Int)) = true := by simp; omega
      have hl' : decide ((4000 : Int) < (b.length : Int)) = false := by simp; omega
      go_enter Try.func4, Try.ntmps4
      go_wp2_with fail
      refine (first_any _).mono ?_
      rintro e w1 ⟨rfl, hB1⟩
      go_wp2
      go_ret
      exact ⟨rfl, hB1⟩
  · have hl' : decide ((4000 : Int) < (b.length : Int)) = true := by simp; omega
    go_enter Try.func4, Try.ntmps4
    go_wp2_with fail
    refine (first_any _).mono ?_
    rintro e w1 ⟨rfl, hB1⟩
    go_wp2
    go_ret
    exact ⟨rfl, hB1⟩
theorem frameBehind_walk (a0 : Option Addr) (len0 cap0 : Nat) (z0 : List Int) (a1 : Option Addr) (len1 cap1 : Nat) (z1 : List Int) (w : World) (w0 : IsRow .u8 w a0 len0 cap0 z0) (w1 : IsRow .u8 w a1 len1 cap1 z1) :
    Calls Try.prog 4 #[.slice a0 len0 cap0, .slice a1 len1 cap1] w fun e w' => e = .returned (.bool true) ∧ Below w.heap.size w w' := by
  obtain ⟨l, rfl, hs⟩ := isRow_sl w0
  obtain ⟨m, rfl, hs1⟩ := isRow_sl w1
  exact frameBehind_walk0 _ _ l m w hs hs1

set_option maxRecDepth 100000 in
theorem frameBehind_lifted (os : Os) (started : os.Started) (H : Type) (enc : TypeId × Value → H) :
    ReturnsInHanded {} Try.checked os 4 .any (Rows.frameBehindSpec.pre6 enc Try.prog Try.f4 Rows.frameBehindRow.domain false) (Rows.frameBehindSpec.post enc Try.prog Try.f4 false true false false) := by
  refine returnsInHanded_of_change (C := Try.checked) own started (by kernel_rfl) Try.func4
    (ChangeSpec.witness6 (enc := enc) (C := Try.checked) false ⟨#[], #[.slice none 0 0, .slice none 0 0], []⟩ 8 (by kernel_rfl) (by kernel_rfl) (by kernel_rfl) (by kernel_rfl)) ?_
  intro W base args ds gs before hval0 hW hcnd _
  have hval : ∀ (j : Nat) t v, Try.f4.params[j]? = some t → args[j]? = some v → Value.okWide Try.prog W .any base t v := hval0
  have hW' := hW
  obtain ⟨p, q, hA0, hV, rfl, hfz, hnd⟩ := hW
  have hA : DataW.TrodAll enc Try.prog W 0 (fun _ => true) true Try.f4.params.toList args.toList ds p := hA0
  rw [Try.params4] at hA hval
  obtain ⟨v0, vs0, d0, ds0, p0, q0, hargs, rfl, rfl, h0, r0⟩ := trodAll_cons hA
  obtain ⟨v1, vs1, d1, ds1, p1, q1, rfl, rfl, rfl, h1, r1⟩ := trodAll_cons r0
  obtain ⟨rfl, rfl, rfl⟩ := trodAll_nil r1
  obtain rfl : args = #[v0, v1] := by cases args; simp_all
  obtain ⟨rfl, rfl⟩ := trodVars_none hV
  obtain ⟨a0, len0, cap0, rfl⟩ := okWide_slice Try.underlying22 (hval 0 22 v0 rfl rfl)
  obtain ⟨a1, len1, cap1, rfl⟩ := okWide_slice Try.underlying22 (hval 1 22 v1 rfl rfl)
  have k0 := h0
  have k1 := h1
  have lt0 : ∀ x ∈ p0, x.block < W.heap.size := by obtain ⟨m, hm⟩ := k0; exact DataW.trod_lt m _ _ _ hm
  have lt1 : ∀ x ∈ p1, x.block < W.heap.size := by obtain ⟨m, hm⟩ := k1; exact DataW.trod_lt m _ _ _ hm
  obtain ⟨z0, w0⟩ : ∃ zs, IsRow .u8 W a0 len0 cap0 zs := by
    obtain ⟨fuel, hf⟩ := h0
    rcases open_ints Try.underlying22 Try.underlying5 (by kernel_rfl) hf with ⟨hcs, _⟩ | ⟨x, l, c, zs, hcs, _, hl, hm, hz, _, hcell, hwz⟩
    · simp [Value.cells] at hcs
      obtain ⟨rfl, rfl, rfl⟩ := hcs
      exact ⟨[], .inl ⟨rfl, rfl, rfl, rfl⟩⟩
    · simp [Value.cells] at hcs
      obtain ⟨rfl, rfl, rfl⟩ := hcs
      exact ⟨zs, .inr ⟨_, rfl, hl, hm, by simpa using hz, hcell, hwz⟩⟩
  obtain ⟨z1, w1⟩ : ∃ zs, IsRow .u8 W a1 len1 cap1 zs := by
    obtain ⟨fuel, hf⟩ := h1
    rcases open_ints Try.underlying22 Try.underlying5 (by kernel_rfl) hf with ⟨hcs, _⟩ | ⟨x, l, c, zs, hcs, _, hl, hm, hz, _, hcell, hwz⟩
    · simp [Value.cells] at hcs
      obtain ⟨rfl, rfl, rfl⟩ := hcs
      exact ⟨[], .inl ⟨rfl, rfl, rfl, rfl⟩⟩
    · simp [Value.cells] at hcs
      obtain ⟨rfl, rfl, rfl⟩ := hcs
      exact ⟨zs, .inr ⟨_, rfl, hl, hm, by simpa using hz, hcell, hwz⟩⟩
  clear hA0 hval0
  refine (frameBehind_walk a0 len0 cap0 z0 a1 len1 cap1 z1 W w0 w1).mono fun e W' ⟨he, bel⟩ => ?_
  subst he
  exact ⟨_, rfl, _, _, _, [], _, [], hW', trodAll_mk1 (shut_bool Try.underlying4 _), (trodAll_cons_mk (Below.trod laidOut (by kernel_rfl) (of_decide_eq_true (by kernel_rfl)) k0 bel lt0) (trodAll_cons_mk (Below.trod laidOut (by kernel_rfl) (of_decide_eq_true (by kernel_rfl)) k1 bel lt1) trodAll_mk0)), rfl, bel.frame _, fun h => by cases h⟩

theorem frameBehind_holds : Rows.FrameBehindSaid :=
  OpenClaim.holds_of_wide 4 Try.f4 rfl rfl rfl rfl rfl rfl rfl ⟨rfl, rfl, rfl, rfl, rfl⟩ rfl rfl rfl rfl rfl (by kernel_rfl) Try.func4 (by kernel_rfl)
    (of_decide_eq_true (by kernel_rfl)) (by unfold Func.isWrapper; first | (rw [if_pos (by decide +kernel)]; kernel_rfl) | (rw [if_neg (by decide +kernel)]; exact ⟨rfl, rfl⟩))
    (fun os started H enc _ => frameBehind_lifted os started H enc)
#print axioms frameBehind_holds
end Go.Proofs.Ythhnjiodfbckcab
