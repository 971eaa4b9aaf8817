/-
  CodecTexts: the walk of the law.
-/
import Derived.Test.YtfnnbfgfmbiababCmg
import Derived.Test.YtfnnbfgfmbiababFir
namespace Go.Proofs.Ytfnnbfgfmbiabab
open Go.RowKit Go.Shelf
set_option linter.unusedVariables false

theorem cmCells_at : ∀ (es : List Cm) (i j : Nat), i < es.length → j < 6 → (cmCells es)[i * 6 + j]? = (cmCells [es.getD i nilCm])[j]?
  | [], i, _, h, _ => by simp at h
  | e :: r, 0, j, _, hj => by
    simp only [cmCells, Nat.zero_mul, Nat.zero_add, List.getD_cons_zero, List.append_nil]
    rw [List.getElem?_append_left (by simp; omega)]
  | e :: r, i + 1, j, h, hj => by
    have ih := cmCells_at r i j (by simpa using h) hj
    rw [List.getD_cons_succ, ← ih]
    show ([.int .i64 e.o, .int .i64 e.c, .int .i64 e.s, .string ⟨e.k.toArray⟩, .string ⟨e.v.toArray⟩, .string ⟨e.d.toArray⟩] ++ cmCells r)[(i + 1) * 6 + j]? = _
    rw [List.getElem?_append_right (by simp; omega)]
    congr 1
    simp
    omega
theorem row_cms {N : Nat} {w : World} {a : Option Addr} {c : Nat} {es : List Cm} (h : w.ownsRow N 45 6 (.slice a es.length c) es.length (cmCells es)) : CmsAt w.heap.size w a es := by
  rcases h.2 with ⟨hv, h0⟩ | ⟨g, cap, cur, hv, _, hb, h1, h2, h3, h4⟩
  · exact .inl (List.length_eq_zero_iff.1 h0)
  · cases hv
    refine .inr ⟨g, 0, rfl, (Array.getElem?_eq_some_iff.1 hb).1, fun i hi => ?_⟩
    have key : ∀ j, j < 6 → w.cell? ⟨g, 0 + i * 6 + j, none⟩ = (cmCells [es.getD i nilCm])[j]? := fun j hj => by
      have e1 := cmCells_at es i j hi hj
      have e2 : (cur.toList.take (es.length * 6))[i * 6 + j]? = (cmCells es)[i * 6 + j]? := by rw [h4]
      rw [List.getElem?_take_of_lt (by omega), e1] at e2
      simp only [World.cell?, hb, Nat.zero_add]
      simpa using e2
    exact ⟨key 0 (by omega), key 1 (by omega), key 2 (by omega), key 3 (by omega), key 4 (by omega), key 5 (by omega)⟩

set_option maxRecDepth 100000 in
set_option maxHeartbeats 20000000 in
theorem codecTexts_walk (a : Option Addr) (ca : Nat) (es : List Cm) (limit : Int) (w : World) (hE : CmsAt w.heap.size w a es) (hl : es.length ≤ 9223372036854775807) (hz : ∀ e ∈ es, e.k.length ≤ 9223372036854775807 ∧ e.v.length ≤ 9223372036854775807 ∧ e.d.length ≤ 9223372036854775807) (hli : -9223372036854775808 ≤ limit ∧ limit ≤ 9223372036854775807) :
    Calls Try.prog 7 #[.slice a es.length ca, .int .i64 limit] w fun e w' => e = .returned (.bool true) ∧ Below w.heap.size w w' := by
  have HE : Hid (CmsAt w.heap.size w a es) := hE
  have HZ : Hid (∀ e ∈ es, e.k.length ≤ 9223372036854775807 ∧ e.v.length ≤ 9223372036854775807 ∧ e.d.length ≤ 9223372036854775807) := hz
  clear hE hz
  go_enter Try.func7, Try.ntmps7
  go_wp2_with fail
  refine (first_any w).mono ?_
  rintro e w1 ⟨rfl, hB1⟩
  have HB1 : Hid (Below w.heap.size w w1) := hB1
  clear hB1
  go_wp2
  go_loopw [6, 7] (fun sv iv wr => ∃ (k : Nat) (m : Int), iv = .int .i64 (k : Int) ∧ sv = .int .i64 m ∧ k ≤ es.length ∧ Below w.heap.size w wr) (fun _ iv _ => es.length - (intOf iv).toNat)
  case atStart => exact ⟨0, 0, rfl, rfl, Nat.zero_le _, HB1.out⟩
  case round =>
    obtain ⟨k, m, rfl, rfl, hk, hB⟩ := hrel
    have HB : Hid (Below w.heap.size w wr) := hB
    by_cases hlt : k < es.length
    · have hi0 : (k : Int) < (es.length : Int) := by omega
      obtain ⟨b, off, rfl, hb, ho⟩ := HE.out.at hlt
      obtain ⟨c0, c1, c2, c3, c4, c5⟩ := ho.below hb hB
      obtain ⟨q1, q2, q3⟩ := HZ.out _ (getDC hlt)
      generalize (es.getD k nilCm).k = ek at *
      generalize (es.getD k nilCm).v = ev at *
      generalize (es.getD k nilCm).d = ed at *
      clear ho hB
      have hk0 : (0 : Int) ≤ (k : Int) := by omega
      rcases Int.lt_or_le 20000 (ek.length : Int) with h1 | h1 <;> rcases Int.lt_or_le 20000 (ev.length : Int) with h2 | h2 <;> rcases Int.lt_or_le 20000 (ed.length : Int) with h3 | h3
      all_goals (go_wp2_with fail; go_quiet (fail); go_wp2; exact ⟨⟨k + 1, _, by go_num, rfl, by omega, HB.out.trans ⟨rfl, rfl, rfl, Nat.le_refl _, fun _ _ => rfl⟩⟩, by simp [intOf]; omega⟩)
    · have hi0 : decide ((k : Int) < (es.length : Int)) = false := by simp; omega
      clear hB
      by_cases h100 : (100 : Int) < (es.length : Int)
      · go_wp2
        go_ret
        exact ⟨rfl, HB.out⟩
      have h100' : decide ((100 : Int) < (es.length : Int)) = false := by simpa using h100
      by_cases hmm : (20000 : Int) < m
      · go_wp2
        go_ret
        exact ⟨rfl, HB.out⟩
      have hmm' : decide ((20000 : Int) < m) = false := by simpa using hmm
      have hn : es.length ≤ 100 := by omega
      have HE1 : Hid (plE 100 es = firstErrC es) := by show plE 100 es = _; unfold plE; rw [if_neg h100]
      have HT1 : Hid (plT 100 es = if firstErrC es = 0 then txC es else []) := by show plT 100 es = _; unfold plT; rw [HE1.out]; rfl
      have hp1 := fun w' (hw : Below w.heap.size w w') => putListC_any a ca es 100 w' w.heap.size (HE.out.below hw) hw.size hn
      have hp2 := fun w' (hw : Below w.heap.size w w') => putListC_any a ca es limit w' w.heap.size (HE.out.below hw) hw.size hn
      rw [HE1.out, HT1.out] at hp1
      go_wp2_with fail
      refine (hp1 wr HB.out).mono ?_
      rintro e w2 ⟨t, rfl, hO2, hB2⟩
      have HB2 : Hid (Below w.heap.size w w2) := HB.out.trans (hB2.mono HB.out.size)
      go_wp2_with fail
      refine (hp2 w2 HB2.out).mono ?_
      rintro e w3 ⟨u, rfl, hO3, hB3⟩
      have HB3 : Hid (Below w.heap.size w w3) := HB2.out.trans (hB3.mono HB2.out.size)
      have hO2' := hO2.below hB3 (Nat.le_refl _)
      obtain ⟨ua, uc, hu, -, -⟩ := hO3.shape
      obtain ⟨ta, tc, ht, -, -⟩ := hO2.shape
      by_cases hlim : limit < (es.length : Int)
      · have e1 : plE limit es = 3 := by unfold plE; rw [if_pos hlim]
        have e2 : plT limit es = [] := by unfold plT; rw [e1]; rfl
        rw [e1]
        rw [e2] at hu
        subst hu
        clear hO2 hO3 hO2' hp1 hp2 e1 e2 ht
        go_wp2_with (go_at_call 13; refine (num_any _ _).mono ?_; rintro e wz ⟨rfl, hwz⟩; rw [hwz]; clear hwz)
        go_ret
        exact ⟨rfl, HB3.out⟩
      have e1 : plE limit es = firstErrC es := by unfold plE; rw [if_neg hlim]
      have e2 : plT limit es = if firstErrC es = 0 then txC es else [] := by unfold plT; rw [e1]; rfl
      rw [e1]
      rw [e2] at hO3 hu
      have hsm := same_any w3.heap.size t u _ _ w3 (hO2'.sl (Nat.le_refl _)) (hO3.sl (Nat.le_refl _))
      rw [show decide ((if firstErrC es = 0 then txC es else []) = (if firstErrC es = 0 then txC es else [])) = true from by simp] at hsm
      clear e1 e2 hp1 hp2 hO3
      by_cases hz : firstErrC es = 0
      · have hck := firstErrC_all hz
        rw [hz] at ht hO2' hu ⊢
        simp only [if_true] at ht hO2' hu
        subst hu ht
        have HO : Hid (Ow wr.heap.size w3 (.slice ta (txC es).length tc) (txC es)) := hO2'
        clear hO2 hO2' hz
        go_wp2_with (first | (go_at_call 12; refine hsm.mono ?_; rintro e w4 ⟨rfl, nn, rfl⟩) | (go_at_call 13; refine (num_any _ _).mono ?_; rintro e wz ⟨rfl, hwz⟩; rw [hwz]; clear hwz))
        have hdr : Below w3.heap.size w3 (w3.drewN nn) := ⟨rfl, rfl, rfl, Nat.le_refl _, fun _ _ => rfl⟩
        have HB4 : Hid (Below w.heap.size w (w3.drewN nn)) := HB3.out.trans (hdr.mono HB3.out.size)
        have hO4 := HO.out.below hdr (Nat.le_refl _)
        generalize w3.drewN nn = w4 at *
        refine (getListC_any es (es.length : Int) _ w4 w4.heap.size (hO4.sl (Nat.le_refl _)) (Nat.le_refl _) hck hn).mono ?_
        rw [if_neg (by omega)]
        rintro e w5 ⟨v5, rfl, hq5, hB5⟩
        have hrow5 := hq5 (by omega)
        obtain ⟨va, vc, rfl⟩ : ∃ va vc, v5 = .slice va es.length vc := by
          rcases hrow5.2 with ⟨hv, h0⟩ | ⟨g, cap, cur, hv, r⟩
          · rw [h0]; exact ⟨_, _, hv⟩
          · exact ⟨_, _, hv⟩
        have HC5 : Hid (CmsAt w5.heap.size w5 va es) := row_cms hrow5
        have HB5 : Hid (Below w.heap.size w w5) := HB4.out.trans (hB5.mono HB4.out.size)
        have HO5 : Hid (Ow wr.heap.size w5 (.slice ta (txC es).length tc) (txC es)) := hO4.below hB5 (Nat.le_refl _)
        clear hrow5 hq5 hO4 hdr hsm hB5
        go_wp2_with (go_at_call 13; refine (num_any _ _).mono ?_; rintro e wz ⟨rfl, hwz⟩; rw [hwz]; clear hwz)
        go_loopw [15] (fun iv wx => ∃ (i : Nat), iv = .int .i64 (i : Int) ∧ i ≤ es.length ∧ Below w5.heap.size w5 wx) (fun iv _ => es.length - (intOf iv).toNat)
        case atStart => exact ⟨0, rfl, Nat.zero_le _, Below.refl _ _⟩
        case round =>
          obtain ⟨i, rfl, hi, hB6⟩ := hrel
          have HB6 : Hid (Below w5.heap.size w5 wr) := hB6
          have HB6w : Hid (Below w.heap.size w wr) := HB5.out.trans (hB6.mono HB5.out.size)
          by_cases hlt2 : i < es.length
          · obtain ⟨b1, o1, hba, hb1, hx1⟩ := HC5.out.at hlt2
            subst hba
            obtain ⟨b2, o2, hbb, hb2, hx2⟩ := HE.out.at hlt2
            subst hbb
            obtain ⟨x0, x1, x2, x3, x4, x5⟩ := hx1.below hb1 hB6
            obtain ⟨y0, y1, y2, y3, y4, y5⟩ := hx2.below hb2 HB6w.out
            generalize es.getD i nilCm = e at *
            obtain ⟨eo, ec, es', ek, ev, ed⟩ := e
            simp only at x0 x1 x2 x3 x4 x5 y0 y1 y2 y3 y4 y5
            have hi1 : (i : Int) < (es.length : Int) := by omega
            have hi0' : (0 : Int) ≤ (i : Int) := by omega
            clear hx1 hx2 hB6
            go_wp2_with fail
            go_quiet (fail)
            go_wp2
            exact ⟨⟨i + 1, by go_num, by omega, HB6.out.trans ⟨rfl, rfl, rfl, Nat.le_refl _, fun _ _ => rfl⟩⟩, by simp [intOf]; omega⟩
          · have hO6 := HO5.out.below hB6 (Nat.le_refl _)
            have hgl := getListC_any es ((es.length : Int) - 1) _ wr wr.heap.size (hO6.sl (Nat.le_refl _)) (Nat.le_refl _) hck hn
            rw [if_pos (by omega)] at hgl
            clear hO6 hB6
            go_wp2_with (first | (go_at_call 28; refine hgl.mono ?_; rintro e w7 ⟨v7, rfl, -, hB7⟩) | (go_at_call 13; refine (num_any _ _).mono ?_; rintro e wz ⟨rfl, hwz⟩; rw [hwz]; clear hwz))
            go_ret
            exact ⟨rfl, HB6w.out.trans (hB7.mono HB6w.out.size)⟩
      · rw [if_neg hz] at ht hu
        subst hu ht
        generalize firstErrC es = ke at *
        have hke : ((ke : Int) != 0) = true := by simp; omega
        clear hO2 hO2'
        go_wp2_with (first | (go_at_call 12; refine hsm.mono ?_; rintro e w4 ⟨rfl, nn, rfl⟩) | (go_at_call 13; refine (num_any _ _).mono ?_; rintro e wz ⟨rfl, hwz⟩; rw [hwz]; clear hwz))
        go_ret
        exact ⟨rfl, HB3.out.trans ⟨rfl, rfl, rfl, Nat.le_refl _, fun _ _ => rfl⟩⟩

end Go.Proofs.Ytfnnbfgfmbiabab
