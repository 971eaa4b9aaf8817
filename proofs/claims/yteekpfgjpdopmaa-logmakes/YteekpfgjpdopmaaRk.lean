/-
  The document's New.
-/
import Derived.Test.YteekpfgjpdopmaaRn
import Derived.Test.YteekpfgjpdopmaaRa
import Derived.Test.YteekpfgjpdopmaaNw
namespace Go.Proofs.Yteekpfgjpdopmaa
open Go.RowKit
set_option linter.unusedVariables false

theorem isBs_eq (i t : Int) : isBs i t = (isIn i 0 4611686018427387904 && isIn t 0 4611686018427387904 && ((i == 0) == (t == 0))) := by
  unfold isBs isPl isIn
  rw [Bool.eq_iff_iff]
  by_cases h1 : i = 0
  · by_cases h2 : t = 0
    · subst h1; subst h2; simp
    · have : (t == 0) = false := by simpa using h2
      subst h1
      simp [this]
  · have h1' : (i == 0) = false := by simpa using h1
    by_cases h2 : t = 0
    · subst h2
      simp [h1']
    · have h2' : (t == 0) = false := by simpa using h2
      rw [h1', h2']
      simp only [Bool.false_and, Bool.false_or, Bool.and_eq_true, decide_eq_true_eq, beq_self_eq_true, and_true]
      omega

/-- What is made. -/
theorem new_made {i t c x : Int} {w w5 : World} {v : Value} {gs : List Ent} {E : List En} (hB : Below w.heap.size w w5) (hO : EntsOw w.heap.size w5 v gs) (hsy : gs.map Ent.says = E) (hk : ckNew i t E = 0) (hx : x = min (max c i) (i + (E.length : Int))) :
    ∃ S, Rg w.heap.size S (w5.alloc (.cells #[.int .i64 i, .int .i64 t, v, .int .i64 (i + (E.length : Int)), .int .i64 (i + (E.length : Int)), .int .i64 x, .int .i64 i, .int .i64 i] 82)) w5.heap.size (newP i t c E) ∧ Below w.heap.size w (w5.alloc (.cells #[.int .i64 i, .int .i64 t, v, .int .i64 (i + (E.length : Int)), .int .i64 (i + (E.length : Int)), .int .i64 x, .int .i64 i, .int .i64 i] 82)) := by
  refine ⟨fun j => w.heap.size ≤ j ∧ j < w5.heap.size + 1, ⟨⟨v, gs, ?_, (hO.base (Nat.zero_le _)).alloc _, hsy, fun g hg => ?_, fun e he g hg => ?_⟩, newP_ok hk, ⟨hB.size, by omega⟩, fun j hj => by simp; omega, fun j hj => hj.1⟩, hB.alloc hB.size _⟩
  · rw [heap_alloc_new]
    unfold newP
    rw [← hx]
  · have := hO.lt hg; omega
  · have := (hO.dat e he).lt hg; omega

/-- Where loops stand: the terms rise and the indices go on. -/
def nowT (t : Int) (F : List En) (k : Nat) : Int := if k = 0 then t else eT (F.getD (k - 1) nilEn)

set_option maxRecDepth 100000 in
set_option maxHeartbeats 8000000 in
theorem RNew_any (i t c : Int) (va : Option Addr) (vc : Nat) (es : List Ent) (M : Nat) (w : World) (hE : EntsAt M w va es) (hM : M ≤ w.heap.size) (hn : es.length ≤ 100000) :
    Calls Try.prog 12 #[.int .i64 i, .int .i64 t, .int .i64 c, .slice va es.length vc] w fun e w' => Below w.heap.size w w' ∧ ((ckNew i t (es.map Ent.says) ≠ 0 ∧ e = .returned (.tuple #[.pointer none, .int .i64 (ckNew i t (es.map Ent.says) : Int)])) ∨ (ckNew i t (es.map Ent.says) = 0 ∧ ∃ b S, e = .returned (.tuple #[.pointer (some ⟨b, 0, none⟩), .int .i64 0]) ∧ Rg w.heap.size S w' b (newP i t c (es.map Ent.says)))) := by
  obtain ⟨F, hF⟩ : ∃ F, es.map Ent.says = F := ⟨_, rfl⟩
  have hlF : F.length = es.length := by rw [← hF]; simp
  rw [hF]
  have hbs := isBs_eq i t
  have HE : Hid (EntsAt M w va es) := hE
  have HM : Hid (M ≤ w.heap.size) := hM
  clear hE hM
  cases hb : isBs i t with
  | false =>
    have HK : Hid (ckNew i t F = 1) := by show _ = _; unfold ckNew; rw [if_pos hb]
    rw [hb] at hbs
    cases h1 : isIn i 0 4611686018427387904 with
    | false =>
      clear hbs
      go_enter Try.func12, Try.ntmps12
      go_wp2_with (go_at_call 43; refine (number_any _ _).mono ?_; rintro r w' ⟨rfl, hw⟩; subst w'; (try (first | rw [h1])))
      go_returns
      exact ⟨Below.refl _ _, .inl ⟨by rw [HK.out]; omega, by rw [HK.out]; rfl⟩⟩
    | true =>
      cases h2 : isIn t 0 4611686018427387904 with
      | false =>
        clear hbs
        go_enter Try.func12, Try.ntmps12
        go_wp2_with (go_at_call 43; refine (number_any _ _).mono ?_; rintro r w' ⟨rfl, hw⟩; subst w'; (try (first | rw [h1] | rw [h2])))
        go_returns
        exact ⟨Below.refl _ _, .inl ⟨by rw [HK.out]; omega, by rw [HK.out]; rfl⟩⟩
      | true =>
        have h3 : ((i == 0) == (t == 0)) = false := by
          rw [h1, h2] at hbs
          simp only [Bool.true_and] at hbs
          exact hbs.symm
        clear hbs
        go_enter Try.func12, Try.ntmps12
        go_wp2_with (go_at_call 43; refine (number_any _ _).mono ?_; rintro r w' ⟨rfl, hw⟩; subst w'; (try (first | rw [h1] | rw [h2])))
        go_returns
        exact ⟨Below.refl _ _, .inl ⟨by rw [HK.out]; omega, by rw [HK.out]; rfl⟩⟩
  | true =>
    rw [hb] at hbs
    have hbs' := hbs.symm
    simp only [Bool.and_eq_true] at hbs'
    obtain ⟨⟨h1, h2⟩, h3⟩ := hbs'
    have h3' : ((i == 0) == (t == 0)) = true := h3
    have HNM : Hid (0 ≤ i ∧ i ≤ 4611686018427387904) := isBs_num hb
    have HCK : Hid (ckNew i t F = if firstErr F ≠ 0 then firstErr F else if goesE i t F = true then (if 10000 < F.length then 10 else 0) else 4) := by
      show _ = _
      unfold ckNew ckList
      rw [if_neg (by rw [hb]; simp)]
      by_cases q1 : firstErr F = 0
      · rw [q1]
        by_cases q2 : goesE i t F = true
        · simp [q2]
        · simp [q2]
      · simp [q1]
    clear hbs h3
    go_enter Try.func12, Try.ntmps12
    go_wp2_with (go_at_call 43; refine (number_any _ _).mono ?_; rintro r w' ⟨rfl, hw⟩; subst w'; (try (first | rw [h1] | rw [h2])))
    clear h1 h2 h3' hb
    go_loopw [10] (fun iv wr => ∃ (k : Nat), iv = .int .i64 (k : Int) ∧ k ≤ es.length ∧ firstErr (F.drop k) = firstErr F ∧ Below w.heap.size w wr) (fun iv _ => es.length - (intOf iv).toNat)
    case atStart => exact ⟨0, rfl, Nat.zero_le _, by rw [List.drop_zero], Below.refl _ _⟩
    case round =>
      obtain ⟨k, rfl, hk, hR, hB⟩ := hrel
      have HRK : Hid (firstErr (F.drop k) = firstErr F) := hR
      have HB : Hid (Below w.heap.size w wr) := hB
      clear hR hB
      by_cases hlt : k < es.length
      · obtain ⟨g, off, hva, hgM, he⟩ := HE.out.at hlt
        have he' := he.below hgM (HB.out.mono HM.out)
        have HD : Hid (F.drop k = (es.getD k nilEnt).says :: F.drop (k + 1)) := by show _ = _; rw [← hF]; exact saysdrop hlt
        subst hva
        have hgw : g < wr.heap.size := by have := HB.out.size; have := HM.out; omega
        generalize es.getD k nilEnt = e at *
        obtain ⟨et, ei, ek, eaa, ecc, ed⟩ := e
        obtain ⟨z0, z1, z2, z3, -⟩ := he'
        unfold Ent.x at z3
        simp only at z0 z1 z2 z3
        have i0 : (0 : Int) ≤ (k : Int) := by omega
        have i1 : (k : Int) < (es.length : Int) := by omega
        have HC : Hid (Calls _ _ _ _ _) := refCkEntry_any et ei ek eaa ed.length ecc wr
        clear he
        by_cases hz : ckEntry et ei ek ed.length = 0
        · have HR2 : Hid (firstErr (F.drop (k + 1)) = firstErr F) := by show _ = _; rw [← HRK.out, HD.out]; exact (firstErr_ok (e := (et, ei, ek, ed)) hz).symm
          rw [hz] at HC
          clear hz HD HRK HCK
          go_wp2_with (go_at_call 44; refine HC.out.mono ?_; rintro r w5 ⟨rfl, hB5⟩; have HB5 : Hid (Below w.heap.size w w5) := HB.out.trans (hB5.mono HB.out.size); clear hB5)
          exact ⟨⟨k + 1, by go_num, by omega, HR2.out, HB5.out⟩, by simp [intOf]; omega⟩
        · have HR2 : Hid (ckNew i t F = ckEntry et ei ek ed.length ∧ ckEntry et ei ek ed.length ≠ 0) := by
            have e1 : firstErr F = ckEntry et ei ek ed.length := by rw [← HRK.out, HD.out]; exact firstErr_no (e := (et, ei, ek, ed)) hz
            refine ⟨?_, hz⟩
            rw [HCK.out, e1, if_pos hz]
          have hz' : ((ckEntry et ei ek ed.length : Int) != 0) = true := by rw [bne_iff_ne]; omega
          generalize ckEntry et ei ek ed.length = q at *
          clear hz HD HRK HCK
          go_wp2_with (go_at_call 44; refine HC.out.mono ?_; rintro r w5 ⟨rfl, hB5⟩; have HB5 : Hid (Below w.heap.size w w5) := HB.out.trans (hB5.mono HB.out.size); clear hB5)
          try rw [Exit.noGoto_ret]
          go_returns
          exact ⟨HB5.out, .inl ⟨by rw [HR2.out.1]; exact HR2.out.2, by rw [HR2.out.1]; rfl⟩⟩
      · have HF0 : Hid (firstErr F = 0) := by show _ = _; rw [← HRK.out, List.drop_eq_nil_of_le (by omega)]; rfl
        have HCK2 : Hid (ckNew i t F = if goesE i t F = true then (if 10000 < F.length then 10 else 0) else 4) := by show _ = _; rw [HCK.out, HF0.out]; simp
        have HIX : Hid (∀ j, j < es.length → 1 ≤ (es.getD j nilEnt).i ∧ (es.getD j nilEnt).i ≤ 4611686018427387904) := fun j hj => by
          have := eCk_ok (firstErr_all.1 HF0.out _ (getD_mem (E := F) (k := j) (by omega)))
          rw [← hF, says_getD] at this
          exact ⟨this.2.2.1, this.2.2.2.1⟩
        have hkl : k = es.length := by omega
        subst hkl
        have HLF : Hid (F.length = es.length) := hlF
        clear hlt hk HRK HCK hlF
        have HB0 : Hid (Below w.heap.size w wr) := HB.out
        clear HB
        go_wp2_with fail
        go_loopw [12, 13] (fun nv iv wr => ∃ (k : Nat), nv = .int .i64 (nowT t F k) ∧ iv = .int .i64 (k : Int) ∧ k ≤ es.length ∧ goesE (i + (k : Int)) (nowT t F k) (F.drop k) = goesE i t F ∧ Below w.heap.size w wr) (fun _ iv _ => es.length - (intOf iv).toNat)
        case atStart => exact ⟨0, rfl, rfl, Nat.zero_le _, by simp [nowT], HB0.out⟩
        case round =>
          obtain ⟨k, rfl, rfl, hk, hR, hB⟩ := hrel
          have HRK : Hid (goesE (i + (k : Int)) (nowT t F k) (F.drop k) = goesE i t F) := hR
          have HB : Hid (Below w.heap.size w wr) := hB
          clear hR hB HB0
          by_cases hlt : k < es.length
          · obtain ⟨g, off, hva, hgM, he⟩ := HE.out.at hlt
            have he' := he.below hgM (HB.out.mono HM.out)
            have hix := HIX.out k hlt
            have HD : Hid (F.drop k = (es.getD k nilEnt).says :: F.drop (k + 1)) := by show _ = _; rw [← hF]; exact saysdrop hlt
            have HNX : Hid (nowT t F (k + 1) = (es.getD k nilEnt).t) := by show _ = _; unfold nowT; rw [if_neg (by omega), ← hF, Nat.add_sub_cancel, says_getD]; rfl
            subst hva
            have hgw : g < wr.heap.size := by have := HB.out.size; have := HM.out; omega
            generalize es.getD k nilEnt = e at *
            obtain ⟨et, ei, ek, eaa, ecc, ed⟩ := e
            obtain ⟨z0, z1, -, -, -⟩ := he'
            simp only at z0 z1 hix
            have i0 : (0 : Int) ≤ (k : Int) := by omega
            have i1 : (k : Int) < (es.length : Int) := by omega
            have w1 : IntKind.i64.wrap (ei - 1) = ei - 1 := by rw [IntKind.wrap_i64]; omega
            have w2 : IntKind.i64.wrap (ei - 1 - (k : Int)) = ei - 1 - (k : Int) := by rw [IntKind.wrap_i64]; omega
            have HG : Hid (goesE i t F = ((ei == i + (k : Int) + 1) && decide (nowT t F k ≤ et) && goesE ei et (F.drop (k + 1)))) := by show _ = _; rw [← HRK.out, HD.out]; rfl
            have HX : Hid (1 ≤ ei ∧ ei ≤ 4611686018427387904) := hix
            clear he hix HD HRK
            by_cases hq : ei = i + (k : Int) + 1
            · by_cases ht : et < nowT t F k
              · have HK4 : Hid (ckNew i t F = 4) := by
                  show _ = _
                  rw [HCK2.out, HG.out, decide_eq_false (by omega)]; simp
                have hq2 : ((ei - 1 - (k : Int)) != i) = false := by rw [hq]; simp
                generalize nowT t F k = nw at *
                clear HG hq HNX HCK2
                go_wp2
                try rw [Exit.noGoto_ret]
                go_returns
                exact ⟨HB.out, .inl ⟨by rw [HK4.out]; omega, by rw [HK4.out]; rfl⟩⟩
              · have HR2 : Hid (goesE (i + ((k + 1 : Nat) : Int)) (nowT t F (k + 1)) (F.drop (k + 1)) = goesE i t F) := by
                  show _ = _
                  rw [HG.out, HNX.out, decide_eq_true (by omega), hq]
                  simp [Int.add_assoc]
                have hq2 : ((ei - 1 - (k : Int)) != i) = false := by rw [hq]; simp
                have HN2 : Hid (Value.int .i64 et = .int .i64 (nowT t F (k + 1))) := by show _ = _; rw [HNX.out]
                obtain ⟨nw, hnw⟩ : ∃ nw, nowT t F k = nw := ⟨_, rfl⟩
                rw [hnw] at ht ⊢
                clear HG hq HNX HCK2 hnw
                go_wp2
                exact ⟨⟨k + 1, HN2.out, by go_num, by omega, HR2.out, HB.out⟩, by simp [intOf]; omega⟩
            · have HK4 : Hid (ckNew i t F = 4) := by
                show _ = _
                rw [HCK2.out, HG.out, beq_eq_false_iff_ne.2 hq]; simp
              have hq2 : ((ei - 1 - (k : Int)) != i) = true := by rw [bne_iff_ne]; omega
              generalize nowT t F k = nw at *
              clear HG hq HNX HCK2
              go_wp2
              try rw [Exit.noGoto_ret]
              go_returns
              exact ⟨HB.out, .inl ⟨by rw [HK4.out]; omega, by rw [HK4.out]; rfl⟩⟩
          · have HGT : Hid (goesE i t F = true) := by show _ = _; rw [← HRK.out, List.drop_eq_nil_of_le (by have := HLF.out; omega)]; rfl
            have HK : Hid (ckNew i t F = if 10000 < F.length then 10 else 0) := by show _ = _; rw [HCK2.out, HGT.out, if_pos rfl]
            have hkl : k = es.length := by omega
            subst hkl
            clear hlt hk HRK HCK2 HGT
            generalize nowT t F es.length = nw at *
            by_cases hbig : 10000 < es.length
            · have HK1 : Hid (ckNew i t F = 10) := by show _ = _; rw [HK.out, HLF.out, if_pos hbig]
              have hb2 : (10000 : Int) < (es.length : Int) := by omega
              clear HK hbig
              go_wp2
              go_returns
              exact ⟨HB.out, .inl ⟨by rw [HK1.out]; omega, by rw [HK1.out]; rfl⟩⟩
            · have HK1 : Hid (ckNew i t F = 0) := by show _ = _; rw [HK.out, HLF.out, if_neg hbig]
              have hb2 : ¬ (10000 : Int) < (es.length : Int) := by omega
              have hw1 : IntKind.i64.wrap (i + (es.length : Int)) = i + (es.length : Int) := by have := HNM.out; rw [IntKind.wrap_i64]; omega
              have HEN : Hid (Calls _ _ _ _ _) := refEntries_any va vc es M wr (HE.out.below (HB.out.mono HM.out)) (Nat.le_trans HM.out HB.out.size) hn (fun e he => by
                have := eCk_ok (firstErr_all.1 HF0.out e.says (by rw [← hF]; exact List.mem_map.2 ⟨e, he, rfl⟩))
                have h2 : e.d.length ≤ 4096 := this.2.2.2.2
                omega)
              have HFN : Hid (∀ w5 v gs x, Below wr.heap.size wr w5 → EntsOw wr.heap.size w5 v gs → gs.map Ent.says = es.map Ent.says → x = min (max c i) (i + (es.length : Int)) → ∃ S, Rg w.heap.size S (w5.alloc (.cells #[.int .i64 i, .int .i64 t, v, .int .i64 (i + (es.length : Int)), .int .i64 (i + (es.length : Int)), .int .i64 x, .int .i64 i, .int .i64 i] 82)) w5.heap.size (newP i t c F) ∧ Below w.heap.size w (w5.alloc (.cells #[.int .i64 i, .int .i64 t, v, .int .i64 (i + (es.length : Int)), .int .i64 (i + (es.length : Int)), .int .i64 x, .int .i64 i, .int .i64 i] 82))) := fun w5 v gs x h5 hO hsy hx => by
                have := new_made (i := i) (t := t) (c := c) (x := x) (E := F) (HB.out.trans (h5.mono HB.out.size)) (hO.base HB.out.size) (hsy.trans hF) HK1.out (by rw [HLF.out]; exact hx)
                rw [HLF.out] at this
                exact this
              clear HK hbig HE HIX HF0
              go_wp2_with fail
              refine HEN.out.mono ?_
              rintro r w5 ⟨v, gs, rfl, hO, hsy, hB5⟩
              obtain ⟨sa, sc, rfl, -, -⟩ := hO.shape
              have HFN2 : Hid (∀ x, x = min (max c i) (i + (es.length : Int)) → _) := fun x hx => HFN.out w5 _ gs x hB5 hO hsy hx
              clear hO hsy hB5 HFN HEN
              obtain ⟨L, HL⟩ : ∃ L, Hid (i + (es.length : Int) = L) := ⟨_, rfl⟩
              have hiL : i ≤ L := by rw [← HL.out]; omega
              rw [HL.out] at HFN2 ⊢
              clear HL hw1 HNM hb2 HLF
              clear hn hF
              go_wp2
              · go_returns
                obtain ⟨S, q1, q2⟩ := HFN2.out i (by omega)
                exact ⟨q2, .inr ⟨HK1.out, w5.heap.size, rfl, S, q1⟩⟩
              · go_returns
                obtain ⟨S, q1, q2⟩ := HFN2.out L (by omega)
                exact ⟨q2, .inr ⟨HK1.out, w5.heap.size, rfl, S, q1⟩⟩
              · go_returns
                obtain ⟨S, q1, q2⟩ := HFN2.out c (by omega)
                exact ⟨q2, .inr ⟨HK1.out, w5.heap.size, rfl, S, q1⟩⟩
end Go.Proofs.Yteekpfgjpdopmaa
