/-
  LogOrder: the walk.
-/
import Derived.Test.YteekpfgjpdopmaaOm
import Derived.Test.YteekpfgjpdopmaaOr
import Derived.Test.YteekpfgjpdopmaaRb
import Derived.Test.YteekpfgjpdopmaaFw
namespace Go.Proofs.Yteekpfgjpdopmaa
open Go.RowKit
set_option linter.unusedVariables false

set_option maxRecDepth 100000 in
set_option maxHeartbeats 16000000 in
theorem order_walk (N : Nat) (oa : Option Addr) (oc : Nat) (l : List Opn) (w : World) (hO : OpsAt N w oa l) (hN : N ≤ w.heap.size) (hl : l.length ≤ 9223372036854775807) :
    Calls Try.prog 6 #[.slice oa l.length oc] w fun e w' => e = .returned (.bool true) ∧ Below w.heap.size w w' := by
  have hf := first_any w
  have HO : Hid (OpsAt N w oa l) := hO
  clear hO
  go_enter Try.func6, Try.ntmps6
  go_wp2_with fail
  refine hf.mono ?_
  rintro e w1 ⟨rfl, hB1⟩
  have HB1 : Hid (Below w.heap.size w w1) := hB1
  clear hB1 hf
  go_wp2_with fail
  refine (few_any oa oc l N w1 (HO.out.below (HB1.out.mono hN)) (Nat.le_trans hN HB1.out.size) hl).mono ?_
  rintro e w' ⟨sm, rfl, hsm, hw⟩
  subst w'
  have HSM : Hid (Few l sm) := hsm
  clear hsm
  cases sm with
  | false =>
    go_wp2
    go_ret
    exact ⟨rfl, HB1.out⟩
  | true =>
  go_wp2_with fail
  refine (new_any w1).mono ?_
  rintro e w2 ⟨b, S, rfl, hL, hB2⟩
  have HL2 : Hid (Lg w1.heap.size S w2 b P0) := hL
  have HB2 : Hid (Below w.heap.size w w2) := HB1.out.trans (hB2.mono HB1.out.size)
  have hlen : l.length ≤ 300 := (HSM.out rfl).1
  have HES : Hid (∀ k, k < l.length → (l.getD k nilOpn).es.length ≤ 64) := (HSM.out rfl).2
  clear hL hB2 HSM
  go_wp2_with fail
  have HN1 : Hid (w.heap.size ≤ w1.heap.size) := HB1.out.size
  go_loopw [7, 8] (fun av iv wr => ∃ (k : Nat) (P : PL), av = .int .i64 P.g ∧ iv = .int .i64 (k : Int) ∧ k ≤ l.length ∧ w1.heap.size ≤ wr.heap.size ∧ (∃ S', Lg w1.heap.size S' wr b P) ∧ Below w.heap.size w wr) (fun _ iv _ => l.length - (intOf iv).toNat)
  case atStart =>
    exact ⟨0, P0, rfl, rfl, Nat.zero_le _, by have := HL2.out.inn _ HL2.out.Sb; have := HL2.out.fr _ HL2.out.Sb; omega, ⟨S, HL2.out⟩, HB2.out⟩
  case round =>
    obtain ⟨k, P, rfl, rfl, hk, hz, ⟨S', hL⟩, hB⟩ := hrel
    have HL : Hid (Lg w1.heap.size S' wr b P) := hL
    have HB : Hid (Below w.heap.size w wr) := hB
    have HOK : Hid P.Ok := hL.ok
    clear hL hB HL2 HB2
    by_cases hlt : k < l.length
    · obtain ⟨g, off, hoa, hgN, hop⟩ := HO.out.at hlt
      subst hoa
      have hop' := hop.below hgN (HB.out.mono hN)
      have hes := HES.out k hlt
      have HNX : Hid (∀ (P' : PL) (wn : World), wr.heap.size ≤ wn.heap.size → (∃ S', Lg w1.heap.size S' wn b P') → Below w.heap.size w wn → (∃ (k' : Nat) (Q : PL), Value.int .i64 P'.g = .int .i64 Q.g ∧ Value.int .i64 ((k : Int) + 1) = .int .i64 (k' : Int) ∧ k' ≤ l.length ∧ w1.heap.size ≤ wn.heap.size ∧ (∃ S', Lg w1.heap.size S' wn b Q) ∧ Below w.heap.size w wn) ∧ l.length - (intOf (Value.int .i64 ((k : Int) + 1))).toNat < l.length - (intOf (Value.int .i64 (k : Int))).toNat) := fun P' wn h1 h2 h3 =>
        ⟨⟨k + 1, P', rfl, by simp, hlt, by omega, h2, h3⟩, by simp [intOf]; omega⟩
      generalize l.getD k nilOpn = o at *
      obtain ⟨okd, on, otm, om, oea, oec, oes, oba, obc, obd⟩ := o
      obtain ⟨⟨c0, c1, c2, c3, c4, c5⟩, ce, cb, cec, cem⟩ := hop'
      simp only at c0 c1 c2 c3 c4 c5 ce cb cec cem hes
      have hgw : g < wr.heap.size := by have := HB.out.size; omega
      have i0 : (0 : Int) ≤ (k : Int) := by omega
      have i1 : (k : Int) < (l.length : Int) := by omega
      obtain ⟨W3, hW3⟩ : ∃ W3, wr.alloc (.cells #[.int .i64 okd, .int .i64 on, .int .i64 otm, .int .i64 om, .slice oea oes.length oec, .slice oba obd.length obc] 37) = W3 := ⟨_, rfl⟩
      have HW3 : Hid (wr.alloc (.cells #[.int .i64 okd, .int .i64 on, .int .i64 otm, .int .i64 om, .slice oea oes.length oec, .slice oba obd.length obc] 37) = W3) := hW3
      have HB3 : Hid (Below wr.heap.size wr W3) := by show Below _ _ _; rw [← hW3]; exact (Below.refl _ wr).alloc (Nat.le_refl _) _
      have HZ3 : Hid (W3.heap.size = wr.heap.size + 1) := by show _ = _; rw [← hW3]; simp
      have hx3 : W3.heap[wr.heap.size]? = some (.cells #[.int .i64 okd, .int .i64 on, .int .i64 otm, .int .i64 om, .slice oea oes.length oec, .slice oba obd.length obc] 37 (0, 0)) := by rw [← hW3]; exact heap_alloc_new wr _
      have HX3 : Hid (W3.heap[wr.heap.size]? = _) := hx3
      have HCE : Hid (EntsAt N wr oea oes) := ce
      have HCB : Hid (Sl N wr (.slice oba obd.length obc) obd) := cb
      have HEC : Hid (oes.length ≤ oec ∧ oec ≤ maxLen) := ⟨cec, cem⟩
      have HL3 : Hid (Lg w1.heap.size S' W3 b P) := HL.out.below HB3.out
      have HBW3 : Hid (Below w.heap.size w W3) := HB.out.trans (HB3.out.mono HB.out.size)
      have HZW3 : Hid (w1.heap.size ≤ W3.heap.size) := by show _ ≤ _; rw [HZ3.out]; omega
      have HKL : Hid (k + 1 ≤ l.length) := hlt
      obtain ⟨x0, x1, x2, x3, x4, x5⟩ : W3.cell? ⟨wr.heap.size, 0, none⟩ = some (.int .i64 okd) ∧ W3.cell? ⟨wr.heap.size, 1, none⟩ = some (.int .i64 on) ∧ W3.cell? ⟨wr.heap.size, 2, none⟩ = some (.int .i64 otm) ∧ W3.cell? ⟨wr.heap.size, 3, none⟩ = some (.int .i64 om) ∧ W3.cell? ⟨wr.heap.size, 4, none⟩ = some (.slice oea oes.length oec) ∧ W3.cell? ⟨wr.heap.size, 5, none⟩ = some (.slice oba obd.length obc) := by
        refine ⟨?_, ?_, ?_, ?_, ?_, ?_⟩
        all_goals (simp only [World.cell?, hx3]; rfl)
      clear hop ce cb cec cem hx3 hW3 HO HES
      have hbc : P.bi ≤ P.c := by have := HOK.out.ba; have := HOK.out.ag; have := HOK.out.gc; omega
      have hbi0 := HOK.out.b0
      have hli0 := HOK.out.lim
      have hcl0 := HOK.out.cl
      go_wp2_with fail
      rw [HW3.out]
      go_wp2_with fail
      refine (Marks_any HL3.out).mono ?_
      rintro r w4 ⟨rfl, hB4⟩
      obtain ⟨W5, hW5⟩ : ∃ W5, w4.alloc (.cells #[.int .i64 P.h, .int .i64 P.s, .int .i64 P.c, .int .i64 P.g, .int .i64 P.a] 55) = W5 := ⟨_, rfl⟩
      have HW5 : Hid (w4.alloc (.cells #[.int .i64 P.h, .int .i64 P.s, .int .i64 P.c, .int .i64 P.g, .int .i64 P.a] 55) = W5) := hW5
      have HB35 : Hid (Below W3.heap.size W3 W5) := by show Below _ _ _; rw [← hW5]; exact hB4.alloc hB4.size _
      have HX5 : Hid (W5.heap[w4.heap.size]? = some (.cells #[.int .i64 P.h, .int .i64 P.s, .int .i64 P.c, .int .i64 P.g, .int .i64 P.a] 55 (0, 0))) := by show _ = _; rw [← hW5]; exact heap_alloc_new w4 _
      have HZ4 : Hid (W3.heap.size ≤ w4.heap.size) := hB4.size
      clear hB4 hW5
      go_wp2_with fail
      rw [HW5.out]
      refine (Base_any (HL3.out.below HB35.out)).mono ?_
      rintro r w6 ⟨rfl, hB6⟩
      have HB36 : Hid (Below W3.heap.size W3 w6) := HB35.out.trans (hB6.mono HB35.out.size)
      have HX6 : Hid (w6.heap[w4.heap.size]? = some (.cells #[.int .i64 P.h, .int .i64 P.s, .int .i64 P.c, .int .i64 P.g, .int .i64 P.a] 55 (0, 0))) := (hB6.block _ (Array.getElem?_eq_some_iff.1 HX5.out).1).trans HX5.out
      obtain ⟨⟨v0, v1, v2, v3, v4⟩, -⟩ := cells5 HX6.out
      clear hB6
      go_wp2_with fail
      refine (Entries_any (HL3.out.below HB36.out) (P.bi + 1) (P.c - P.bi)).mono ?_
      rintro r w7 ⟨v7, es7, rfl, hO7, hsy7, hB7⟩
      obtain ⟨oa7, oc7, rfl, -, -⟩ := hO7.shape
      have HB37 : Hid (Below W3.heap.size W3 w7) := HB36.out.trans (hB7.mono HB36.out.size)
      have HLg7 : Hid (Lg w1.heap.size S' w7 b P) := HL3.out.below HB37.out
      have HA7 : Hid (Apt S' w7 (.slice oa7 es7.length oc7) es7) := Apt.new hO7 (fun i hi => by have := HL3.out.inn i hi; have := HB36.out.size; omega)
      have HX7 : Hid (w7.heap[w4.heap.size]? = some (.cells #[.int .i64 P.h, .int .i64 P.s, .int .i64 P.c, .int .i64 P.g, .int .i64 P.a] 55 (0, 0))) := (hB7.block _ (Array.getElem?_eq_some_iff.1 HX6.out).1).trans HX6.out
      have HSW : Hid (¬ S' w4.heap.size) := fun hs => by have := HL.out.inn _ hs; have := HZ4.out; have := HZ3.out; omega
      have HBW7 : Hid (Below w.heap.size w w7) := HBW3.out.trans (HB37.out.mono HBW3.out.size)
      have HN7 : Hid (w1.heap.size ≤ w7.heap.size) := Nat.le_trans HZW3.out HB37.out.size
      have HZ7 : Hid (wr.heap.size ≤ w7.heap.size) := by show _ ≤ _; have := HB37.out.size; have := HZ3.out; omega
      have HSY7 : Hid (es7.map Ent.says = P.E.take (P.c - P.bi).toNat) := by show _ = _; rw [hsy7, old_all HOK.out]
      have HL7 : Hid (es7.length ≤ 100000) := by
        show _ ≤ _
        have h1 := congrArg List.length HSY7.out
        have h2 := HOK.out.len
        simp at h1
        omega
      have HAFT : Hid (∀ w8 P', LTh w1.heap.size S' w7 w8 b P' → Kp P P' → Aft w1.heap.size w b P P' oa7 es7 w4.heap.size wr.heap.size w8) := fun w8 P' hT hK => Aft.th HN7.out HN1.out HA7.out HX7.out HSW.out HBW7.out HZ7.out hT hK
      have HX37 : Hid (w7.heap[wr.heap.size]? = _) := (HB37.out.block _ (Array.getElem?_eq_some_iff.1 HX3.out).1).trans HX3.out
      obtain ⟨q0, q1, q2, q3, q4, q5⟩ : w7.cell? ⟨wr.heap.size, 0, none⟩ = some (.int .i64 okd) ∧ w7.cell? ⟨wr.heap.size, 1, none⟩ = some (.int .i64 on) ∧ w7.cell? ⟨wr.heap.size, 2, none⟩ = some (.int .i64 otm) ∧ w7.cell? ⟨wr.heap.size, 3, none⟩ = some (.int .i64 om) ∧ w7.cell? ⟨wr.heap.size, 4, none⟩ = some (.slice oea oes.length oec) ∧ w7.cell? ⟨wr.heap.size, 5, none⟩ = some (.slice oba obd.length obc) := by
        have hx3 := HX37.out
        refine ⟨?_, ?_, ?_, ?_, ?_, ?_⟩
        all_goals (simp only [World.cell?, hx3]; rfl)
      have HBR7 : Hid (Below wr.heap.size wr w7) := HB3.out.trans (HB37.out.mono HB3.out.size)
      clear hO7 hsy7 hB7 x0 x1 x2 x3 x4 x5 v0 v1 v2 v3 v4
      by_cases hk0 : okd = 0
      · as_aux_lemma =>
        subst hk0
        go_wp2_with fail
        refine ((Append_any HLg7.out HN7.out otm om oba obd obc N (HCB.out.below (HBR7.out.mono (Nat.le_trans hN HB.out.size))) (Nat.le_trans hN HBW7.out.size)).mono (fun e w' h => (⟨⟨_, _, h.1⟩, h.2⟩ : (∃ (n E : Int), e = .returned (.tuple #[.int .i64 n, .int .i64 E])) ∧ LTh w1.heap.size S' w7 w' b (apL P otm om obd)))).mono ?_
        rintro r w8 ⟨⟨n8, E8, rfl⟩, hT⟩
        obtain ⟨Q, HQE⟩ : ∃ Q : PL, Hid (Q = apL P otm om obd) := ⟨_, rfl⟩
        have HAF : Hid (Aft w1.heap.size w b P Q oa7 es7 w4.heap.size wr.heap.size w8) := by show Aft _ _ _ _ _ _ _ _ _ _; rw [HQE.out]; exact HAFT.out w8 _ hT (Kp.ap HOK.out _ _ _)
        clear hT HAFT
        go_wp2_with fail
        obtain ⟨S8, hL8⟩ := HAF.out.lg
        have HL8 : Hid (Lg w1.heap.size S8 _ b _) := hL8
        clear hL8
        refine (Marks_any HL8.out).mono ?_
        rintro r w9 ⟨rfl, hB9⟩
        have HX9 := (hB9.block _ (Array.getElem?_eq_some_iff.1 HAF.out.was).1).trans HAF.out.was
        have hz9 : w4.heap.size < w9.heap.size := (Array.getElem?_eq_some_iff.1 HX9).1
        have hqg : Q.g = P.g := (by rw [HQE.out] <;> exact (by unfold apL; split <;> rfl))
        have hO1 := HAF.out.kp.c
        have hO2 := HAF.out.kp.g
        have hO3 := HAF.out.kp.a
        have HOR := fun X (hX : Below w8.heap.size w8 X) => ordered_any (HL8.out.below hX)
        have HHO := fun X (hX : Below w8.heap.size w8 X) => holds_any (HL8.out.below hX) oa7 oc7 es7 w8.heap.size (HAF.out.at_.below hX) hX.size (HAF.out.kp.hol HOK.out HSY7.out) HL7.out
        have HEND := fun X (hX : Below w8.heap.size w8 X) => HNX.out Q X (Nat.le_trans HAF.out.sz hX.size) ⟨_, HL8.out.below hX⟩ (HAF.out.bel.trans (hX.mono HAF.out.bel.size))
        have HOR' : Hid _ := HOR
        have HHO' : Hid _ := HHO
        have HEND' : Hid _ := HEND
        have HB9 : Hid (Below w8.heap.size w8 w9) := hB9
        clear hB9 HOR HHO HEND HAF
        generalize Q.h = qh at *
        generalize Q.s = qs at *
        generalize Q.c = qc at *
        generalize hqq : Q.g = qg at *
        clear hqq
        subst hqg
        generalize Q.a = qa at *
        obtain ⟨W10, hW10⟩ : ∃ W10, w9.alloc (.cells #[.int .i64 qh, .int .i64 qs, .int .i64 qc, .int .i64 (P.g), .int .i64 qa] 55) = W10 := ⟨_, rfl⟩
        have HW10 : Hid (w9.alloc (.cells #[.int .i64 qh, .int .i64 qs, .int .i64 qc, .int .i64 (P.g), .int .i64 qa] 55) = W10) := hW10
        have HB10 : Hid (Below w8.heap.size w8 W10) := by show Below _ _ _; rw [← hW10]; exact HB9.out.alloc HB9.out.size _
        have hx10 : W10.heap[w9.heap.size]? = some (.cells #[.int .i64 qh, .int .i64 qs, .int .i64 qc, .int .i64 (P.g), .int .i64 qa] 55 (0, 0)) := by rw [← hW10]; exact heap_alloc_new w9 _
        obtain ⟨⟨p0, p1, p2, p3, p4⟩, -⟩ := cells5 HX9
        have HX10 : Hid (W10.heap[w9.heap.size]? = _) := hx10
        clear hW10 hx10 HX9
        go_wp2_with fail
        rw [HW10.out]
        refine (HOR'.out _ HB10.out).mono ?_
        rintro r w11 ⟨rfl, hB11⟩
        have HB11 : Hid (Below w8.heap.size w8 w11) := HB10.out.trans (hB11.mono HB10.out.size)
        obtain ⟨⟨t0, t1, t2, t3, t4⟩, -⟩ := cells5 ((hB11.block _ (Array.getElem?_eq_some_iff.1 HX10.out).1).trans HX10.out)
        clear hB11
        go_wp2_with fail
        refine (HHO'.out _ HB11.out).mono ?_
        rintro r w12 ⟨rfl, hB12⟩
        have HB12 : Hid (Below w8.heap.size w8 w12) := HB11.out.trans (hB12.mono HB11.out.size)
        clear hB12
        go_wp2
        exact HEND'.out w12 HB12.out
      by_cases hk1 : okd = 1
      · as_aux_lemma =>
        subst hk1
        go_wp2_with fail
        refine (may_any on otm oea oec oes N w7 (HCE.out.below (HBR7.out.mono (Nat.le_trans hN HB.out.size))) (Nat.le_trans hN HBW7.out.size) (by omega)).mono ?_
        rintro r wm ⟨rfl, hBm⟩
        have HLgm : Hid (Lg w1.heap.size S' wm b P) := HLg7.out.below hBm
        have HXm : Hid (wm.heap[wr.heap.size]? = _) := (hBm.block _ (Array.getElem?_eq_some_iff.1 HX37.out).1).trans HX37.out
        obtain ⟨y0, y1, y2, y3, y4, y5⟩ : wm.cell? ⟨wr.heap.size, 0, none⟩ = some (.int .i64 1) ∧ wm.cell? ⟨wr.heap.size, 1, none⟩ = some (.int .i64 on) ∧ wm.cell? ⟨wr.heap.size, 2, none⟩ = some (.int .i64 otm) ∧ wm.cell? ⟨wr.heap.size, 3, none⟩ = some (.int .i64 om) ∧ wm.cell? ⟨wr.heap.size, 4, none⟩ = some (.slice oea oes.length oec) ∧ wm.cell? ⟨wr.heap.size, 5, none⟩ = some (.slice oba obd.length obc) := by
          have hx3 := HXm.out
          refine ⟨?_, ?_, ?_, ?_, ?_, ?_⟩
          all_goals (simp only [World.cell?, hx3]; rfl)
        have HBRm : Hid (Below wr.heap.size wr wm) := HBR7.out.trans (hBm.mono HBR7.out.size)
        have HNm : Hid (w1.heap.size ≤ wm.heap.size) := Nat.le_trans HN7.out hBm.size
        have HBm : Hid (Below w7.heap.size w7 wm) := hBm
        have HEm : Hid (EntsAt N wm oea oes) := HCE.out.below (HBRm.out.mono (Nat.le_trans hN HB.out.size))
        clear hBm
        cases mayB on otm oes with
        | false =>
          obtain ⟨Q, HQE⟩ : ∃ Q : PL, Hid (Q = P) := ⟨_, rfl⟩
          have HAF : Hid (Aft w1.heap.size w b P Q oa7 es7 w4.heap.size wr.heap.size wm) := by show Aft _ _ _ _ _ _ _ _ _ _; rw [HQE.out]; exact HAFT.out wm P (HLg7.out.th HN7.out HBm.out) (Kp.refl HOK.out)
          clear HAFT
          go_wp2_with fail
          obtain ⟨S8, hL8⟩ := HAF.out.lg
          have HL8 : Hid (Lg w1.heap.size S8 _ b _) := hL8
          clear hL8
          refine (Marks_any HL8.out).mono ?_
          rintro r w9 ⟨rfl, hB9⟩
          have HX9 := (hB9.block _ (Array.getElem?_eq_some_iff.1 HAF.out.was).1).trans HAF.out.was
          have hz9 : w4.heap.size < w9.heap.size := (Array.getElem?_eq_some_iff.1 HX9).1
          have hqg : Q.g = P.g := (by rw [HQE.out] <;> exact rfl)
          have hO1 := HAF.out.kp.c
          have hO2 := HAF.out.kp.g
          have hO3 := HAF.out.kp.a
          have HOR := fun X (hX : Below wm.heap.size wm X) => ordered_any (HL8.out.below hX)
          have HHO := fun X (hX : Below wm.heap.size wm X) => holds_any (HL8.out.below hX) oa7 oc7 es7 wm.heap.size (HAF.out.at_.below hX) hX.size (HAF.out.kp.hol HOK.out HSY7.out) HL7.out
          have HEND := fun X (hX : Below wm.heap.size wm X) => HNX.out Q X (Nat.le_trans HAF.out.sz hX.size) ⟨_, HL8.out.below hX⟩ (HAF.out.bel.trans (hX.mono HAF.out.bel.size))
          have HOR' : Hid _ := HOR
          have HHO' : Hid _ := HHO
          have HEND' : Hid _ := HEND
          have HB9 : Hid (Below wm.heap.size wm w9) := hB9
          clear hB9 HOR HHO HEND HAF
          generalize Q.h = qh at *
          generalize Q.s = qs at *
          generalize Q.c = qc at *
          generalize hqq : Q.g = qg at *
          clear hqq
          subst hqg
          generalize Q.a = qa at *
          obtain ⟨W10, hW10⟩ : ∃ W10, w9.alloc (.cells #[.int .i64 qh, .int .i64 qs, .int .i64 qc, .int .i64 (P.g), .int .i64 qa] 55) = W10 := ⟨_, rfl⟩
          have HW10 : Hid (w9.alloc (.cells #[.int .i64 qh, .int .i64 qs, .int .i64 qc, .int .i64 (P.g), .int .i64 qa] 55) = W10) := hW10
          have HB10 : Hid (Below wm.heap.size wm W10) := by show Below _ _ _; rw [← hW10]; exact HB9.out.alloc HB9.out.size _
          have hx10 : W10.heap[w9.heap.size]? = some (.cells #[.int .i64 qh, .int .i64 qs, .int .i64 qc, .int .i64 (P.g), .int .i64 qa] 55 (0, 0)) := by rw [← hW10]; exact heap_alloc_new w9 _
          obtain ⟨⟨p0, p1, p2, p3, p4⟩, -⟩ := cells5 HX9
          have HX10 : Hid (W10.heap[w9.heap.size]? = _) := hx10
          clear hW10 hx10 HX9
          go_wp2_with fail
          rw [HW10.out]
          refine (HOR'.out _ HB10.out).mono ?_
          rintro r w11 ⟨rfl, hB11⟩
          have HB11 : Hid (Below wm.heap.size wm w11) := HB10.out.trans (hB11.mono HB10.out.size)
          obtain ⟨⟨t0, t1, t2, t3, t4⟩, -⟩ := cells5 ((hB11.block _ (Array.getElem?_eq_some_iff.1 HX10.out).1).trans HX10.out)
          clear hB11
          go_wp2_with fail
          refine (HHO'.out _ HB11.out).mono ?_
          rintro r w12 ⟨rfl, hB12⟩
          have HB12 : Hid (Below wm.heap.size wm w12) := HB11.out.trans (hB12.mono HB11.out.size)
          clear hB12
          go_wp2
          exact HEND'.out w12 HB12.out
        | true =>
          have hSt : Sta S' wm oea oes := HEm.out.sta (N := 0) (Nat.le_trans (Nat.le_trans hN HN1.out) HNm.out) (fun j hj hlt => by have := HLgm.out.fr j hj; have := HN1.out; omega)
          have HTR : Hid (Calls _ _ _ _ _) := Try_any HLgm.out HNm.out on otm om oea oec oes hSt (by omega) HEC.out.1 HEC.out.2
          clear hSt
          go_wp2_with fail
          refine HTR.out.mono ?_
          rintro r w8 ⟨rfl, hT⟩
          obtain ⟨Q, HQE⟩ : ∃ Q : PL, Hid (Q = trL P on otm om (oes.map Ent.says)) := ⟨_, rfl⟩
          have HAF : Hid (Aft w1.heap.size w b P Q oa7 es7 w4.heap.size wr.heap.size w8) := by show Aft _ _ _ _ _ _ _ _ _ _; rw [HQE.out]; exact Aft.th HNm.out HN1.out (HA7.out.below HBm.out) ((HBm.out.block _ (Array.getElem?_eq_some_iff.1 HX7.out).1).trans HX7.out) HSW.out (HBW7.out.trans (HBm.out.mono HBW7.out.size)) (Nat.le_trans HZ7.out HBm.out.size) hT (Kp.tr HOK.out _ _ _ _)
          clear hT HAFT HTR
          go_wp2_with fail
          obtain ⟨S8, hL8⟩ := HAF.out.lg
          have HL8 : Hid (Lg w1.heap.size S8 _ b _) := hL8
          clear hL8
          refine (Marks_any HL8.out).mono ?_
          rintro r w9 ⟨rfl, hB9⟩
          have HX9 := (hB9.block _ (Array.getElem?_eq_some_iff.1 HAF.out.was).1).trans HAF.out.was
          have hz9 : w4.heap.size < w9.heap.size := (Array.getElem?_eq_some_iff.1 HX9).1
          have hqg : Q.g = P.g := (by rw [HQE.out] <;> exact (by unfold trL trP; split; split <;> rfl; rfl))
          have hO1 := HAF.out.kp.c
          have hO2 := HAF.out.kp.g
          have hO3 := HAF.out.kp.a
          have HOR := fun X (hX : Below w8.heap.size w8 X) => ordered_any (HL8.out.below hX)
          have HHO := fun X (hX : Below w8.heap.size w8 X) => holds_any (HL8.out.below hX) oa7 oc7 es7 w8.heap.size (HAF.out.at_.below hX) hX.size (HAF.out.kp.hol HOK.out HSY7.out) HL7.out
          have HEND := fun X (hX : Below w8.heap.size w8 X) => HNX.out Q X (Nat.le_trans HAF.out.sz hX.size) ⟨_, HL8.out.below hX⟩ (HAF.out.bel.trans (hX.mono HAF.out.bel.size))
          have HOR' : Hid _ := HOR
          have HHO' : Hid _ := HHO
          have HEND' : Hid _ := HEND
          have HB9 : Hid (Below w8.heap.size w8 w9) := hB9
          clear hB9 HOR HHO HEND HAF
          generalize Q.h = qh at *
          generalize Q.s = qs at *
          generalize Q.c = qc at *
          generalize hqq : Q.g = qg at *
          clear hqq
          subst hqg
          generalize Q.a = qa at *
          obtain ⟨W10, hW10⟩ : ∃ W10, w9.alloc (.cells #[.int .i64 qh, .int .i64 qs, .int .i64 qc, .int .i64 (P.g), .int .i64 qa] 55) = W10 := ⟨_, rfl⟩
          have HW10 : Hid (w9.alloc (.cells #[.int .i64 qh, .int .i64 qs, .int .i64 qc, .int .i64 (P.g), .int .i64 qa] 55) = W10) := hW10
          have HB10 : Hid (Below w8.heap.size w8 W10) := by show Below _ _ _; rw [← hW10]; exact HB9.out.alloc HB9.out.size _
          have hx10 : W10.heap[w9.heap.size]? = some (.cells #[.int .i64 qh, .int .i64 qs, .int .i64 qc, .int .i64 (P.g), .int .i64 qa] 55 (0, 0)) := by rw [← hW10]; exact heap_alloc_new w9 _
          obtain ⟨⟨p0, p1, p2, p3, p4⟩, -⟩ := cells5 HX9
          have HX10 : Hid (W10.heap[w9.heap.size]? = _) := hx10
          clear hW10 hx10 HX9
          go_wp2_with fail
          rw [HW10.out]
          refine (HOR'.out _ HB10.out).mono ?_
          rintro r w11 ⟨rfl, hB11⟩
          have HB11 : Hid (Below w8.heap.size w8 w11) := HB10.out.trans (hB11.mono HB10.out.size)
          obtain ⟨⟨t0, t1, t2, t3, t4⟩, -⟩ := cells5 ((hB11.block _ (Array.getElem?_eq_some_iff.1 HX10.out).1).trans HX10.out)
          clear hB11
          go_wp2_with fail
          refine (HHO'.out _ HB11.out).mono ?_
          rintro r w12 ⟨rfl, hB12⟩
          have HB12 : Hid (Below w8.heap.size w8 w12) := HB11.out.trans (hB12.mono HB11.out.size)
          clear hB12
          go_wp2
          exact HEND'.out w12 HB12.out
      by_cases hk2 : okd = 2
      · as_aux_lemma =>
        subst hk2
        go_wp2_with fail
        refine (Commit_any HLg7.out HN7.out on).mono ?_
        rintro r w8 ⟨rfl, hT⟩
        obtain ⟨Q, HQE⟩ : ∃ Q : PL, Hid (Q = coP P on) := ⟨_, rfl⟩
        have HAF : Hid (Aft w1.heap.size w b P Q oa7 es7 w4.heap.size wr.heap.size w8) := by show Aft _ _ _ _ _ _ _ _ _ _; rw [HQE.out]; exact HAFT.out w8 _ (hT.th HN7.out) (Kp.co HOK.out _)
        clear hT HAFT
        go_wp2_with fail
        obtain ⟨S8, hL8⟩ := HAF.out.lg
        have HL8 : Hid (Lg w1.heap.size S8 _ b _) := hL8
        clear hL8
        refine (Marks_any HL8.out).mono ?_
        rintro r w9 ⟨rfl, hB9⟩
        have HX9 := (hB9.block _ (Array.getElem?_eq_some_iff.1 HAF.out.was).1).trans HAF.out.was
        have hz9 : w4.heap.size < w9.heap.size := (Array.getElem?_eq_some_iff.1 HX9).1
        have hqg : Q.g = P.g := (by rw [HQE.out] <;> exact rfl)
        have hO1 := HAF.out.kp.c
        have hO2 := HAF.out.kp.g
        have hO3 := HAF.out.kp.a
        have HOR := fun X (hX : Below w8.heap.size w8 X) => ordered_any (HL8.out.below hX)
        have HHO := fun X (hX : Below w8.heap.size w8 X) => holds_any (HL8.out.below hX) oa7 oc7 es7 w8.heap.size (HAF.out.at_.below hX) hX.size (HAF.out.kp.hol HOK.out HSY7.out) HL7.out
        have HEND := fun X (hX : Below w8.heap.size w8 X) => HNX.out Q X (Nat.le_trans HAF.out.sz hX.size) ⟨_, HL8.out.below hX⟩ (HAF.out.bel.trans (hX.mono HAF.out.bel.size))
        have HOR' : Hid _ := HOR
        have HHO' : Hid _ := HHO
        have HEND' : Hid _ := HEND
        have HB9 : Hid (Below w8.heap.size w8 w9) := hB9
        clear hB9 HOR HHO HEND HAF
        generalize Q.h = qh at *
        generalize Q.s = qs at *
        generalize Q.c = qc at *
        generalize hqq : Q.g = qg at *
        clear hqq
        subst hqg
        generalize Q.a = qa at *
        obtain ⟨W10, hW10⟩ : ∃ W10, w9.alloc (.cells #[.int .i64 qh, .int .i64 qs, .int .i64 qc, .int .i64 (P.g), .int .i64 qa] 55) = W10 := ⟨_, rfl⟩
        have HW10 : Hid (w9.alloc (.cells #[.int .i64 qh, .int .i64 qs, .int .i64 qc, .int .i64 (P.g), .int .i64 qa] 55) = W10) := hW10
        have HB10 : Hid (Below w8.heap.size w8 W10) := by show Below _ _ _; rw [← hW10]; exact HB9.out.alloc HB9.out.size _
        have hx10 : W10.heap[w9.heap.size]? = some (.cells #[.int .i64 qh, .int .i64 qs, .int .i64 qc, .int .i64 (P.g), .int .i64 qa] 55 (0, 0)) := by rw [← hW10]; exact heap_alloc_new w9 _
        obtain ⟨⟨p0, p1, p2, p3, p4⟩, -⟩ := cells5 HX9
        have HX10 : Hid (W10.heap[w9.heap.size]? = _) := hx10
        clear hW10 hx10 HX9
        go_wp2_with fail
        rw [HW10.out]
        refine (HOR'.out _ HB10.out).mono ?_
        rintro r w11 ⟨rfl, hB11⟩
        have HB11 : Hid (Below w8.heap.size w8 w11) := HB10.out.trans (hB11.mono HB10.out.size)
        obtain ⟨⟨t0, t1, t2, t3, t4⟩, -⟩ := cells5 ((hB11.block _ (Array.getElem?_eq_some_iff.1 HX10.out).1).trans HX10.out)
        clear hB11
        go_wp2_with fail
        refine (HHO'.out _ HB11.out).mono ?_
        rintro r w12 ⟨rfl, hB12⟩
        have HB12 : Hid (Below w8.heap.size w8 w12) := HB11.out.trans (hB12.mono HB11.out.size)
        clear hB12
        go_wp2
        exact HEND'.out w12 HB12.out
      by_cases hk3 : okd = 3
      · as_aux_lemma =>
        subst hk3
        go_wp2_with fail
        refine (Hand_any HLg7.out HN7.out).mono ?_
        rintro r w8 ⟨v8, f8, rfl, -, -, hT⟩
        obtain ⟨Q, HQE⟩ : ∃ Q : PL, Hid (Q = haP P) := ⟨_, rfl⟩
        have HAF : Hid (Aft w1.heap.size w b P Q oa7 es7 w4.heap.size wr.heap.size w8) := by show Aft _ _ _ _ _ _ _ _ _ _; rw [HQE.out]; exact HAFT.out w8 _ (hT.th HN7.out) (Kp.ha HOK.out)
        clear hT HAFT
        go_wp2_with fail
        obtain ⟨S8, hL8⟩ := HAF.out.lg
        have HL8 : Hid (Lg w1.heap.size S8 _ b _) := hL8
        clear hL8
        refine (Marks_any HL8.out).mono ?_
        rintro r w9 ⟨rfl, hB9⟩
        have HX9 := (hB9.block _ (Array.getElem?_eq_some_iff.1 HAF.out.was).1).trans HAF.out.was
        have hz9 : w4.heap.size < w9.heap.size := (Array.getElem?_eq_some_iff.1 HX9).1
        have hqg : Q.g = P.g := (by rw [HQE.out] <;> exact rfl)
        have hO1 := HAF.out.kp.c
        have hO2 := HAF.out.kp.g
        have hO3 := HAF.out.kp.a
        have HOR := fun X (hX : Below w8.heap.size w8 X) => ordered_any (HL8.out.below hX)
        have HHO := fun X (hX : Below w8.heap.size w8 X) => holds_any (HL8.out.below hX) oa7 oc7 es7 w8.heap.size (HAF.out.at_.below hX) hX.size (HAF.out.kp.hol HOK.out HSY7.out) HL7.out
        have HEND := fun X (hX : Below w8.heap.size w8 X) => HNX.out Q X (Nat.le_trans HAF.out.sz hX.size) ⟨_, HL8.out.below hX⟩ (HAF.out.bel.trans (hX.mono HAF.out.bel.size))
        have HOR' : Hid _ := HOR
        have HHO' : Hid _ := HHO
        have HEND' : Hid _ := HEND
        have HB9 : Hid (Below w8.heap.size w8 w9) := hB9
        clear hB9 HOR HHO HEND HAF
        generalize Q.h = qh at *
        generalize Q.s = qs at *
        generalize Q.c = qc at *
        generalize hqq : Q.g = qg at *
        clear hqq
        subst hqg
        generalize Q.a = qa at *
        obtain ⟨W10, hW10⟩ : ∃ W10, w9.alloc (.cells #[.int .i64 qh, .int .i64 qs, .int .i64 qc, .int .i64 (P.g), .int .i64 qa] 55) = W10 := ⟨_, rfl⟩
        have HW10 : Hid (w9.alloc (.cells #[.int .i64 qh, .int .i64 qs, .int .i64 qc, .int .i64 (P.g), .int .i64 qa] 55) = W10) := hW10
        have HB10 : Hid (Below w8.heap.size w8 W10) := by show Below _ _ _; rw [← hW10]; exact HB9.out.alloc HB9.out.size _
        have hx10 : W10.heap[w9.heap.size]? = some (.cells #[.int .i64 qh, .int .i64 qs, .int .i64 qc, .int .i64 (P.g), .int .i64 qa] 55 (0, 0)) := by rw [← hW10]; exact heap_alloc_new w9 _
        obtain ⟨⟨p0, p1, p2, p3, p4⟩, -⟩ := cells5 HX9
        have HX10 : Hid (W10.heap[w9.heap.size]? = _) := hx10
        clear hW10 hx10 HX9
        go_wp2_with fail
        rw [HW10.out]
        refine (HOR'.out _ HB10.out).mono ?_
        rintro r w11 ⟨rfl, hB11⟩
        have HB11 : Hid (Below w8.heap.size w8 w11) := HB10.out.trans (hB11.mono HB10.out.size)
        obtain ⟨⟨t0, t1, t2, t3, t4⟩, -⟩ := cells5 ((hB11.block _ (Array.getElem?_eq_some_iff.1 HX10.out).1).trans HX10.out)
        clear hB11
        go_wp2_with fail
        refine (HHO'.out _ HB11.out).mono ?_
        rintro r w12 ⟨rfl, hB12⟩
        have HB12 : Hid (Below w8.heap.size w8 w12) := HB11.out.trans (hB12.mono HB11.out.size)
        clear hB12
        go_wp2
        exact HEND'.out w12 HB12.out
      by_cases hk4 : okd = 4
      · as_aux_lemma =>
        subst hk4
        go_wp2_with fail
        refine (Stable_any HLg7.out HN7.out on otm).mono ?_
        rintro r w8 ⟨rfl, hT⟩
        obtain ⟨Q, HQE⟩ : ∃ Q : PL, Hid (Q = stP P on otm) := ⟨_, rfl⟩
        have HAF : Hid (Aft w1.heap.size w b P Q oa7 es7 w4.heap.size wr.heap.size w8) := by show Aft _ _ _ _ _ _ _ _ _ _; rw [HQE.out]; exact HAFT.out w8 _ (hT.th HN7.out) (Kp.st HOK.out _ _)
        clear hT HAFT
        go_wp2_with fail
        obtain ⟨S8, hL8⟩ := HAF.out.lg
        have HL8 : Hid (Lg w1.heap.size S8 _ b _) := hL8
        clear hL8
        refine (Marks_any HL8.out).mono ?_
        rintro r w9 ⟨rfl, hB9⟩
        have HX9 := (hB9.block _ (Array.getElem?_eq_some_iff.1 HAF.out.was).1).trans HAF.out.was
        have hz9 : w4.heap.size < w9.heap.size := (Array.getElem?_eq_some_iff.1 HX9).1
        have hqg : Q.g = P.g := (by rw [HQE.out] <;> exact (by unfold stP; split <;> rfl))
        have hO1 := HAF.out.kp.c
        have hO2 := HAF.out.kp.g
        have hO3 := HAF.out.kp.a
        have HOR := fun X (hX : Below w8.heap.size w8 X) => ordered_any (HL8.out.below hX)
        have HHO := fun X (hX : Below w8.heap.size w8 X) => holds_any (HL8.out.below hX) oa7 oc7 es7 w8.heap.size (HAF.out.at_.below hX) hX.size (HAF.out.kp.hol HOK.out HSY7.out) HL7.out
        have HEND := fun X (hX : Below w8.heap.size w8 X) => HNX.out Q X (Nat.le_trans HAF.out.sz hX.size) ⟨_, HL8.out.below hX⟩ (HAF.out.bel.trans (hX.mono HAF.out.bel.size))
        have HOR' : Hid _ := HOR
        have HHO' : Hid _ := HHO
        have HEND' : Hid _ := HEND
        have HB9 : Hid (Below w8.heap.size w8 w9) := hB9
        clear hB9 HOR HHO HEND HAF
        generalize Q.h = qh at *
        generalize Q.s = qs at *
        generalize Q.c = qc at *
        generalize hqq : Q.g = qg at *
        clear hqq
        subst hqg
        generalize Q.a = qa at *
        obtain ⟨W10, hW10⟩ : ∃ W10, w9.alloc (.cells #[.int .i64 qh, .int .i64 qs, .int .i64 qc, .int .i64 (P.g), .int .i64 qa] 55) = W10 := ⟨_, rfl⟩
        have HW10 : Hid (w9.alloc (.cells #[.int .i64 qh, .int .i64 qs, .int .i64 qc, .int .i64 (P.g), .int .i64 qa] 55) = W10) := hW10
        have HB10 : Hid (Below w8.heap.size w8 W10) := by show Below _ _ _; rw [← hW10]; exact HB9.out.alloc HB9.out.size _
        have hx10 : W10.heap[w9.heap.size]? = some (.cells #[.int .i64 qh, .int .i64 qs, .int .i64 qc, .int .i64 (P.g), .int .i64 qa] 55 (0, 0)) := by rw [← hW10]; exact heap_alloc_new w9 _
        obtain ⟨⟨p0, p1, p2, p3, p4⟩, -⟩ := cells5 HX9
        have HX10 : Hid (W10.heap[w9.heap.size]? = _) := hx10
        clear hW10 hx10 HX9
        go_wp2_with fail
        rw [HW10.out]
        refine (HOR'.out _ HB10.out).mono ?_
        rintro r w11 ⟨rfl, hB11⟩
        have HB11 : Hid (Below w8.heap.size w8 w11) := HB10.out.trans (hB11.mono HB10.out.size)
        obtain ⟨⟨t0, t1, t2, t3, t4⟩, -⟩ := cells5 ((hB11.block _ (Array.getElem?_eq_some_iff.1 HX10.out).1).trans HX10.out)
        clear hB11
        go_wp2_with fail
        refine (HHO'.out _ HB11.out).mono ?_
        rintro r w12 ⟨rfl, hB12⟩
        have HB12 : Hid (Below w8.heap.size w8 w12) := HB11.out.trans (hB12.mono HB11.out.size)
        clear hB12
        go_wp2
        exact HEND'.out w12 HB12.out
      by_cases hk5 : okd = 5
      · as_aux_lemma =>
        subst hk5
        go_wp2_with fail
        refine (Next_any HLg7.out HN7.out on).mono ?_
        rintro r w8 ⟨v8, f8, rfl, hO8, hsy8, hT⟩
        obtain ⟨a8, c8, rfl, -, -⟩ := hO8.shape
        have HAT8 : Hid (EntsAt w8.heap.size w8 a8 f8) := hO8.at
        have hfl : f8.length = nxN P on := by have h1 := congrArg List.length hsy8; simp at h1; rw [h1, nx_len HOK.out]
        have HIX : Hid (∀ j, j < f8.length → (f8.getD j nilEnt).i = P.g + 1 + (j : Int)) := fun j hj => by
          have h1 := nx_get HOK.out on (k := j) (by rw [nx_len HOK.out, ← hfl]; exact hj)
          rw [← hsy8, says_getD] at h1
          exact h1
        have hnle := nxN_le HOK.out on
        have hg0 : 0 ≤ P.g := by have := HOK.out.ba; have := HOK.out.ag; omega
        have hfl2 : P.g + (f8.length : Int) ≤ 4611686018427387904 := by rw [hfl]; omega
        obtain ⟨Q, HQE⟩ : ∃ Q : PL, Hid (Q = nxP P on) := ⟨_, rfl⟩
        have HAF : Hid (Aft w1.heap.size w b P Q oa7 es7 w4.heap.size wr.heap.size w8) := by show Aft _ _ _ _ _ _ _ _ _ _; rw [HQE.out]; exact HAFT.out w8 _ (hT.th HN7.out) (Kp.nx HOK.out _)
        have HFL : Hid (f8.length = nxN P on) := hfl
        clear hT HAFT hO8 hsy8 hnle hfl
        obtain ⟨wo, rfl⟩ : ∃ wo, wo = wr := ⟨wr, rfl⟩
        go_wp2_with fail
        go_loopw [16] (fun kv wq => ∃ j : Nat, kv = .int .i64 (j : Int) ∧ j ≤ f8.length ∧ wq = w8) (fun kv _ => f8.length - (intOf kv).toNat)
        case atStart => exact ⟨0, rfl, Nat.zero_le _, rfl⟩
        case round =>
          obtain ⟨j, rfl, hj, hwq⟩ := hrel
          subst hwq
          by_cases hjl : j < f8.length
          · obtain ⟨nb, no, hna, hnb, he⟩ := HAT8.out.at hjl
            subst hna
            have hix := HIX.out j hjl
            obtain ⟨z0, z1, -⟩ := he
            rw [hix] at z1
            have j0 : (0 : Int) ≤ (j : Int) := by omega
            have j1 : (j : Int) < (f8.length : Int) := by omega
            clear z0 hix HAT8 HAF
            go_wp2
            exact ⟨⟨j + 1, by simp, by omega, by trivial⟩, by simp [intOf]; omega⟩
          · have hjn : j = f8.length := by omega
            go_wp2_with fail
            obtain ⟨S8, hL8⟩ := HAF.out.lg
            have HL8 : Hid (Lg w1.heap.size S8 _ b _) := hL8
            clear hL8
            refine (Marks_any HL8.out).mono ?_
            rintro r w9 ⟨rfl, hB9⟩
            have HX9 := (hB9.block _ (Array.getElem?_eq_some_iff.1 HAF.out.was).1).trans HAF.out.was
            have hz9 : w4.heap.size < w9.heap.size := (Array.getElem?_eq_some_iff.1 HX9).1
            have hqg : Q.g = P.g + (f8.length : Int) := (by rw [HQE.out] <;> exact (by rw [HFL.out]; rfl))
            have hO1 := HAF.out.kp.c
            have hO2 := HAF.out.kp.g
            have hO3 := HAF.out.kp.a
            have HOR := fun X (hX : Below wr.heap.size wr X) => ordered_any (HL8.out.below hX)
            have HHO := fun X (hX : Below wr.heap.size wr X) => holds_any (HL8.out.below hX) oa7 oc7 es7 wr.heap.size (HAF.out.at_.below hX) hX.size (HAF.out.kp.hol HOK.out HSY7.out) HL7.out
            have HEND := fun X (hX : Below wr.heap.size wr X) => HNX.out Q X (Nat.le_trans HAF.out.sz hX.size) ⟨_, HL8.out.below hX⟩ (HAF.out.bel.trans (hX.mono HAF.out.bel.size))
            have HOR' : Hid _ := HOR
            have HHO' : Hid _ := HHO
            have HEND' : Hid _ := HEND
            have HB9 : Hid (Below wr.heap.size wr w9) := hB9
            clear hB9 HOR HHO HEND HAF
            generalize Q.h = qh at *
            generalize Q.s = qs at *
            generalize Q.c = qc at *
            generalize hqq : Q.g = qg at *
            clear hqq
            subst hqg
            generalize Q.a = qa at *
            obtain ⟨W10, hW10⟩ : ∃ W10, w9.alloc (.cells #[.int .i64 qh, .int .i64 qs, .int .i64 qc, .int .i64 (P.g + (f8.length : Int)), .int .i64 qa] 55) = W10 := ⟨_, rfl⟩
            have HW10 : Hid (w9.alloc (.cells #[.int .i64 qh, .int .i64 qs, .int .i64 qc, .int .i64 (P.g + (f8.length : Int)), .int .i64 qa] 55) = W10) := hW10
            have HB10 : Hid (Below wr.heap.size wr W10) := by show Below _ _ _; rw [← hW10]; exact HB9.out.alloc HB9.out.size _
            have hx10 : W10.heap[w9.heap.size]? = some (.cells #[.int .i64 qh, .int .i64 qs, .int .i64 qc, .int .i64 (P.g + (f8.length : Int)), .int .i64 qa] 55 (0, 0)) := by rw [← hW10]; exact heap_alloc_new w9 _
            obtain ⟨⟨p0, p1, p2, p3, p4⟩, -⟩ := cells5 HX9
            have HX10 : Hid (W10.heap[w9.heap.size]? = _) := hx10
            clear hW10 hx10 HX9
            go_wp2_with fail
            rw [HW10.out]
            refine (HOR'.out _ HB10.out).mono ?_
            rintro r w11 ⟨rfl, hB11⟩
            have HB11 : Hid (Below wr.heap.size wr w11) := HB10.out.trans (hB11.mono HB10.out.size)
            obtain ⟨⟨t0, t1, t2, t3, t4⟩, -⟩ := cells5 ((hB11.block _ (Array.getElem?_eq_some_iff.1 HX10.out).1).trans HX10.out)
            clear hB11
            go_wp2_with fail
            refine (HHO'.out _ HB11.out).mono ?_
            rintro r w12 ⟨rfl, hB12⟩
            have HB12 : Hid (Below wr.heap.size wr w12) := HB11.out.trans (hB12.mono HB11.out.size)
            clear hB12
            go_wp2
            exact HEND'.out w12 HB12.out
      by_cases hk6 : okd = 6
      · as_aux_lemma =>
        subst hk6
        go_wp2_with fail
        refine (Applied_any HLg7.out HN7.out on).mono ?_
        rintro r w8 ⟨rfl, hT⟩
        obtain ⟨Q, HQE⟩ : ∃ Q : PL, Hid (Q = adP P on) := ⟨_, rfl⟩
        have HAF : Hid (Aft w1.heap.size w b P Q oa7 es7 w4.heap.size wr.heap.size w8) := by show Aft _ _ _ _ _ _ _ _ _ _; rw [HQE.out]; exact HAFT.out w8 _ (hT.th HN7.out) (Kp.ad HOK.out _)
        clear hT HAFT
        go_wp2_with fail
        obtain ⟨S8, hL8⟩ := HAF.out.lg
        have HL8 : Hid (Lg w1.heap.size S8 _ b _) := hL8
        clear hL8
        refine (Marks_any HL8.out).mono ?_
        rintro r w9 ⟨rfl, hB9⟩
        have HX9 := (hB9.block _ (Array.getElem?_eq_some_iff.1 HAF.out.was).1).trans HAF.out.was
        have hz9 : w4.heap.size < w9.heap.size := (Array.getElem?_eq_some_iff.1 HX9).1
        have hqg : Q.g = P.g := (by rw [HQE.out] <;> exact (by unfold adP; split <;> rfl))
        have hO1 := HAF.out.kp.c
        have hO2 := HAF.out.kp.g
        have hO3 := HAF.out.kp.a
        have HOR := fun X (hX : Below w8.heap.size w8 X) => ordered_any (HL8.out.below hX)
        have HHO := fun X (hX : Below w8.heap.size w8 X) => holds_any (HL8.out.below hX) oa7 oc7 es7 w8.heap.size (HAF.out.at_.below hX) hX.size (HAF.out.kp.hol HOK.out HSY7.out) HL7.out
        have HEND := fun X (hX : Below w8.heap.size w8 X) => HNX.out Q X (Nat.le_trans HAF.out.sz hX.size) ⟨_, HL8.out.below hX⟩ (HAF.out.bel.trans (hX.mono HAF.out.bel.size))
        have HOR' : Hid _ := HOR
        have HHO' : Hid _ := HHO
        have HEND' : Hid _ := HEND
        have HB9 : Hid (Below w8.heap.size w8 w9) := hB9
        clear hB9 HOR HHO HEND HAF
        generalize Q.h = qh at *
        generalize Q.s = qs at *
        generalize Q.c = qc at *
        generalize hqq : Q.g = qg at *
        clear hqq
        subst hqg
        generalize Q.a = qa at *
        obtain ⟨W10, hW10⟩ : ∃ W10, w9.alloc (.cells #[.int .i64 qh, .int .i64 qs, .int .i64 qc, .int .i64 (P.g), .int .i64 qa] 55) = W10 := ⟨_, rfl⟩
        have HW10 : Hid (w9.alloc (.cells #[.int .i64 qh, .int .i64 qs, .int .i64 qc, .int .i64 (P.g), .int .i64 qa] 55) = W10) := hW10
        have HB10 : Hid (Below w8.heap.size w8 W10) := by show Below _ _ _; rw [← hW10]; exact HB9.out.alloc HB9.out.size _
        have hx10 : W10.heap[w9.heap.size]? = some (.cells #[.int .i64 qh, .int .i64 qs, .int .i64 qc, .int .i64 (P.g), .int .i64 qa] 55 (0, 0)) := by rw [← hW10]; exact heap_alloc_new w9 _
        obtain ⟨⟨p0, p1, p2, p3, p4⟩, -⟩ := cells5 HX9
        have HX10 : Hid (W10.heap[w9.heap.size]? = _) := hx10
        clear hW10 hx10 HX9
        go_wp2_with fail
        rw [HW10.out]
        refine (HOR'.out _ HB10.out).mono ?_
        rintro r w11 ⟨rfl, hB11⟩
        have HB11 : Hid (Below w8.heap.size w8 w11) := HB10.out.trans (hB11.mono HB10.out.size)
        obtain ⟨⟨t0, t1, t2, t3, t4⟩, -⟩ := cells5 ((hB11.block _ (Array.getElem?_eq_some_iff.1 HX10.out).1).trans HX10.out)
        clear hB11
        go_wp2_with fail
        refine (HHO'.out _ HB11.out).mono ?_
        rintro r w12 ⟨rfl, hB12⟩
        have HB12 : Hid (Below w8.heap.size w8 w12) := HB11.out.trans (hB12.mono HB11.out.size)
        clear hB12
        go_wp2
        exact HEND'.out w12 HB12.out
      by_cases hk7 : okd = 7
      · as_aux_lemma =>
        subst hk7
        go_wp2_with fail
        refine (Compact_any HLg7.out HN7.out on).mono ?_
        rintro r w8 ⟨rfl, hT⟩
        obtain ⟨Q, HQE⟩ : ∃ Q : PL, Hid (Q = cmP P on) := ⟨_, rfl⟩
        have HAF : Hid (Aft w1.heap.size w b P Q oa7 es7 w4.heap.size wr.heap.size w8) := by show Aft _ _ _ _ _ _ _ _ _ _; rw [HQE.out]; exact HAFT.out w8 _ hT (Kp.cm HOK.out _)
        clear hT HAFT
        go_wp2_with fail
        obtain ⟨S8, hL8⟩ := HAF.out.lg
        have HL8 : Hid (Lg w1.heap.size S8 _ b _) := hL8
        clear hL8
        refine (Marks_any HL8.out).mono ?_
        rintro r w9 ⟨rfl, hB9⟩
        have HX9 := (hB9.block _ (Array.getElem?_eq_some_iff.1 HAF.out.was).1).trans HAF.out.was
        have hz9 : w4.heap.size < w9.heap.size := (Array.getElem?_eq_some_iff.1 HX9).1
        have hqg : Q.g = P.g := (by rw [HQE.out] <;> exact (by unfold cmP; split <;> rfl))
        have hO1 := HAF.out.kp.c
        have hO2 := HAF.out.kp.g
        have hO3 := HAF.out.kp.a
        have HOR := fun X (hX : Below w8.heap.size w8 X) => ordered_any (HL8.out.below hX)
        have HHO := fun X (hX : Below w8.heap.size w8 X) => holds_any (HL8.out.below hX) oa7 oc7 es7 w8.heap.size (HAF.out.at_.below hX) hX.size (HAF.out.kp.hol HOK.out HSY7.out) HL7.out
        have HEND := fun X (hX : Below w8.heap.size w8 X) => HNX.out Q X (Nat.le_trans HAF.out.sz hX.size) ⟨_, HL8.out.below hX⟩ (HAF.out.bel.trans (hX.mono HAF.out.bel.size))
        have HOR' : Hid _ := HOR
        have HHO' : Hid _ := HHO
        have HEND' : Hid _ := HEND
        have HB9 : Hid (Below w8.heap.size w8 w9) := hB9
        clear hB9 HOR HHO HEND HAF
        generalize Q.h = qh at *
        generalize Q.s = qs at *
        generalize Q.c = qc at *
        generalize hqq : Q.g = qg at *
        clear hqq
        subst hqg
        generalize Q.a = qa at *
        obtain ⟨W10, hW10⟩ : ∃ W10, w9.alloc (.cells #[.int .i64 qh, .int .i64 qs, .int .i64 qc, .int .i64 (P.g), .int .i64 qa] 55) = W10 := ⟨_, rfl⟩
        have HW10 : Hid (w9.alloc (.cells #[.int .i64 qh, .int .i64 qs, .int .i64 qc, .int .i64 (P.g), .int .i64 qa] 55) = W10) := hW10
        have HB10 : Hid (Below w8.heap.size w8 W10) := by show Below _ _ _; rw [← hW10]; exact HB9.out.alloc HB9.out.size _
        have hx10 : W10.heap[w9.heap.size]? = some (.cells #[.int .i64 qh, .int .i64 qs, .int .i64 qc, .int .i64 (P.g), .int .i64 qa] 55 (0, 0)) := by rw [← hW10]; exact heap_alloc_new w9 _
        obtain ⟨⟨p0, p1, p2, p3, p4⟩, -⟩ := cells5 HX9
        have HX10 : Hid (W10.heap[w9.heap.size]? = _) := hx10
        clear hW10 hx10 HX9
        go_wp2_with fail
        rw [HW10.out]
        refine (HOR'.out _ HB10.out).mono ?_
        rintro r w11 ⟨rfl, hB11⟩
        have HB11 : Hid (Below w8.heap.size w8 w11) := HB10.out.trans (hB11.mono HB10.out.size)
        obtain ⟨⟨t0, t1, t2, t3, t4⟩, -⟩ := cells5 ((hB11.block _ (Array.getElem?_eq_some_iff.1 HX10.out).1).trans HX10.out)
        clear hB11
        go_wp2_with fail
        refine (HHO'.out _ HB11.out).mono ?_
        rintro r w12 ⟨rfl, hB12⟩
        have HB12 : Hid (Below w8.heap.size w8 w12) := HB11.out.trans (hB12.mono HB11.out.size)
        clear hB12
        go_wp2
        exact HEND'.out w12 HB12.out
      by_cases hk8 : okd = 8
      · as_aux_lemma =>
        subst hk8
        go_wp2_with fail
        refine (Restore_any HLg7.out HN7.out on otm).mono ?_
        rintro r w8 ⟨rfl, hT⟩
        have HX38 : Hid (w8.heap[wr.heap.size]? = _) := (hT.out.block _ (Array.getElem?_eq_some_iff.1 HX37.out).1 (fun hs => by have := HL.out.inn _ hs; omega)).trans HX37.out
        have y1 : w8.cell? ⟨wr.heap.size, 1, none⟩ = some (.int .i64 on) := by
          have hx3 := HX38.out
          simp only [World.cell?, hx3]; rfl
        obtain ⟨Q, HQE⟩ : ∃ Q : PL, Hid (Q = rsP P on otm) := ⟨_, rfl⟩
        have HAF : Hid (Aft w1.heap.size w b P Q oa7 es7 w4.heap.size wr.heap.size w8) := by show Aft _ _ _ _ _ _ _ _ _ _; rw [HQE.out]; exact HAFT.out w8 _ hT (Kp.rs HOK.out _ _)
        clear hT HAFT
        cases hY : rsY P on otm with
        | false =>
          simp only [Bool.false_eq_true, if_false]
          go_wp2_with (go_at_call 13; refine (num_any _ _).mono ?_; rintro r w' ⟨rfl, hw⟩; subst w')
          obtain ⟨S8, hL8⟩ := HAF.out.lg
          have HL8 : Hid (Lg w1.heap.size S8 _ b _) := hL8
          clear hL8
          refine (Marks_any HL8.out).mono ?_
          rintro r w9 ⟨rfl, hB9⟩
          have HX9 := (hB9.block _ (Array.getElem?_eq_some_iff.1 HAF.out.was).1).trans HAF.out.was
          have hz9 : w4.heap.size < w9.heap.size := (Array.getElem?_eq_some_iff.1 HX9).1
          have hqg : Q.g = P.g := (by rw [HQE.out] <;> exact (by unfold rsP; rw [hY]; rfl))
          have hO1 := HAF.out.kp.c
          have hO2 := HAF.out.kp.g
          have hO3 := HAF.out.kp.a
          have HOR := fun X (hX : Below w8.heap.size w8 X) => ordered_any (HL8.out.below hX)
          have HHO := fun X (hX : Below w8.heap.size w8 X) => holds_any (HL8.out.below hX) oa7 oc7 es7 w8.heap.size (HAF.out.at_.below hX) hX.size (HAF.out.kp.hol HOK.out HSY7.out) HL7.out
          have HEND := fun X (hX : Below w8.heap.size w8 X) => HNX.out Q X (Nat.le_trans HAF.out.sz hX.size) ⟨_, HL8.out.below hX⟩ (HAF.out.bel.trans (hX.mono HAF.out.bel.size))
          have HOR' : Hid _ := HOR
          have HHO' : Hid _ := HHO
          have HEND' : Hid _ := HEND
          have HB9 : Hid (Below w8.heap.size w8 w9) := hB9
          clear hB9 HOR HHO HEND HAF
          generalize Q.h = qh at *
          generalize Q.s = qs at *
          generalize Q.c = qc at *
          generalize hqq : Q.g = qg at *
          clear hqq
          subst hqg
          generalize Q.a = qa at *
          obtain ⟨W10, hW10⟩ : ∃ W10, w9.alloc (.cells #[.int .i64 qh, .int .i64 qs, .int .i64 qc, .int .i64 (P.g), .int .i64 qa] 55) = W10 := ⟨_, rfl⟩
          have HW10 : Hid (w9.alloc (.cells #[.int .i64 qh, .int .i64 qs, .int .i64 qc, .int .i64 (P.g), .int .i64 qa] 55) = W10) := hW10
          have HB10 : Hid (Below w8.heap.size w8 W10) := by show Below _ _ _; rw [← hW10]; exact HB9.out.alloc HB9.out.size _
          have hx10 : W10.heap[w9.heap.size]? = some (.cells #[.int .i64 qh, .int .i64 qs, .int .i64 qc, .int .i64 (P.g), .int .i64 qa] 55 (0, 0)) := by rw [← hW10]; exact heap_alloc_new w9 _
          obtain ⟨⟨p0, p1, p2, p3, p4⟩, -⟩ := cells5 HX9
          have HX10 : Hid (W10.heap[w9.heap.size]? = _) := hx10
          clear hW10 hx10 HX9
          go_wp2_with fail
          rw [HW10.out]
          refine (HOR'.out _ HB10.out).mono ?_
          rintro r w11 ⟨rfl, hB11⟩
          have HB11 : Hid (Below w8.heap.size w8 w11) := HB10.out.trans (hB11.mono HB10.out.size)
          obtain ⟨⟨t0, t1, t2, t3, t4⟩, -⟩ := cells5 ((hB11.block _ (Array.getElem?_eq_some_iff.1 HX10.out).1).trans HX10.out)
          clear hB11
          go_wp2_with fail
          refine (HHO'.out _ HB11.out).mono ?_
          rintro r w12 ⟨rfl, hB12⟩
          have HB12 : Hid (Below w8.heap.size w8 w12) := HB11.out.trans (hB12.mono HB11.out.size)
          clear hB12
          go_wp2
          exact HEND'.out w12 HB12.out
        | true =>
          simp only [if_true]
          go_wp2_with (go_at_call 13; refine (num_any _ _).mono ?_; rintro r w' ⟨rfl, hw⟩; subst w')
          obtain ⟨S8, hL8⟩ := HAF.out.lg
          have HL8 : Hid (Lg w1.heap.size S8 _ b _) := hL8
          clear hL8
          refine (Marks_any HL8.out).mono ?_
          rintro r w9 ⟨rfl, hB9⟩
          have HX9 := (hB9.block _ (Array.getElem?_eq_some_iff.1 HAF.out.was).1).trans HAF.out.was
          have hz9 : w4.heap.size < w9.heap.size := (Array.getElem?_eq_some_iff.1 HX9).1
          have hqg : Q.g = on := (by rw [HQE.out] <;> exact (by unfold rsP; rw [hY]; rfl))
          have hO1 := HAF.out.kp.c
          have hO2 := HAF.out.kp.g
          have hO3 := HAF.out.kp.a
          have HOR := fun X (hX : Below w8.heap.size w8 X) => ordered_any (HL8.out.below hX)
          have HHO := fun X (hX : Below w8.heap.size w8 X) => holds_any (HL8.out.below hX) oa7 oc7 es7 w8.heap.size (HAF.out.at_.below hX) hX.size (HAF.out.kp.hol HOK.out HSY7.out) HL7.out
          have HEND := fun X (hX : Below w8.heap.size w8 X) => HNX.out Q X (Nat.le_trans HAF.out.sz hX.size) ⟨_, HL8.out.below hX⟩ (HAF.out.bel.trans (hX.mono HAF.out.bel.size))
          have HOR' : Hid _ := HOR
          have HHO' : Hid _ := HHO
          have HEND' : Hid _ := HEND
          have HB9 : Hid (Below w8.heap.size w8 w9) := hB9
          clear hB9 HOR HHO HEND HAF
          generalize Q.h = qh at *
          generalize Q.s = qs at *
          generalize Q.c = qc at *
          generalize hqq : Q.g = qg at *
          clear hqq
          subst hqg
          generalize Q.a = qa at *
          obtain ⟨W10, hW10⟩ : ∃ W10, w9.alloc (.cells #[.int .i64 qh, .int .i64 qs, .int .i64 qc, .int .i64 (qg), .int .i64 qa] 55) = W10 := ⟨_, rfl⟩
          have HW10 : Hid (w9.alloc (.cells #[.int .i64 qh, .int .i64 qs, .int .i64 qc, .int .i64 (qg), .int .i64 qa] 55) = W10) := hW10
          have HB10 : Hid (Below w8.heap.size w8 W10) := by show Below _ _ _; rw [← hW10]; exact HB9.out.alloc HB9.out.size _
          have hx10 : W10.heap[w9.heap.size]? = some (.cells #[.int .i64 qh, .int .i64 qs, .int .i64 qc, .int .i64 (qg), .int .i64 qa] 55 (0, 0)) := by rw [← hW10]; exact heap_alloc_new w9 _
          obtain ⟨⟨p0, p1, p2, p3, p4⟩, -⟩ := cells5 HX9
          have HX10 : Hid (W10.heap[w9.heap.size]? = _) := hx10
          clear hW10 hx10 HX9
          go_wp2_with fail
          rw [HW10.out]
          refine (HOR'.out _ HB10.out).mono ?_
          rintro r w11 ⟨rfl, hB11⟩
          have HB11 : Hid (Below w8.heap.size w8 w11) := HB10.out.trans (hB11.mono HB10.out.size)
          obtain ⟨⟨t0, t1, t2, t3, t4⟩, -⟩ := cells5 ((hB11.block _ (Array.getElem?_eq_some_iff.1 HX10.out).1).trans HX10.out)
          clear hB11
          go_wp2_with fail
          refine (HHO'.out _ HB11.out).mono ?_
          rintro r w12 ⟨rfl, hB12⟩
          have HB12 : Hid (Below w8.heap.size w8 w12) := HB11.out.trans (hB12.mono HB11.out.size)
          clear hB12
          go_wp2
          exact HEND'.out w12 HB12.out
      · as_aux_lemma =>
        have b0 : (okd == 0) = false := by simpa using hk0
        have b1 : (okd == 1) = false := by simpa using hk1
        have b2 : (okd == 2) = false := by simpa using hk2
        have b3 : (okd == 3) = false := by simpa using hk3
        have b4 : (okd == 4) = false := by simpa using hk4
        have b5 : (okd == 5) = false := by simpa using hk5
        have b6 : (okd == 6) = false := by simpa using hk6
        have b7 : (okd == 7) = false := by simpa using hk7
        have b8 : (okd == 8) = false := by simpa using hk8
        obtain ⟨Q, HQE⟩ : ∃ Q : PL, Hid (Q = P) := ⟨_, rfl⟩
        have HAF : Hid (Aft w1.heap.size w b P Q oa7 es7 w4.heap.size wr.heap.size w7) := by show Aft _ _ _ _ _ _ _ _ _ _; rw [HQE.out]; exact HAFT.out w7 P (HLg7.out.th HN7.out (Below.refl _ _)) (Kp.refl HOK.out)
        clear HAFT
        go_wp2_with fail
        obtain ⟨S8, hL8⟩ := HAF.out.lg
        have HL8 : Hid (Lg w1.heap.size S8 _ b _) := hL8
        clear hL8
        refine (Marks_any HL8.out).mono ?_
        rintro r w9 ⟨rfl, hB9⟩
        have HX9 := (hB9.block _ (Array.getElem?_eq_some_iff.1 HAF.out.was).1).trans HAF.out.was
        have hz9 : w4.heap.size < w9.heap.size := (Array.getElem?_eq_some_iff.1 HX9).1
        have hqg : Q.g = P.g := (by rw [HQE.out] <;> exact rfl)
        have hO1 := HAF.out.kp.c
        have hO2 := HAF.out.kp.g
        have hO3 := HAF.out.kp.a
        have HOR := fun X (hX : Below w7.heap.size w7 X) => ordered_any (HL8.out.below hX)
        have HHO := fun X (hX : Below w7.heap.size w7 X) => holds_any (HL8.out.below hX) oa7 oc7 es7 w7.heap.size (HAF.out.at_.below hX) hX.size (HAF.out.kp.hol HOK.out HSY7.out) HL7.out
        have HEND := fun X (hX : Below w7.heap.size w7 X) => HNX.out Q X (Nat.le_trans HAF.out.sz hX.size) ⟨_, HL8.out.below hX⟩ (HAF.out.bel.trans (hX.mono HAF.out.bel.size))
        have HOR' : Hid _ := HOR
        have HHO' : Hid _ := HHO
        have HEND' : Hid _ := HEND
        have HB9 : Hid (Below w7.heap.size w7 w9) := hB9
        clear hB9 HOR HHO HEND HAF
        generalize Q.h = qh at *
        generalize Q.s = qs at *
        generalize Q.c = qc at *
        generalize hqq : Q.g = qg at *
        clear hqq
        subst hqg
        generalize Q.a = qa at *
        obtain ⟨W10, hW10⟩ : ∃ W10, w9.alloc (.cells #[.int .i64 qh, .int .i64 qs, .int .i64 qc, .int .i64 (P.g), .int .i64 qa] 55) = W10 := ⟨_, rfl⟩
        have HW10 : Hid (w9.alloc (.cells #[.int .i64 qh, .int .i64 qs, .int .i64 qc, .int .i64 (P.g), .int .i64 qa] 55) = W10) := hW10
        have HB10 : Hid (Below w7.heap.size w7 W10) := by show Below _ _ _; rw [← hW10]; exact HB9.out.alloc HB9.out.size _
        have hx10 : W10.heap[w9.heap.size]? = some (.cells #[.int .i64 qh, .int .i64 qs, .int .i64 qc, .int .i64 (P.g), .int .i64 qa] 55 (0, 0)) := by rw [← hW10]; exact heap_alloc_new w9 _
        obtain ⟨⟨p0, p1, p2, p3, p4⟩, -⟩ := cells5 HX9
        have HX10 : Hid (W10.heap[w9.heap.size]? = _) := hx10
        clear hW10 hx10 HX9
        go_wp2_with fail
        rw [HW10.out]
        refine (HOR'.out _ HB10.out).mono ?_
        rintro r w11 ⟨rfl, hB11⟩
        have HB11 : Hid (Below w7.heap.size w7 w11) := HB10.out.trans (hB11.mono HB10.out.size)
        obtain ⟨⟨t0, t1, t2, t3, t4⟩, -⟩ := cells5 ((hB11.block _ (Array.getElem?_eq_some_iff.1 HX10.out).1).trans HX10.out)
        clear hB11
        go_wp2_with fail
        refine (HHO'.out _ HB11.out).mono ?_
        rintro r w12 ⟨rfl, hB12⟩
        have HB12 : Hid (Below w7.heap.size w7 w12) := HB11.out.trans (hB12.mono HB11.out.size)
        clear hB12
        go_wp2
        exact HEND'.out w12 HB12.out
    · have hkn : k = l.length := by omega
      go_wp2
      go_ret
      exact ⟨rfl, HB.out⟩

theorem logOrder_in (w : World) {ea : Option Addr} {ec : Nat} (es : List Opn) (s : OpsAt w.heap.size w ea es ∧ es.length ≤ ec ∧ ec ≤ maxLen) :
    Calls Try.prog 6 #[.slice ea es.length ec] w fun e w' => e = .returned (.bool true) ∧ Below w.heap.size w w' :=
  order_walk w.heap.size ea ec es w s.1 (Nat.le_refl _) (by have h1 := s.2.1; have h2 := s.2.2; unfold maxLen at h2; omega)
end Go.Proofs.Yteekpfgjpdopmaa
