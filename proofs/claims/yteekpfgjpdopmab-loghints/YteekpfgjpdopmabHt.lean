/-
  LogHints: the walk.
-/
import Derived.Test.YteekpfgjpdopmabHp
namespace Go.Proofs.Yteekpfgjpdopmab
open Go.RowKit
set_option linter.unusedVariables false

set_option maxRecDepth 100000 in
set_option maxHeartbeats 8000000 in
theorem hints_walk (N : Nat) (va vb : Value) (la lb : List Int) (ix : Int) (w : World) (ha : ISl N w va la) (hb : ISl N w vb lb) (hN : N ≤ w.heap.size) :
    Calls Try.prog 4 #[va, vb, .int .i64 ix] w fun e w' => e = .returned (.bool true) ∧ Below w.heap.size w w' := by
  obtain ⟨aa, ca, rfl, -⟩ := id ha
  obtain ⟨ab, cb, rfl, -⟩ := id hb
  have hf := first_any w
  by_cases h1 : 200 < la.length
  · have h1' : (200 : Int) < (la.length : Int) := by omega
    clear ha hb
    go_enter Try.func4, Try.ntmps4
    go_wp2_with (go_at_call 6; refine hf.mono ?_; rintro e w1 ⟨rfl, hB1⟩)
    go_ret
    exact ⟨rfl, hB1⟩
  by_cases h2 : 200 < lb.length
  · have h1' : (la.length : Int) ≤ 200 := by omega
    have h2' : (200 : Int) < (lb.length : Int) := by omega
    clear ha hb
    go_enter Try.func4, Try.ntmps4
    go_wp2_with (go_at_call 6; refine hf.mono ?_; rintro e w1 ⟨rfl, hB1⟩)
    go_ret
    exact ⟨rfl, hB1⟩
  by_cases h3 : la.length = 0
  · have h1' : (la.length : Int) ≤ 200 := by omega
    have h2' : (lb.length : Int) ≤ 200 := by omega
    have h3' : ((la.length : Int) == 0) = true := beq_iff_eq.2 (by omega)
    clear ha hb h3
    go_enter Try.func4, Try.ntmps4
    go_wp2_with (go_at_call 6; refine hf.mono ?_; rintro e w1 ⟨rfl, hB1⟩)
    go_ret
    exact ⟨rfl, hB1⟩
  have h1' : (la.length : Int) ≤ 200 := by omega
  have h2' : (lb.length : Int) ≤ 200 := by omega
  have h3' : ((la.length : Int) == 0) = false := beq_eq_false_iff_ne.2 (by omega)
  have HA : Hid (ISl N w (.slice aa la.length ca) la) := ha
  have HBB : Hid (ISl N w (.slice ab lb.length cb) lb) := hb
  obtain ⟨x, y, R, e1, e2, e3, r1, r2, x1, x2, y1, y2⟩ := index_small la.length (by omega) (by omega) ix
  obtain ⟨p, hp⟩ : ∃ p, risF 1 la = p := ⟨_, rfl⟩
  obtain ⟨q, hq⟩ : ∃ q, risF 1 lb = q := ⟨_, rfl⟩
  have hpl : p.length = la.length := by rw [← hp]; exact risF_length _ _
  have hql : q.length = lb.length := by rw [← hq]; exact risF_length _ _
  have HUP : Hid (Up 1 p) := by show Up 1 p; rw [← hp]; exact Up_risF la 1 (by omega) (by omega)
  have hspec := blt_spec q P0 rfl (by simp [P0]; omega) (by rw [← hq]; exact (Up_risF lb 1 (by omega) (by omega)).weak (by decide))
  obtain ⟨Q, hQ⟩ : ∃ Q, blt P0 q = Q := ⟨_, rfl⟩
  rw [hQ] at hspec
  have HS : Hid (Q.bi = 0 ∧ Q.E.map eT = q) := hspec
  have HLA : Hid (p.length = la.length) := hpl
  have HLB : Hid (q.length = lb.length) := hql
  have HP : Hid (risF 1 la = p) := hp
  have HQ : Hid (risF 1 lb = q) := hq
  have HQQ : Hid (blt P0 q = Q) := hQ
  have HIX : Hid (y + 1 = (R : Int)) := e3
  have HE1 : Hid (ix.tmod (la.length : Int) = x) := e1
  have HE2 : Hid ((x + (la.length : Int)).tmod (la.length : Int) = y) := e2
  have hq1000 : q.length ≤ 1000 := by omega
  have hla1000 : la.length ≤ 1000 := by omega
  have hlb1000 : lb.length ≤ 1000 := by omega
  clear ha hb hspec hpl hql hp hq hQ e1 e2 e3 h1 h2 h3
  go_enter Try.func4, Try.ntmps4
  go_wp2_with fail
  refine hf.mono ?_
  rintro e w1 ⟨rfl, hB1⟩
  have HB1 : Hid (Below w.heap.size w w1) := hB1
  clear hB1 hf
  go_wp2_with fail
  refine (rising_any N _ la w1 (HA.out.below (HB1.out.mono hN)) (Nat.le_trans hN HB1.out.size) hla1000).mono ?_
  rintro e w2 ⟨v2, rfl, hO2, hB2⟩
  rw [HP.out] at hO2
  have HB2 : Hid (Below w.heap.size w w2) := HB1.out.trans (hB2.mono HB1.out.size)
  obtain ⟨a2, c2, rfl, -, -⟩ := hO2.shape
  have HO2 : Hid (ISl w2.heap.size w2 (.slice a2 p.length c2) p) := hO2.sl (Nat.le_refl _)
  clear hO2 hB2 HB1 HA
  go_wp2_with fail
  refine (rising_any N _ lb w2 (HBB.out.below (HB2.out.mono hN)) (Nat.le_trans hN HB2.out.size) hlb1000).mono ?_
  rintro e w3 ⟨v3, rfl, hO3, hB3⟩
  rw [HQ.out] at hO3
  obtain ⟨a3, c3, rfl, -, -⟩ := hO3.shape
  have HO3 : Hid (ISl w3.heap.size w3 (.slice a3 q.length c3) q) := hO3.sl (Nat.le_refl _)
  have HP3 : Hid (ISl w3.heap.size w3 (.slice a2 p.length c2) p) := (HO2.out.below hB3).mono hB3.size
  have HB3 : Hid (Below w.heap.size w w3) := HB2.out.trans (hB3.mono HB2.out.size)
  clear hO3 hB3 HB2 HBB HO2
  go_wp2_with fail
  refine (built_any w3.heap.size _ q w3 HO3.out (Nat.le_refl _) hq1000).mono ?_
  rintro e w4 ⟨b, S, rfl, hL, hB4⟩
  rw [HQQ.out] at hL
  have HL4 : Hid (Lg w3.heap.size S w4 b Q) := hL
  have HP4 : Hid (ISl w3.heap.size w4 (.slice a2 p.length c2) p) := HP3.out.below hB4
  have HQ4 : Hid (ISl w3.heap.size w4 (.slice a3 q.length c3) q) := HO3.out.below hB4
  have HB4 : Hid (Below w.heap.size w w4) := HB3.out.trans (hB4.mono HB3.out.size)
  have HZ4 : Hid (w3.heap.size ≤ w4.heap.size) := hB4.size
  have e1 := HE1.out
  have e2 := HE2.out
  rw [← HLA.out] at e1 e2 r2 h1' h3' x1 x2 y2
  rw [← HLB.out] at h2'
  clear hL hB4 HB3 HP3 HO3 HP HQ HQQ HE1 HE2
  generalize la.length = nla at *
  generalize lb.length = nlb at *
  obtain ⟨yn, hyn⟩ : ∃ yn : Nat, y = (yn : Int) := ⟨y.toNat, by omega⟩
  subst hyn
  have HYL : Hid (yn < p.length) := by show _ < _; omega
  have hpp : ¬ (p.length : Int) = 0 := by omega
  clear HIX r1 r2 h3'
  go_wp2_with fail
  go_loopw [11] (fun iv wr => ∃ (k n : Nat), iv = .int .i64 (k : Int) ∧ k ≤ p.length ∧ k ≤ q.length ∧ (∀ j, j < k → p[j]?.getD 0 = q[j]?.getD 0) ∧ wr = w4.drewN n) (fun iv _ => p.length - (intOf iv).toNat)
  case atStart => exact ⟨0, 0, rfl, Nat.zero_le _, Nat.zero_le _, fun j hj => by omega, rfl⟩
  case round =>
    obtain ⟨k, n, rfl, hk1, hk2, hm, hwr⟩ := hrel
    have HM : Hid (∀ j, j < k → p[j]?.getD 0 = q[j]?.getD 0) := hm
    have HWR : Hid (wr = w4.drewN n) := hwr
    have HBr : Hid (Below w.heap.size w wr) := by show Below _ _ _; rw [hwr]; exact below_drewN HB4.out n
    have HLr : Hid (Lg w3.heap.size S wr b Q) := by show Lg _ _ _ _ _; rw [hwr]; exact HL4.out.below (below_drewN (Below.refl _ _) n)
    have HPr : Hid (ISl w3.heap.size wr (.slice a2 p.length c2) p) := by show ISl _ _ _ _; rw [hwr]; exact HP4.out.below (below_drewN (Below.refl _ _) n)
    have HQr : Hid (ISl w3.heap.size wr (.slice a3 q.length c3) q) := by show ISl _ _ _ _; rw [hwr]; exact HQ4.out.below (below_drewN (Below.refl _ _) n)
    have HZr : Hid (w3.heap.size ≤ wr.heap.size) := by show _ ≤ _; rw [hwr]; exact HZ4.out
    clear hm hwr HL4 HP4 HQ4 HB4 HZ4
    -- behind the loop
    obtain ⟨_, _, heq, -, -, hcp⟩ := HPr.out
    cases heq
    obtain ⟨g, off, rfl, hg, hcp⟩ := hcp.resolve_left (by intro h; rw [h] at hpp; simp at hpp)
    have cy := hcp yn HYL.out
    have HCY : Hid (∀ m, (wr.drewN m).cell? ⟨g, off + yn, none⟩ = some (.int .i64 (p[yn]?.getD 0))) := fun m => cy
    have HHT : Hid (∀ m, Calls Try.prog 15 #[.pointer (some ⟨b, 0, none⟩), .int .i64 ((yn : Int) + 1), .int .i64 (p[yn]?.getD 0)] (wr.drewN m) fun e w' => ∃ hv, e = .returned (.int .i64 hv) ∧ (min (k : Int) ((yn : Int) + 1) ≤ hv ∧ hv ≤ (yn : Int) + 1 ∧ hv ≤ (q.length : Int)) ∧ Below w.heap.size w w') := fun m => by
      have h1 := hint_meets HUP.out HS.out.1 HS.out.2 (i := yn + 1) (k := k) (by omega) (by have := HYL.out; omega) hk1 hk2 HM.out
      simp only [Nat.add_sub_cancel] at h1
      rw [show ((yn + 1 : Nat) : Int) = (yn : Int) + 1 by omega] at h1
      have hBm : Below wr.heap.size wr (wr.drewN m) := below_drewN (Below.refl _ _) m
      refine (Hint_any (HLr.out.below hBm) ((yn : Int) + 1) (p[yn]?.getD 0)).mono ?_
      rintro e w' ⟨rfl, hB⟩
      exact ⟨_, rfl, h1, HBr.out.trans ((hBm.mono HBr.out.size).trans (hB.mono HBr.out.size))⟩
    have i0 : (0 : Int) ≤ (yn : Int) := by omega
    have i1 : (yn : Int) < (p.length : Int) := by have := HYL.out; omega
    by_cases hlp : k < p.length
    · by_cases hlq : k < q.length
      · obtain ⟨_, _, heq, -, -, hcq⟩ := HQr.out
        cases heq
        obtain ⟨g', off', rfl, hg', hcq⟩ := hcq.resolve_left (by intro h; rw [h] at hlq; simp at hlq)
        have ck := hcp k hlp
        have cq := hcq k hlq
        have j0 : (0 : Int) ≤ (k : Int) := by omega
        have j1 : (k : Int) < (p.length : Int) := by omega
        have j2 : (k : Int) < (q.length : Int) := by omega
        have HKK : Hid (p[k]?.getD 0 = q[k]?.getD 0 → ∀ j, j < k + 1 → p[j]?.getD 0 = q[j]?.getD 0) := fun he j hj => by
          by_cases e : j = k
          · subst e; exact he
          · exact HM.out j (by omega)
        generalize p[k]?.getD 0 = pk at *
        generalize q[k]?.getD 0 = qk at *
        clear hcp hcq HPr HQr cy HUP HS HM
        by_cases he : pk = qk
        · have HK2 := HKK.out he
          have HK3 : Hid (∀ j, j < k + 1 → p[j]?.getD 0 = q[j]?.getD 0) := HK2
          subst he
          clear HK2 HKK
          go_wp2_with fail
          go_quiet (fail)
          go_wp2
          exact ⟨⟨k + 1, n + nq, by go_num, by omega, by omega, HK3.out, by rw [HWR.out]; simp⟩, by simp [intOf]; omega⟩
        · have he' : (pk == qk) = false := by simpa using he
          clear he HKK
          go_wp2_with fail
          go_quiet (fail)
          have cy := HCY.out nq
          go_wp2_with fail
          refine (HHT.out nq).mono ?_
          rintro r w6 ⟨hv, rfl, ⟨v1, v2, v3⟩, hB6⟩
          by_cases hki : (k : Int) ≤ (yn : Int) + 1
          · have v1' : (k : Int) ≤ hv := by omega
            clear v1
            go_wp2
            go_ret
            exact ⟨rfl, hB6⟩
          · have v1' : (yn : Int) + 1 ≤ hv := by omega
            have hki' : (yn : Int) + 1 < (k : Int) := by omega
            clear v1 hki
            go_wp2
            go_ret
            exact ⟨rfl, hB6⟩
      · have hlq' : (q.length : Int) ≤ (k : Int) := by omega
        have j1 : (k : Int) < (p.length : Int) := by omega
        have hd : decide ((k : Int) < (q.length : Int)) = false := by simp; omega
        clear hcp HPr HQr cy HUP HS HM
        go_wp2_with fail
        go_quiet (fail)
        have cy := HCY.out nq
        go_wp2_with fail
        refine (HHT.out nq).mono ?_
        rintro r w6 ⟨hv, rfl, ⟨v1, v2, v3⟩, hB6⟩
        by_cases hki : (k : Int) ≤ (yn : Int) + 1
        · have v1' : (k : Int) ≤ hv := by omega
          clear v1
          go_wp2
          go_ret
          exact ⟨rfl, hB6⟩
        · have v1' : (yn : Int) + 1 ≤ hv := by omega
          have hki' : (yn : Int) + 1 < (k : Int) := by omega
          clear v1 hki
          go_wp2
          go_ret
          exact ⟨rfl, hB6⟩
    · have hlp' : (p.length : Int) ≤ (k : Int) := by omega
      have hd : decide ((k : Int) < (p.length : Int)) = false := by simp; omega
      clear hcp HPr HQr cy HUP HS HM
      go_wp2_with fail
      go_quiet (fail)
      have cy := HCY.out nq
      go_wp2_with fail
      refine (HHT.out nq).mono ?_
      rintro r w6 ⟨hv, rfl, ⟨v1, v2, v3⟩, hB6⟩
      by_cases hki : (k : Int) ≤ (yn : Int) + 1
      · have v1' : (k : Int) ≤ hv := by omega
        clear v1
        go_wp2
        go_ret
        exact ⟨rfl, hB6⟩
      · have v1' : (yn : Int) + 1 ≤ hv := by omega
        have hki' : (yn : Int) + 1 < (k : Int) := by omega
        clear v1 hki
        go_wp2
        go_ret
        exact ⟨rfl, hB6⟩

theorem logHints_in (w : World) {a0 : Option Addr} {n0 c0 : Nat} (x0 : List Int) (s0 : ISl w.heap.size w (.slice a0 n0 c0) x0) {a1 : Option Addr} {n1 c1 : Nat} (x1 : List Int) (s1 : ISl w.heap.size w (.slice a1 n1 c1) x1) (z : Int) {hz : Prop} (_ : hz) :
    Calls Try.prog 4 #[.slice a0 n0 c0, .slice a1 n1 c1, .int .i64 z] w fun e w' => e = .returned (.bool true) ∧ Below w.heap.size w w' :=
  hints_walk w.heap.size _ _ x0 x1 z w s0 s1 (Nat.le_refl _)
end Go.Proofs.Yteekpfgjpdopmab
