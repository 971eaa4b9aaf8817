/-
  LogHands: the walk.
-/
import Derived.Test.YteekpfgjpdopmaaHm
import Derived.Test.YteekpfgjpdopmaaRc
import Derived.Test.YteekpfgjpdopmaaRb
import Derived.Test.YteekpfgjpdopmaaFw
namespace Go.Proofs.Yteekpfgjpdopmaa
open Go.RowKit
set_option linter.unusedVariables false

/-- What holds between two operations. -/
def HR (N : Nat) (w : World) (b : Nat) (l : List Opn) (k : Nat) (tv : Value) (wr : World) : Prop :=
  ∃ (P : PL) (S : Nat → Prop) (ts : List Ent), k ≤ l.length ∧ Lg N S wr b P ∧ Apt S wr tv ts ∧ HI P (ts.map Ent.says) ∧ Below w.heap.size w wr

theorem HR.th {N : Nat} {S : Nat → Prop} {w W3 w4 : World} {b : Nat} {l : List Opn} {k : Nat} {tv : Value} {P : PL} {ts : List Ent} (hk : k ≤ l.length) (hN : N ≤ W3.heap.size) (hw : w.heap.size ≤ N) (hB : Below w.heap.size w W3) (hA : Apt S W3 tv ts) (hT : LTh N S W3 w4 b P) (hI : HI P (ts.map Ent.says)) : HR N w b l k tv w4 :=
  ⟨P, _, ts, hk, hT.q, hA.out hT.out, hI, hB.trans ((hT.bel hN).mono hw)⟩

set_option maxRecDepth 100000 in
set_option maxHeartbeats 8000000 in
theorem hands_walk (N : Nat) (oa : Option Addr) (oc : Nat) (l : List Opn) (w : World) (hO : OpsAt N w oa l) (hN : N ≤ w.heap.size) (hl : l.length ≤ 9223372036854775807) :
    Calls Try.prog 8 #[.slice oa l.length oc] w fun e w' => e = .returned (.bool true) ∧ Below w.heap.size w w' := by
  have hf := first_any w
  have HO : Hid (OpsAt N w oa l) := hO
  clear hO
  go_enter Try.func8, Try.ntmps8
  go_wp2_with fail
  refine hf.mono ?_
  rintro e w1 ⟨rfl, hB1⟩
  have HB1 : Hid (Below w.heap.size w w1) := hB1
  clear hB1 hf
  go_wp2_with fail
  refine (few_any oa oc l N w1 (HO.out.below (HB1.out.mono hN)) (Nat.le_trans hN HB1.out.size) hl).mono ?_
  rintro e w' ⟨sm, rfl, hsm, hw⟩
  subst w'
  have HSM : Hid (Few l sm) := hsm
  clear hsm
  cases sm with
  | false =>
    go_wp2
    go_ret
    exact ⟨rfl, HB1.out⟩
  | true =>
  go_wp2_with fail
  refine (new_any w1).mono ?_
  rintro e w2 ⟨b, S, rfl, hL, hB2⟩
  have HL2 : Hid (Lg w1.heap.size S w2 b P0) := hL
  have HB2 : Hid (Below w.heap.size w w2) := HB1.out.trans (hB2.mono HB1.out.size)
  have hlen : l.length ≤ 300 := (HSM.out rfl).1
  have HES : Hid (∀ k, k < l.length → (l.getD k nilOpn).es.length ≤ 64) := (HSM.out rfl).2
  clear hL hB2 HSM
  go_wp2_with fail
  have HN1 : Hid (w.heap.size ≤ w1.heap.size) := HB1.out.size
  go_loopw [7, 8] (fun tv iv wr => ∃ (k : Nat), iv = .int .i64 (k : Int) ∧ w1.heap.size ≤ wr.heap.size ∧ HR w1.heap.size w b l k tv wr) (fun _ iv _ => l.length - (intOf iv).toNat)
  case atStart =>
    exact ⟨0, rfl, by have := HL2.out.inn _ HL2.out.Sb; have := HL2.out.fr _ HL2.out.Sb; omega, P0, S, [], Nat.zero_le _, HL2.out, Apt.nil _ _, HI.zero, HB2.out⟩
  case round =>
    obtain ⟨k, rfl, hz, P, S', ts, hk, hL, hA, hI, hB⟩ := hrel
    have HL : Hid (Lg w1.heap.size S' wr b P) := hL
    obtain ⟨ta, tc, rfl, ht1, ht2⟩ := hA.ow.shape
    have HA : Hid (Apt S' wr (.slice ta ts.length tc) ts) := hA
    have HI1 : Hid (HI P (ts.map Ent.says)) := hI
    have HB : Hid (Below w.heap.size w wr) := hB
    clear hL hA hI hB HL2 HB2
    by_cases hlt : k < l.length
    · obtain ⟨g, off, hoa, hgN, hop⟩ := HO.out.at hlt
      subst hoa
      have hop' := hop.below hgN (HB.out.mono hN)
      have hes := HES.out k hlt
      have HNX : Hid (∀ (tv : Value) (wn : World), wr.heap.size ≤ wn.heap.size → HR w1.heap.size w b l (k + 1) tv wn → (∃ k' : Nat, Value.int .i64 ((k : Int) + 1) = .int .i64 (k' : Int) ∧ w1.heap.size ≤ wn.heap.size ∧ HR w1.heap.size w b l k' tv wn) ∧ l.length - (intOf (Value.int .i64 ((k : Int) + 1))).toNat < l.length - (intOf (Value.int .i64 (k : Int))).toNat) := fun tv wn h1 h2 => by
        exact ⟨⟨k + 1, by simp, by omega, h2⟩, by simp [intOf]; omega⟩
      generalize l.getD k nilOpn = o at *
      obtain ⟨okd, on, otm, om, oea, oec, oes, oba, obc, obd⟩ := o
      obtain ⟨⟨c0, c1, c2, c3, c4, c5⟩, ce, cb, cec, cem⟩ := hop'
      simp only at c0 c1 c2 c3 c4 c5 ce cb cec cem hes
      have hgw : g < wr.heap.size := by have := HB.out.size; omega
      have i0 : (0 : Int) ≤ (k : Int) := by omega
      have i1 : (k : Int) < (l.length : Int) := by omega
      obtain ⟨W3, hW3⟩ : ∃ W3, wr.alloc (.cells #[.int .i64 okd, .int .i64 on, .int .i64 otm, .int .i64 om, .slice oea oes.length oec, .slice oba obd.length obc] 37) = W3 := ⟨_, rfl⟩
      have HW3 : Hid (wr.alloc (.cells #[.int .i64 okd, .int .i64 on, .int .i64 otm, .int .i64 om, .slice oea oes.length oec, .slice oba obd.length obc] 37) = W3) := hW3
      have HB3 : Hid (Below wr.heap.size wr W3) := by show Below _ _ _; rw [← hW3]; exact (Below.refl _ wr).alloc (Nat.le_refl _) _
      have HZ3 : Hid (W3.heap.size = wr.heap.size + 1) := by show _ = _; rw [← hW3]; simp
      have hx3 : W3.heap[wr.heap.size]? = some (.cells #[.int .i64 okd, .int .i64 on, .int .i64 otm, .int .i64 om, .slice oea oes.length oec, .slice oba obd.length obc] 37 (0, 0)) := by rw [← hW3]; exact heap_alloc_new wr _
      have HX3 : Hid (W3.heap[wr.heap.size]? = _) := hx3
      have HCE : Hid (EntsAt N wr oea oes) := ce
      have HCB : Hid (Sl N wr (.slice oba obd.length obc) obd) := cb
      have HEC : Hid (oes.length ≤ oec ∧ oec ≤ maxLen) := ⟨cec, cem⟩
      have HL3 : Hid (Lg w1.heap.size S' W3 b P) := HL.out.below HB3.out
      have HA3 : Hid (Apt S' W3 (.slice ta ts.length tc) ts) := HA.out.below HB3.out
      have HBW3 : Hid (Below w.heap.size w W3) := HB.out.trans (HB3.out.mono HB.out.size)
      have HZW3 : Hid (w1.heap.size ≤ W3.heap.size) := by show _ ≤ _; rw [HZ3.out]; omega
      have HKL : Hid (k + 1 ≤ l.length) := hlt
      obtain ⟨x0, x1, x2, x3, x4, x5⟩ : W3.cell? ⟨wr.heap.size, 0, none⟩ = some (.int .i64 okd) ∧ W3.cell? ⟨wr.heap.size, 1, none⟩ = some (.int .i64 on) ∧ W3.cell? ⟨wr.heap.size, 2, none⟩ = some (.int .i64 otm) ∧ W3.cell? ⟨wr.heap.size, 3, none⟩ = some (.int .i64 om) ∧ W3.cell? ⟨wr.heap.size, 4, none⟩ = some (.slice oea oes.length oec) ∧ W3.cell? ⟨wr.heap.size, 5, none⟩ = some (.slice oba obd.length obc) := by
        refine ⟨?_, ?_, ?_, ?_, ?_, ?_⟩
        all_goals (simp only [World.cell?, hx3]; rfl)
      clear hop ce cb cec cem hx3 hW3 HO HES
      by_cases hk0 : okd = 0
      · subst hk0
        go_wp2_with fail
        rw [HW3.out]
        go_wp2_with fail
        refine (Append_any HL3.out HZW3.out otm om oba obd obc N (HCB.out.below (HB3.out.mono (Nat.le_trans hN HB.out.size))) (Nat.le_trans hN HBW3.out.size)).mono ?_
        rintro r w4 ⟨rfl, hT⟩
        have HT : Hid (LTh _ _ _ _ _ _) := hT
        clear hT
        go_wp2
        exact HNX.out _ w4 (by have := HT.out.out.size; have := HZ3.out; omega) (HR.th HKL.out HZW3.out HN1.out HBW3.out HA3.out HT.out (HI1.out.ap HL.out.ok _ _ _))
      by_cases hk1 : okd = 1
      · subst hk1
        go_wp2_with fail
        rw [HW3.out]
        go_wp2_with fail
        refine (may_any on otm oea oec oes N W3 (HCE.out.below (HB3.out.mono (Nat.le_trans hN HB.out.size))) (Nat.le_trans hN HBW3.out.size) (by omega)).mono ?_
        rintro r w4 ⟨rfl, hB4⟩
        have HB4 : Hid (Below W3.heap.size W3 w4) := hB4
        clear hB4
        have HX4 : Hid (w4.heap[wr.heap.size]? = _) := (HB4.out.block _ (by have := HZ3.out; omega)).trans HX3.out
        obtain ⟨y0, y1, y2, y3, y4, y5⟩ : w4.cell? ⟨wr.heap.size, 0, none⟩ = some (.int .i64 1) ∧ w4.cell? ⟨wr.heap.size, 1, none⟩ = some (.int .i64 on) ∧ w4.cell? ⟨wr.heap.size, 2, none⟩ = some (.int .i64 otm) ∧ w4.cell? ⟨wr.heap.size, 3, none⟩ = some (.int .i64 om) ∧ w4.cell? ⟨wr.heap.size, 4, none⟩ = some (.slice oea oes.length oec) ∧ w4.cell? ⟨wr.heap.size, 5, none⟩ = some (.slice oba obd.length obc) := by
          have hx3 := HX4.out
          refine ⟨?_, ?_, ?_, ?_, ?_, ?_⟩
          all_goals (simp only [World.cell?, hx3]; rfl)
        have HL4 : Hid (Lg w1.heap.size S' w4 b P) := HL3.out.below HB4.out
        have HA4 : Hid (Apt S' w4 (.slice ta ts.length tc) ts) := HA3.out.below HB4.out
        have HBW4 : Hid (Below w.heap.size w w4) := HBW3.out.trans (HB4.out.mono HBW3.out.size)
        have HZW4 : Hid (w1.heap.size ≤ w4.heap.size) := Nat.le_trans HZW3.out HB4.out.size
        have HZ4 : Hid (wr.heap.size ≤ w4.heap.size) := by show _ ≤ _; have := HB4.out.size; have := HZ3.out; omega
        have HE4 : Hid (EntsAt N w4 oea oes) := HCE.out.below ((HB3.out.trans (HB4.out.mono HB3.out.size)).mono (Nat.le_trans hN HB.out.size))
        cases mayB on otm oes with
        | false =>
          go_wp2
          exact HNX.out _ w4 HZ4.out ⟨P, S', ts, HKL.out, HL4.out, HA4.out, HI1.out, HBW4.out⟩
        | true =>
          have hSt : Sta S' w4 oea oes := HE4.out.sta (N := 0) (Nat.le_trans hN HBW4.out.size) (fun j hj hlt => by have := HL4.out.fr j hj; have := HN1.out; omega)
          have htry := Try_any HL4.out HZW4.out on otm om oea oec oes hSt (by omega) HEC.out.1 HEC.out.2
          have HTR : Hid (Calls _ _ _ _ _) := htry
          clear htry hSt
          go_wp2_with fail
          refine HTR.out.mono ?_
          rintro r w5 ⟨rfl, hT⟩
          have HT : Hid (LTh _ _ _ _ _ _) := hT
          clear hT
          go_wp2
          exact HNX.out _ w5 (Nat.le_trans HZ4.out HT.out.out.size) (HR.th HKL.out HZW4.out HN1.out HBW4.out HA4.out HT.out (HI1.out.tr HL.out.ok _ _ _ _))
      by_cases hk3 : okd = 3
      · subst hk3
        go_wp2_with fail
        rw [HW3.out]
        go_wp2_with fail
        refine (Hand_any HL3.out HZW3.out).mono ?_
        rintro r w4 ⟨nv, ns, rfl, hO4, hsy4, hK4⟩
        obtain ⟨na, nc, rfl, hn1, hn2⟩ := hO4.shape
        have HP4 : Hid (Apt S' w4 (.slice na ns.length nc) ns) := Apt.new hO4 HL3.out.inn
        have HSY4 : Hid (ns.map Ent.says = haE P) := hsy4
        have HL4 : Hid (Lg w1.heap.size S' w4 b (haP P)) := hK4.q
        have HA4 : Hid (Apt S' w4 (.slice ta ts.length tc) ts) := HA3.out.keep hK4.out
        have HBW4 : Hid (Below w.heap.size w w4) := HBW3.out.trans ((hK4.bel HZW3.out).mono HN1.out)
        have HZ4 : Hid (wr.heap.size ≤ w4.heap.size) := by show _ ≤ _; have := hK4.out.size; have := HZ3.out; omega
        have hnl : ns.length ≤ 10000 := by
          have h1 := congrArg List.length HSY4.out
          have h2 := haE_len HL.out.ok HI1.out.bi
          have h3 := HL.out.ok.len
          simp at h1
          omega
        clear hO4 hsy4 hK4
        obtain ⟨wo, rfl⟩ : ∃ wo, wo = wr := ⟨wr, rfl⟩
        go_wp2_with fail
        go_loopw [7, 11] (fun tv kv wq => ∃ (j : Nat) (us : List Ent), kv = .int .i64 (j : Int) ∧ j ≤ ns.length ∧ Apt S' wq tv us ∧ HK P (ts.map Ent.says) j (us.map Ent.says) ∧ Below w4.heap.size w4 wq) (fun _ kv _ => ns.length - (intOf kv).toNat)
        case atStart => exact ⟨0, ts, rfl, Nat.zero_le _, HA4.out, .inl ⟨rfl, rfl⟩, Below.refl _ _⟩
        case round =>
          obtain ⟨j, us, rfl, hj, hU, hHK, hBq⟩ := hrel
          obtain ⟨ua, uc, rfl, hu1, hu2⟩ := hU.ow.shape
          have HU : Hid (Apt S' wr (.slice ua us.length uc) us) := hU
          have HHK : Hid (HK P (ts.map Ent.says) j (us.map Ent.says)) := hHK
          have HBQ : Hid (Below w4.heap.size w4 wr) := hBq
          clear hU hHK hBq
          by_cases hjl : j < ns.length
          · have hjh : j < (haE P).length := by have := congrArg List.length HSY4.out; simp at this; omega
            obtain ⟨hg1, hg2, hg3⟩ := haE_get HL.out.ok HI1.out.bi hjh
            have hPN := HP4.out.below HBQ.out
            obtain ⟨nb, no, hna, hnb, he⟩ := (EntsOw.at (es := ns) hPN.ow).at hjl
            subst hna
            have hsy : (ns.getD j nilEnt).says = P.E.getD (P.h.toNat + j) nilEn := by rw [← says_getD, HSY4.out]; exact hg1
            have hix : (ns.getD j nilEnt).i = ((P.h.toNat + j : Nat) : Int) + 1 := by
              have h1 : eI (ns.getD j nilEnt).says = P.h + (j : Int) + 1 := by rw [← says_getD, HSY4.out]; exact hg2
              have h2 : eI (ns.getD j nilEnt).says = (ns.getD j nilEnt).i := rfl
              have h3 := HL.out.ok.h0
              have h4 := HI1.out.bi
              omega
            have hmem : ns.getD j nilEnt ∈ ns := by rw [List.getD_eq_getElem?_getD, List.getElem?_eq_getElem hjl]; exact List.getElem_mem hjl
            have hml : P.h.toNat + j ≤ us.length := by have := HHK.out.le HL.out.ok HI1.out (by omega); simpa using this
            have HNK : Hid (HK P (ts.map Ent.says) (j + 1) ((us.map Ent.says).take (P.h.toNat + j) ++ [P.E.getD (P.h.toNat + j) nilEn])) := HHK.out.next HI1.out hg3
            have HOE : Hid (Ow 0 wr (ns.getD j nilEnt).x (ns.getD j nilEnt).d ∧ ∀ g, (ns.getD j nilEnt).x.ownBlock = some g → ¬ S' g) := ⟨hPN.ow.dat _ hmem, hPN.dat _ hmem⟩
            have hm10 : P.h.toNat + j ≤ 10000 := by have := HL.out.ok.len; omega
            have HUS : Hid ((∀ e ∈ us, e.d.length ≤ 1000000000) ∧ us.length ≤ 10000) := by
              obtain ⟨h1, h2⟩ := HHK.out.sm HL.out.ok HI1.out
              refine ⟨fun e he => ?_, by simpa using h2⟩
              have := h1 e.says (List.mem_map.2 ⟨e, he, rfl⟩)
              have h3 : (eD e.says).length = e.d.length := rfl
              omega
            generalize P.h.toNat + j = m at *
            generalize P.E.getD m nilEn = en at *
            generalize ns.getD j nilEnt = e at *
            obtain ⟨et, ei, ek, eaa, ecc, ed⟩ := e
            obtain ⟨z0, z1, z2, z3, z4⟩ := he
            unfold Ent.x at z3 z4
            simp only at z0 z1 z2 z3 z4 hix
            subst hix
            generalize hq : (m : Int) + 1 = q at *
            have HEN : Hid ((⟨et, q, ek, eaa, ecc, ed⟩ : Ent).says = en) := hsy
            have hu3 : (m : Int) ≤ (us.length : Int) := by omega
            have hu0 : (0 : Int) ≤ (m : Int) := by omega
            have j0 : (0 : Int) ≤ (j : Int) := by omega
            have j1 : (j : Int) < (ns.length : Int) := by omega
            have hmw : q - 1 = (m : Int) := by omega
            have hq1 : 1 ≤ q := by omega
            have hq2 : q ≤ 10001 := by omega
            clear hq
            have hmu : m ≤ uc := by omega
            have hN4 : w4.heap.size ≤ wr.heap.size := HBQ.out.size
            have HS4 : Hid (∀ i, S' i → i < wr.heap.size) := fun i hi => by have := HL4.out.inn i hi; omega
            have hB0 : Below wr.heap.size wr wr.drew := (Below.refl _ wr).drew
            have hB1 : Below wr.heap.size wr (wr.alloc (.cells #[.int .i64 et, .int .i64 q, .int .i64 ek, .slice eaa ed.length ecc] 40)).drew := ((Below.refl _ wr).alloc (Nat.le_refl _) _).drew
            have HZC : Hid (∀ X, Below wr.heap.size wr X → (X.cell? ⟨nb, no + j * 4, none⟩ = some (.int .i64 et) ∧ X.cell? ⟨nb, no + j * 4 + 1, none⟩ = some (.int .i64 q) ∧ X.cell? ⟨nb, no + j * 4 + 2, none⟩ = some (.int .i64 ek) ∧ X.cell? ⟨nb, no + j * 4 + 3, none⟩ = some (.slice eaa ed.length ecc))) := fun X hX =>
              ⟨(hX.cell (p := ⟨nb, no + j * 4, none⟩) hnb).trans z0, (hX.cell (p := ⟨nb, no + j * 4 + 1, none⟩) hnb).trans z1, (hX.cell (p := ⟨nb, no + j * 4 + 2, none⟩) hnb).trans z2, (hX.cell (p := ⟨nb, no + j * 4 + 3, none⟩) hnb).trans z3⟩
            have HFIN : Hid (∀ (W5 : World) (v5 : Value) (gs : List Ent) (v' : Value) (w6 : World), Below wr.heap.size wr W5 → EntsOw wr.heap.size W5 v5 gs → gs.map Ent.says = (us.take m).map Ent.says → w6.ownsRow wr.heap.size 40 4 v' (gs.length + 1) (entCells gs ++ entCells [(⟨et, q, ek, eaa, ecc, ed⟩ : Ent)]) → W5.grownBy w6 v5.ownBlock → Apt S' w6 v' (gs ++ [(⟨et, q, ek, eaa, ecc, ed⟩ : Ent)]) ∧ HK P (ts.map Ent.says) (j + 1) ((gs ++ [(⟨et, q, ek, eaa, ecc, ed⟩ : Ent)]).map Ent.says) ∧ Below w4.heap.size w4 w6 ∧ Below wr.heap.size wr w6) := fun W5 v5 gs v' w6 hB5 hO5 hsy5 q1 q2 => by
              have hx : Ow 0 W5 (Value.slice eaa ed.length ecc) ed := HOE.out.1.below hB5 (Nat.le_refl _)
              have q0 : w6.ownsRow 0 40 4 v' (gs.length + [(⟨et, q, ek, eaa, ecc, ed⟩ : Ent)].length) (entCells gs ++ entCells [(⟨et, q, ek, eaa, ecc, ed⟩ : Ent)]) := ⟨q1.1, q1.2.imp id (fun ⟨g, cap, cur, hv, hg, r⟩ => ⟨g, cap, cur, hv, Nat.zero_le _, r⟩)⟩
              have hfin := EntsOw.app (fs := [(⟨et, q, ek, eaa, ecc, ed⟩ : Ent)]) (hO5.base (Nat.zero_le _)) (fun e he => by obtain rfl := List.mem_singleton.1 he; exact hx) q0 q2
              have hB6 := hB5.grown q2 hB5.size (fun i hi => (hO5.lt hi).1)
              refine ⟨⟨hfin, fun g hg hs => ?_, fun e he g hg hs => ?_⟩, ?_, ?_, hB6⟩
              · have := (q1.lt g hg).1; have := HS4.out g hs; omega
              · rcases List.mem_append.1 he with he | he
                · have := ((hO5.dat e he).lt hg).1; have := HS4.out g hs; omega
                · obtain rfl := List.mem_singleton.1 he
                  exact HOE.out.2 g hg hs
              · rw [List.map_append, hsy5, List.map_cons, List.map_nil, HEN.out, List.map_take]
                exact HNK.out
              · exact HBQ.out.trans (hB6.mono hN4)
            have HCP : Hid (∀ (a' : Option Addr) (X : World), EntsAt wr.heap.size wr a' (us.take m) → Below wr.heap.size wr X → Calls Try.prog 16 #[.slice a' m uc] X fun e w' => ∃ v gs, e = .returned v ∧ EntsOw wr.heap.size w' v gs ∧ gs.map Ent.says = (us.take m).map Ent.says ∧ Below wr.heap.size wr w' ∧ Below X.heap.size X w' ∧ gs.length = m) := fun a' X ha hX => by
              have hll : (us.take m).length = m := by simp; omega
              have := refEntries_any a' uc (us.take m) wr.heap.size X (ha.below hX) hX.size (by rw [hll]; omega) (fun e he => HUS.out.1 e (List.mem_of_mem_take he))
              rw [hll] at this
              refine this.mono ?_
              rintro e w' ⟨v, gs, rfl, ho, hsy, hB⟩
              refine ⟨v, gs, rfl, ho.base hX.size, hsy, hX.trans (hB.mono hX.size), hB, ?_⟩
              have := congrArg List.length hsy
              simp at this
              omega
            have hoe := HOE.out.1.sl (Nat.le_refl _)
            have HA1 : Hid (∀ w5, Below wr.heap.size wr w5 → EntsAt (w5.heap.size + 1) (w5.alloc (.cells #[.int .i64 et, .int .i64 q, .int .i64 ek, .slice eaa ed.length ecc] 40)) (some ⟨w5.heap.size, 0, none⟩) [(⟨et, q, ek, eaa, ecc, ed⟩ : Ent)]) := fun w5 h5 => ents_one w5 (⟨et, q, ek, eaa, ecc, ed⟩ : Ent) w5.heap.size (Nat.le_refl _) ((hoe.below h5).mono h5.size) (Nat.le_refl _)
            have HA2 : Hid (∀ w5, Below (wr.alloc (.cells #[.int .i64 et, .int .i64 q, .int .i64 ek, .slice eaa ed.length ecc] 40)).heap.size (wr.alloc (.cells #[.int .i64 et, .int .i64 q, .int .i64 ek, .slice eaa ed.length ecc] 40)) w5 → EntsAt (wr.heap.size + 1) w5 (some ⟨wr.heap.size, 0, none⟩) [(⟨et, q, ek, eaa, ecc, ed⟩ : Ent)]) := fun w5 h5 => (ents_one wr (⟨et, q, ek, eaa, ecc, ed⟩ : Ent) wr.heap.size (Nat.le_refl _) hoe (Nat.le_refl _)).below (h5.mono (by simp))
            have HUROW : Hid (EntsOw 0 wr (.slice ua us.length uc) us) := HU.out.ow
            clear hg1 hg2 hg3 hPN hsy hmem hjh z4 HHK HP4 HSY4 HOE HNK HBQ HUS hoe
            rcases HUROW.out.row.2 with ⟨hv, hz0⟩ | ⟨ub, ucap, ucur, hv, -, hub, -⟩
            · simp only [Value.slice.injEq] at hv
              obtain ⟨rfl, -, rfl⟩ := hv
              have hm0 : m = 0 := by omega
              have hq0 : q - 1 = 0 := by omega
              have HCA : Hid (∀ X, Below wr.heap.size wr X → Calls _ _ _ _ _) := fun X hX => HCP.out none X (by rw [hm0]; exact .inl (by simp)) hX
              clear HCP HUROW
              subst hm0
              clear hmw hu3 hu0 hmu
              rw [hz0]
              go_wp2_with fail
              go_region_held3 (fun w' => w'.cell? ⟨nb, no + j * 4, none⟩ = some (.int .i64 et) ∧ w'.cell? ⟨nb, no + j * 4 + 1, none⟩ = some (.int .i64 q) ∧ w'.cell? ⟨nb, no + j * 4 + 2, none⟩ = some (.int .i64 ek) ∧ w'.cell? ⟨nb, no + j * 4 + 3, none⟩ = some (.slice eaa ed.length ecc)) (go_keep)
                (first
                  | (go_at_call 16; refine (HCA.out _ (by first | exact hB0 | exact hB1)).mono ?_; rintro r w5 ⟨v5, gs, rfl, hO5, hsy5, hB5, hB5x, hgl⟩; obtain ⟨y0, y1, y2, y3⟩ := HZC.out w5 hB5; have hnb5 := Nat.lt_of_lt_of_le hnb hB5.size; have HO5 : Hid (EntsOw _ _ _ _) := hO5; have HSY5 : Hid (_ = _) := hsy5; have HB5 : Hid (Below wr.heap.size wr w5) := hB5; have HB5X : Hid (Below _ _ _) := hB5x; have hlen5 : gs.length + 1 ≤ 1000000000 := (by omega); clear hO5 hsy5 hB5 hB5x)
                  | (refine step_append_ents rfl (.tmp 102) (.tmp 107) rfl wr.heap.size (w5.heap.size + 1) v5 (some ⟨w5.heap.size, 0, none⟩) 1 gs [(⟨et, q, ek, eaa, ecc, ed⟩ : Ent)] (by simp [Act.eval]) (HO5.out.alloc _).row (by simp [Act.eval]) (HA1.out w5 HB5.out) hlen5 (Nat.le_trans HB5.out.size (by simp)) ?_; intro v' w6 q1 q2 q3; obtain ⟨f1, f2, f3, f4⟩ := HFIN.out _ v5 gs v' w6 (HB5.out.alloc HB5.out.size _) (HO5.out.alloc _) HSY5.out q1 q2; obtain ⟨u0, u1, u2, u3⟩ := HZC.out w6 f4; have F1 : Hid (Apt _ _ _ _) := f1; have F2 : Hid (HK _ _ _ _) := f2; have F3 : Hid (Below _ _ _) := f3; clear f1 f2 f3 f4 q1 q2 q3)
                  | (refine step_append_ents rfl (.tmp 102) (.tmp 107) rfl wr.heap.size (wr.heap.size + 1) v5 (some ⟨wr.heap.size, 0, none⟩) 1 gs [(⟨et, q, ek, eaa, ecc, ed⟩ : Ent)] (by simp [Act.eval]) HO5.out.row (by simp [Act.eval]) (HA2.out w5 ⟨HB5X.out.os, HB5X.out.tape, HB5X.out.output, HB5X.out.size, HB5X.out.block⟩) hlen5 HB5.out.size ?_; intro v' w6 q1 q2 q3; obtain ⟨f1, f2, f3, f4⟩ := HFIN.out _ v5 gs v' w6 HB5.out HO5.out HSY5.out q1 q2; obtain ⟨u0, u1, u2, u3⟩ := HZC.out w6 f4; have F1 : Hid (Apt _ _ _ _) := f1; have F2 : Hid (HK _ _ _ _) := f2; have F3 : Hid (Below _ _ _) := f3; clear f1 f2 f3 f4 q1 q2 q3)
                  | fail)
              all_goals (go_wp2; exact ⟨⟨j + 1, _, by simp, by omega, F1.out, F2.out, F3.out⟩, by simp [intOf]; omega⟩)
            · simp only [Value.slice.injEq] at hv
              obtain ⟨rfl, -, rfl⟩ := hv
              have HCA : Hid (∀ X, Below wr.heap.size wr X → Calls _ _ _ _ _) := fun X hX => HCP.out (some ⟨ub, 0, none⟩) X (by have := (EntsOw.at (es := us) HUROW.out).cut 0 m; simpa using this) hX
              clear HCP HUROW
              go_wp2_with fail
              go_region_held3 (fun w' => w'.cell? ⟨nb, no + j * 4, none⟩ = some (.int .i64 et) ∧ w'.cell? ⟨nb, no + j * 4 + 1, none⟩ = some (.int .i64 q) ∧ w'.cell? ⟨nb, no + j * 4 + 2, none⟩ = some (.int .i64 ek) ∧ w'.cell? ⟨nb, no + j * 4 + 3, none⟩ = some (.slice eaa ed.length ecc)) (go_keep)
                (first
                  | (go_at_call 16; refine (HCA.out _ (by first | exact hB0 | exact hB1)).mono ?_; rintro r w5 ⟨v5, gs, rfl, hO5, hsy5, hB5, hB5x, hgl⟩; obtain ⟨y0, y1, y2, y3⟩ := HZC.out w5 hB5; have hnb5 := Nat.lt_of_lt_of_le hnb hB5.size; have HO5 : Hid (EntsOw _ _ _ _) := hO5; have HSY5 : Hid (_ = _) := hsy5; have HB5 : Hid (Below wr.heap.size wr w5) := hB5; have HB5X : Hid (Below _ _ _) := hB5x; have hlen5 : gs.length + 1 ≤ 1000000000 := (by omega); clear hO5 hsy5 hB5 hB5x)
                  | (refine step_append_ents rfl (.tmp 102) (.tmp 107) rfl wr.heap.size (w5.heap.size + 1) v5 (some ⟨w5.heap.size, 0, none⟩) 1 gs [(⟨et, q, ek, eaa, ecc, ed⟩ : Ent)] (by simp [Act.eval]) (HO5.out.alloc _).row (by simp [Act.eval]) (HA1.out w5 HB5.out) hlen5 (Nat.le_trans HB5.out.size (by simp)) ?_; intro v' w6 q1 q2 q3; obtain ⟨f1, f2, f3, f4⟩ := HFIN.out _ v5 gs v' w6 (HB5.out.alloc HB5.out.size _) (HO5.out.alloc _) HSY5.out q1 q2; obtain ⟨u0, u1, u2, u3⟩ := HZC.out w6 f4; have F1 : Hid (Apt _ _ _ _) := f1; have F2 : Hid (HK _ _ _ _) := f2; have F3 : Hid (Below _ _ _) := f3; clear f1 f2 f3 f4 q1 q2 q3)
                  | (refine step_append_ents rfl (.tmp 102) (.tmp 107) rfl wr.heap.size (wr.heap.size + 1) v5 (some ⟨wr.heap.size, 0, none⟩) 1 gs [(⟨et, q, ek, eaa, ecc, ed⟩ : Ent)] (by simp [Act.eval]) HO5.out.row (by simp [Act.eval]) (HA2.out w5 ⟨HB5X.out.os, HB5X.out.tape, HB5X.out.output, HB5X.out.size, HB5X.out.block⟩) hlen5 HB5.out.size ?_; intro v' w6 q1 q2 q3; obtain ⟨f1, f2, f3, f4⟩ := HFIN.out _ v5 gs v' w6 HB5.out HO5.out HSY5.out q1 q2; obtain ⟨u0, u1, u2, u3⟩ := HZC.out w6 f4; have F1 : Hid (Apt _ _ _ _) := f1; have F2 : Hid (HK _ _ _ _) := f2; have F3 : Hid (Below _ _ _) := f3; clear f1 f2 f3 f4 q1 q2 q3)
                  | fail)
              all_goals (go_wp2; exact ⟨⟨j + 1, _, by simp, by omega, F1.out, F2.out, F3.out⟩, by simp [intOf]; omega⟩)
          · have hjn : j = ns.length := by omega
            have hfin : us.map Ent.says = P.E := HHK.out.fin HL.out.ok HI1.out (by
              have h1 := haE_len HL.out.ok HI1.out.bi
              have h2 := congrArg List.length HSY4.out
              simp at h2
              omega)
            have hul : us.length = P.E.length := by rw [← hfin]; simp
            have HFI : Hid (us.map Ent.says = P.E) := hfin
            have HLI : Hid ((haP P).li = (us.length : Int)) := by show P.bi + (P.E.length : Int) = _; have := HI1.out.bi; omega
            have HLQ : Hid (Lg w1.heap.size S' wr b (haP P)) := HL4.out.below HBQ.out
            have HUL : Hid (us.length ≤ 10000) := by show _ ≤ _; rw [hul]; exact HL.out.ok.len
            have hlast := Last_any HLQ.out
            rw [HLI.out] at hlast
            have HLST : Hid (Calls _ _ _ _ _) := hlast
            clear hfin hul hlast HHK HA4 HP4
            go_wp2_with fail
            refine HLST.out.mono ?_
            rintro r w7 ⟨rfl, hB7⟩
            have HB7 : Hid (Below wr.heap.size wr w7) := hB7
            clear hB7 HLST
            go_wp2_with fail
            refine (Entries_any (HLQ.out.below HB7.out) 1 10000).mono ?_
            rintro r w8 ⟨v8, f8, rfl, hO8, hsy8, hB8⟩
            obtain ⟨a8, c8, rfl, -, -⟩ := hO8.shape
            have HB8 : Hid (Below wr.heap.size wr w8) := HB7.out.trans (hB8.mono HB7.out.size)
            have hsame := sameEntries_any ua a8 uc c8 us f8 w8.heap.size w8 (HU.out.ow.below HB8.out).at hO8.at (Nat.le_refl _) (by have := HUL.out; omega)
            rw [decide_eq_true (by rw [HFI.out, hsy8, all_of (haP_ok HL.out.ok) HI1.out.bi]; rfl)] at hsame
            have HSAM : Hid (Calls _ _ _ _ _) := hsame
            clear hO8 hsy8 hB8 hsame
            go_wp2_with fail
            refine HSAM.out.mono ?_
            rintro r w9 ⟨rfl, hB9⟩
            have HB9 : Hid (Below wr.heap.size wr w9) := HB8.out.trans (hB9.mono HB8.out.size)
            clear hB9 HSAM
            go_wp2
            exact HNX.out _ w9 (Nat.le_trans HZ4.out (Nat.le_trans HBQ.out.size HB9.out.size)) ⟨haP P, S', us, HKL.out, HLQ.out.below HB9.out, HU.out.below HB9.out, by rw [HFI.out]; exact HI1.out.ha HL.out.ok, HBW4.out.trans ((HBQ.out.trans (HB9.out.mono HBQ.out.size)).mono HBW4.out.size)⟩
      · have b0 : (okd == 0) = false := by simpa using hk0
        have b1 : (okd == 1) = false := by simpa using hk1
        have b3 : (okd == 3) = false := by simpa using hk3
        go_wp2_with fail
        rw [HW3.out]
        go_wp2_with fail
        exact HNX.out _ W3 HB3.out.size ⟨P, S', ts, HKL.out, HL3.out, HA3.out, HI1.out, HBW3.out⟩
    · have hkn : k = l.length := by omega
      go_wp2
      go_ret
      exact ⟨rfl, HB.out⟩
theorem logHands_in (w : World) {ea : Option Addr} {ec : Nat} (es : List Opn) (s : OpsAt w.heap.size w ea es ∧ es.length ≤ ec ∧ ec ≤ maxLen) :
    Calls Try.prog 8 #[.slice ea es.length ec] w fun e w' => e = .returned (.bool true) ∧ Below w.heap.size w w' :=
  hands_walk w.heap.size ea ec es w s.1 (Nat.le_refl _) (by have h1 := s.2.1; have h2 := s.2.2; unfold maxLen at h2; omega)
end Go.Proofs.Yteekpfgjpdopmaa
