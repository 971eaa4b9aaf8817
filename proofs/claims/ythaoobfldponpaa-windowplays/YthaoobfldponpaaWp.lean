/-
  WindowPlays: the walk of the law.
-/
import Derived.Test.YthaoobfldponpaaSm
namespace Go.Proofs.Ythaoobfldponpaa
open Go.RowKit
set_option linter.unusedVariables false

/-- How many go at the front. -/
theorem free_at {L : List Int} {n : Int} {k : Nat} (hk : k ≤ L.length) (h1 : ∀ j, j < k → L[j]?.getD 0 ≤ n) (h2 : k < L.length → n < L[k]?.getD 0) : freeL L n = L.drop k := by
  unfold freeL
  induction L generalizing k with
  | nil => simp
  | cons y t ih =>
    cases k with
    | zero =>
      have := h2 (by simp)
      simp only [List.getElem?_cons_zero, Option.getD_some] at this
      rw [List.dropWhile_cons_of_neg (by simpa using this)]
      rfl
    | succ k =>
      have := h1 0 (by omega)
      simp only [List.getElem?_cons_zero, Option.getD_some] at this
      rw [List.dropWhile_cons_of_pos (by simpa using this), List.drop_succ_cons]
      exact ih (by simpa using hk) (fun j hj => by simpa using h1 (j + 1) (by omega)) (fun hj => by simpa using h2 (by simpa using hj))

set_option maxRecDepth 100000 in
set_option maxHeartbeats 20000000 in
theorem windowPlays_walk (room : Int) (hr : In64 room) (a : Option Addr) (ca : Nat) (l : List Opn) (w : World) (hl : OpsAt w.heap.size w a l) (hll : l.length ≤ 9223372036854775807) :
    Calls Try.prog 4 #[.int .i64 room, .slice a l.length ca] w fun e w' => e = .returned (.bool true) ∧ Below w.heap.size w w' := by
  have HL : Hid (OpsAt w.heap.size w a l) := hl
  clear hl hll hr
  by_cases hbad : ¬ (1 ≤ room ∧ room ≤ 64)
  · have hno : (decide (1 ≤ room) && decide (room ≤ 64)) = false := by simp; omega
    have HNO : Hid ((decide (1 ≤ room) && decide (room ≤ 64)) = false) := hno
    clear hno
    by_cases hr1 : 1 ≤ room
    · have hr2 : decide (room ≤ 64) = false := by simp; omega
      clear hbad
      go_enter Try.func4, Try.ntmps4
      go_wp2_with fail
      refine (first_any w).mono ?_
      rintro e w1 ⟨rfl, hB1⟩
      have HB1 : Hid (Below w.heap.size w w1) := hB1
      clear hB1
      go_wp2_with fail
      refine (newWindow_none room w1 HNO.out).mono ?_
      rintro e wx ⟨rfl, hwx⟩
      subst wx
      go_wp2
      go_ret
      exact ⟨rfl, HB1.out⟩
    · have hr2 : decide (1 ≤ room) = false := by simp; omega
      clear hr1 hbad
      go_enter Try.func4, Try.ntmps4
      go_wp2_with fail
      refine (first_any w).mono ?_
      rintro e w1 ⟨rfl, hB1⟩
      have HB1 : Hid (Below w.heap.size w w1) := hB1
      clear hB1
      go_wp2_with fail
      refine (newWindow_none room w1 HNO.out).mono ?_
      rintro e wx ⟨rfl, hwx⟩
      subst wx
      go_wp2
      go_ret
      exact ⟨rfl, HB1.out⟩
  have hgood : 1 ≤ room ∧ room ≤ 64 := Classical.not_not.1 hbad
  clear hbad
  obtain ⟨R, rfl⟩ : ∃ R : Nat, room = (R : Int) := ⟨room.toNat, by omega⟩
  have hR1 : 1 ≤ R := by omega
  have hR2 : R ≤ 64 := by omega
  clear hgood
  go_enter Try.func4, Try.ntmps4
  go_wp2_with fail
  refine (first_any w).mono ?_
  rintro e w1 ⟨rfl, hB1⟩
  have HB1 : Hid (Below w.heap.size w w1) := hB1
  clear hB1
  go_wp2_with fail
  refine (newWindow_any w.heap.size R w1 hR1 hR2 HB1.out.size).mono ?_
  rintro e w2 ⟨rfl, hn2, hB2⟩
  have HN2 : Hid _ := hn2
  have HB2 : Hid (Below w.heap.size w w2) := HB1.out.trans (hB2.mono HB1.out.size)
  clear hn2 hB2 HB1
  obtain ⟨d, HD⟩ : ∃ d, Hid (w1.heap.size + 1 = d) := ⟨_, rfl⟩
  rw [HD.out] at HN2 ⊢
  have hR1' : (1 : Int) ≤ (R : Int) := by omega
  have hR2' : (R : Int) ≤ 64 := by omega
  by_cases hlen : 400 < l.length
  · have hg : decide ((400 : Int) < (l.length : Int)) = true := by simp; omega
    clear hlen
    go_wp2
    go_ret
    exact ⟨rfl, HB2.out⟩
  have hg : decide ((400 : Int) < (l.length : Int)) = false := by simp; omega
  go_wp2
  go_loopw [8, 9] (fun av iv wr => ∃ (i : Nat) (S : Nat → Prop) (L : List Int) (aa : Option Addr) (ac : Nat), iv = .int .i64 (i : Int) ∧ i ≤ l.length ∧ av = .slice aa L.length ac ∧ Wo wr (.slice aa L.length ac) L ∧ (∀ g, (Value.slice aa L.length ac).ownBlock = some g → ¬ S g ∧ w.heap.size ≤ g) ∧ Wn w.heap.size S wr d R L ∧ Below w.heap.size w wr) (fun _ iv _ => l.length - (intOf iv).toNat)
  case atStart => exact ⟨0, _, [], none, 0, rfl, Nat.zero_le _, rfl, Wo.nil _, by simp [Value.ownBlock], HN2.out, HB2.out⟩
  case round =>
    obtain ⟨i, S, L, aa, ac, rfl, hi, rfl, hWo, hAp, hW, hB⟩ := hrel
    have HWO0 : Hid (Wo wr (.slice aa L.length ac) L) := hWo
    have HAP0 : Hid (∀ g, (Value.slice aa L.length ac).ownBlock = some g → ¬ S g ∧ w.heap.size ≤ g) := hAp
    have HW0 : Hid (Wn w.heap.size S wr d R L) := hW
    have HB0 : Hid (Below w.heap.size w wr) := hB
    have hLR0 := hW.len
    clear hWo hAp hW hB HN2 HB2
    generalize wr = wp at *
    by_cases hnl : l.length ≤ i
    · have hil' : decide ((i : Int) < (l.length : Int)) = false := by simp; omega
      go_wp2
      go_ret
      exact ⟨rfl, HB0.out⟩
    have hil : i < l.length := by omega
    have hil' : (i : Int) < (l.length : Int) := by omega
    obtain ⟨b0, o0, rfl, hb0, ho0⟩ := HL.out.at hil
    have HO : Hid (OpAt w b0 (o0 + i * 3) (l.getD i nilOp)) := ho0
    generalize l.getD i nilOp = op at *
    obtain ⟨kd0, n0, ln0⟩ := op
    clear ho0
    obtain ⟨⟨e0, e1, -⟩, -⟩ := HO.out.below hb0 HB0.out
    simp only at e0 e1
    by_cases hkd : kd0 = 0
    · subst hkd
      have had := add_any HW0.out HB0.out.size n0
      have HSTEP : Hid (∀ w3 L', WTh w.heap.size S wp w3 d R L' → Wn w.heap.size (grew S wp w3) w3 d R L' ∧ Wo w3 (.slice aa L.length ac) L ∧ (∀ g, (Value.slice aa L.length ac).ownBlock = some g → ¬ grew S wp w3 g ∧ w.heap.size ≤ g) ∧ Below w.heap.size w w3) := fun w3 L' t => ⟨t.q, HWO0.out.out t.out (fun g hg => (HAP0.out g hg).1), fun g hg => ⟨fun hs => hs.elim (HAP0.out g hg).1 (fun h2 => by have := HWO0.out.lt hg; omega), (HAP0.out g hg).2⟩, HB0.out.trans (t.bel HB0.out.size)⟩
      have HAPP : Hid (∀ (S3 : Nat → Prop) (w3 : World), Wo w3 (.slice aa L.length ac) L → (∀ g, (Value.slice aa L.length ac).ownBlock = some g → ¬ S3 g ∧ w.heap.size ≤ g) → Below w.heap.size w w3 → Wn w.heap.size S3 w3 d R (L ++ [n0]) →
          ((w3.alloc (.cells #[.int .i64 n0] 3)).cell? ⟨w3.heap.size, 0, none⟩ = some (.int .i64 n0) ∧ Wo (w3.alloc (.cells #[.int .i64 n0] 3)) (.slice aa L.length ac) L) ∧ ∀ v' w4, Wo w4 v' (L ++ [n0]) → (w3.alloc (.cells #[.int .i64 n0] 3)).grownBy w4 (Value.slice aa L.length ac).ownBlock → (v'.ownBlock = (Value.slice aa L.length ac).ownBlock ∨ v'.ownBlock = some (w3.alloc (.cells #[.int .i64 n0] 3)).heap.size) →
          Wn w.heap.size S3 w4 d R (L ++ [n0]) ∧ (∀ g, v'.ownBlock = some g → ¬ S3 g ∧ w.heap.size ≤ g) ∧ Below w.heap.size w w4) := fun S3 w3 h1 h2 h3 h4 => by
        have hb : (w3.alloc (.cells #[.int .i64 n0] 3)).heap[w3.heap.size]? = some (.cells #[.int .i64 n0] 3) := heap_alloc_new w3 _
        have hBa : Below w3.heap.size w3 (w3.alloc (.cells #[.int .i64 n0] 3)) := (Below.refl _ _).alloc (Nat.le_refl _) _
        refine ⟨⟨by simp only [World.cell?, hb]; rfl, h1.out (X := fun _ => False) (Out.of_below hBa) (fun _ _ hf => hf)⟩, fun v' w4 g1 g2 g3 => ?_⟩
        have hO : Out (fun g => (Value.slice aa L.length ac).ownBlock = some g) w3 w4 := (Out.of_below hBa).trans (Out.grown g2 (X := fun g => (Value.slice aa L.length ac).ownBlock = some g) (fun j hj => hj)) (fun i hi _ => hi)
        refine ⟨h4.out hO (fun i hi hx => (h2 i hx).1 hi), fun g hg => ?_, h3.trans (hO.below h3.size (fun i hi => (h2 i hi).2))⟩
        rcases g3 with e | e
        · exact h2 g (e ▸ hg)
        · rw [e] at hg
          cases hg
          refine ⟨fun hs => ?_, ?_⟩
          · have := h4.inn _ hs
            simp at this
            omega
          · have := h3.size
            simp
            omega
      have hlen1 : L.length + 1 ≤ 1099511627776 := by omega
      by_cases hlt : L.length < R
      · by_cases hz : L.length = 0
        · have hz' : L = [] := List.length_eq_zero_iff.1 hz
          have e3 : addOk R L n0 = true := by rw [hz']; simp [addOk, above]; omega
          have e4 : addL R L n0 = L ++ [n0] := by rw [hz']; simp [addL, above, putL]; omega
          rw [e3, e4] at had
          have hzI : ((L.length : Int) == 0) = true := by rw [hz]; rfl
          clear hz hz' e3 e4
          go_wp2_with fail
          refine had.mono ?_
          rintro e w3 ⟨rfl, t3⟩
          obtain ⟨r1, r2, r3, r4⟩ := HSTEP.out w3 _ t3
          obtain ⟨⟨p1, p2⟩, p3⟩ := HAPP.out _ w3 r2 r3 r4 r1
          have P2 : Hid _ := p2
          have P3 : Hid _ := p3
          clear had t3 r1 r2 r3 r4 p2 p3 HSTEP HAPP HWO0 HAP0 HW0 HB0 e0 e1
          go_wp2_with (at_builtin; refine wpList_append_wo rfl _ _ rfl _ L n0 _ _ rfl P2.out rfl p1 hlen1 ?_; intro v' wz g1 g2 g3; obtain ⟨hW4, hAP4, hB4⟩ := P3.out v' wz g1 g2 g3; obtain ⟨a', c', rfl, -⟩ := g1.shape; have HW : Hid _ := hW4; have HWO : Hid _ := g1; have HAP : Hid _ := hAP4; have HBZ : Hid (Below w.heap.size w wz) := hB4; clear g1 g2 g3 hW4 hAP4 hB4 P2 P3 p1; generalize L ++ [n0] = L2 at *)
          have hLR := HW.out.len
          refine (witems_any HW.out).mono ?_
          rintro e w1 ⟨v1, rfl, ho1, hB1⟩
          obtain ⟨a1, c1, rfl, -, -⟩ := ho1.shape
          have HROW : Hid (∀ w', Below wz.heap.size wz w' → Sl w'.heap.size w' (.slice a' L2.length c') L2) := fun w' hB' => (Wo.out HWO.out (X := fun _ => False) (Out.of_below hB') (fun _ _ hf => hf)).sl (Nat.le_refl _)
          have hs1 := same_any w1.heap.size _ _ _ _ w1 (ho1.sl (Nat.le_refl _)) (HROW.out w1 hB1)
          rw [decide_eq_true (rfl : L2 = L2)] at hs1
          have HO1 : Hid (Ow wz.heap.size w1 (.slice a1 L2.length c1) L2) := ho1
          have HB1 : Hid (Below wz.heap.size wz w1) := hB1
          clear ho1 hB1
          go_wp2_with fail
          refine hs1.mono ?_
          rintro e w2 ⟨rfl, q2, hw2⟩
          have HO2 : Hid (Ow wz.heap.size w2 (.slice a1 L2.length c1) L2) := by rw [hw2]; exact HO1.out.out (X := fun _ => False) (Out.drew w1 q2) (fun _ _ hf => hf)
          have HB2 : Hid (Below wz.heap.size wz w2) := by rw [hw2]; exact HB1.out.trans ((Out.drew (X := fun _ => False) w1 q2).below HB1.out.size (fun _ h => h.elim))
          clear hw2 hs1 HO1 HB1
          go_wp2
          go_loopw [15] (fun kv wr => ∃ (k : Nat) (l' : List Int), kv = .int .i64 (k : Int) ∧ k ≤ L2.length ∧ l'.length = L2.length ∧ Ow wz.heap.size wr (.slice a1 L2.length c1) l' ∧ Below wz.heap.size wz wr) (fun kv _ => L2.length - (intOf kv).toNat)
          case atStart => exact ⟨0, L2, rfl, Nat.zero_le _, rfl, HO2.out, HB2.out⟩
          case round =>
            obtain ⟨k, l', rfl, hk, hl', ho, hB⟩ := hrel
            have HO' : Hid (Ow wz.heap.size wr (.slice a1 L2.length c1) l') := ho
            have HB' : Hid (Below wz.heap.size wz wr) := hB
            have HL' : Hid (l'.length = L2.length) := hl'
            clear ho hB hl' HO2 HB2
            by_cases hkl : k < L2.length
            · have hkl' : (k : Int) < (L2.length : Int) := by omega
              obtain ⟨g, c, hv, hgN, hcell, hfz⟩ := HO'.out.at0 (by rw [HL'.out]; omega)
              rw [HL'.out] at hv
              cases hv
              have d0 := hcell k (by rw [HL'.out]; exact hkl)
              have d1 := hfz k
              have HP : Hid (Ow wz.heap.size (wr.setCell ⟨g, k, none⟩ (.int .i64 0)) (.slice (some ⟨g, 0, none⟩) L2.length c1) (l'.set k 0)) := HO'.out.poke k 0
              have HBP : Hid (Below wz.heap.size wz (wr.setCell ⟨g, k, none⟩ (.int .i64 0))) := HB'.out.trans ((Out.set (X := fun j => j = g) rfl).below HB'.out.size (fun j hj => by omega))
              clear hcell hfz
              go_wp2
              exact ⟨⟨k + 1, l'.set k 0, by go_num, by omega, by rw [List.length_set]; exact HL'.out, HP.out, HBP.out⟩, by simp [intOf]; omega⟩
            · have hkl' : decide ((k : Int) < (L2.length : Int)) = false := by simp; omega
              go_wp2_with fail
              refine (witems_any (HW.out.below HB'.out)).mono ?_
              rintro e w4 ⟨v4, rfl, ho4, hB4⟩
              have hB4' := HB'.out.trans (hB4.mono HB'.out.size)
              obtain ⟨a4, c4, rfl, -, -⟩ := ho4.shape
              have hs4 := same_any w4.heap.size _ _ _ _ w4 (ho4.sl (Nat.le_refl _)) (HROW.out w4 hB4')
              rw [decide_eq_true (rfl : L2 = L2)] at hs4
              have HB4 : Hid (Below wz.heap.size wz w4) := hB4'
              clear ho4 hB4 hB4'
              go_wp2_with fail
              refine hs4.mono ?_
              rintro e w5 ⟨rfl, q5, hw5⟩
              have HB5 : Hid (Below wz.heap.size wz w5) := by rw [hw5]; exact HB4.out.trans ((Out.drew (X := fun _ => False) w4 q5).below HB4.out.size (fun _ h => h.elim))
              clear hw5 hs4 HB4
              obtain ⟨B, hBB1, HBB2⟩ : ∃ B : Bool, ((L2.length : Int) == (R : Int)) = B ∧ Hid (decide (L2.length = R) = B) := ⟨_, rfl, by
                show _ = _
                rw [Bool.eq_iff_iff]
                simp
                omega⟩
              have hfu := full_any (HW.out.below HB5.out)
              rw [HBB2.out] at hfu
              go_wp2_with fail
              refine hfu.mono ?_
              rintro e w6 ⟨rfl, q6, hw6⟩
              have HB6 : Hid (Below wz.heap.size wz w6) := by rw [hw6]; exact HB5.out.trans ((Out.drew (X := fun _ => False) w5 q6).below HB5.out.size (fun _ h => h.elim))
              clear hw6 hfu HB5
              go_wp2
              exact ⟨⟨i + 1, _, L2, a', c', by go_num, by omega, rfl, Wo.out HWO.out (X := fun _ => False) (Out.of_below HB6.out) (fun _ _ hf => hf), HAP.out, HW.out.below HB6.out, HBZ.out.trans (HB6.out.mono HBZ.out.size)⟩, by simp [intOf]; omega⟩
        · have hzI : ((L.length : Int) == 0) = false := by simp; intro e; exact hz (by rw [e]; rfl)
          have hzL : L ≠ [] := fun e => hz (by rw [e]; rfl)
          obtain ⟨a', cap, hv, -, -, hc⟩ := HWO0.out.sl (Nat.le_refl _)
          cases hv
          obtain ⟨g, off, rfl, -, hc⟩ := hc.resolve_left hzL
          have k0 := hc (L.length - 1) (by omega)
          obtain ⟨y, hy⟩ : ∃ y, L.getLast? = some y := ⟨L.getLast hzL, List.getLast?_eq_some_getLast hzL⟩
          have hy' : L[L.length - 1]?.getD 0 = y := by rw [← List.getLast?_eq_getElem?, hy]; rfl
          rw [hy'] at k0
          have hw : IntKind.i64.wrap ((L.length : Int) - 1) = ((L.length - 1 : Nat) : Int) := by rw [IntKind.wrap_i64]; omega
          have hlt1 : L.length - 1 < L.length := by omega
          generalize hLm : L.length - 1 = Lm at *
          clear hc hy' hz hLm
          by_cases hny : y < n0
          · have e3 : addOk R L n0 = true := by simp [addOk, above, hy, hny, hlt]
            have e4 : addL R L n0 = L ++ [n0] := by simp [addL, above, hy, hny, putL, hlt]
            rw [e3, e4] at had
            clear e3 e4 hy hzL
            go_wp2_with fail
            refine had.mono ?_
            rintro e w3 ⟨rfl, t3⟩
            obtain ⟨r1, r2, r3, r4⟩ := HSTEP.out w3 _ t3
            obtain ⟨⟨p1, p2⟩, p3⟩ := HAPP.out _ w3 r2 r3 r4 r1
            have P2 : Hid _ := p2
            have P3 : Hid _ := p3
            clear had t3 r1 r2 r3 r4 p2 p3 HSTEP HAPP HWO0 HAP0 HW0 HB0 e0 e1 k0
            go_wp2_with (at_builtin; refine wpList_append_wo rfl _ _ rfl _ L n0 _ _ rfl P2.out rfl p1 hlen1 ?_; intro v' wz g1 g2 g3; obtain ⟨hW4, hAP4, hB4⟩ := P3.out v' wz g1 g2 g3; obtain ⟨a', c', rfl, -⟩ := g1.shape; have HW : Hid _ := hW4; have HWO : Hid _ := g1; have HAP : Hid _ := hAP4; have HBZ : Hid (Below w.heap.size w wz) := hB4; clear g1 g2 g3 hW4 hAP4 hB4 P2 P3 p1; generalize L ++ [n0] = L2 at *)
            have hLR := HW.out.len
            refine (witems_any HW.out).mono ?_
            rintro e w1 ⟨v1, rfl, ho1, hB1⟩
            obtain ⟨a1, c1, rfl, -, -⟩ := ho1.shape
            have HROW : Hid (∀ w', Below wz.heap.size wz w' → Sl w'.heap.size w' (.slice a' L2.length c') L2) := fun w' hB' => (Wo.out HWO.out (X := fun _ => False) (Out.of_below hB') (fun _ _ hf => hf)).sl (Nat.le_refl _)
            have hs1 := same_any w1.heap.size _ _ _ _ w1 (ho1.sl (Nat.le_refl _)) (HROW.out w1 hB1)
            rw [decide_eq_true (rfl : L2 = L2)] at hs1
            have HO1 : Hid (Ow wz.heap.size w1 (.slice a1 L2.length c1) L2) := ho1
            have HB1 : Hid (Below wz.heap.size wz w1) := hB1
            clear ho1 hB1
            go_wp2_with fail
            refine hs1.mono ?_
            rintro e w2 ⟨rfl, q2, hw2⟩
            have HO2 : Hid (Ow wz.heap.size w2 (.slice a1 L2.length c1) L2) := by rw [hw2]; exact HO1.out.out (X := fun _ => False) (Out.drew w1 q2) (fun _ _ hf => hf)
            have HB2 : Hid (Below wz.heap.size wz w2) := by rw [hw2]; exact HB1.out.trans ((Out.drew (X := fun _ => False) w1 q2).below HB1.out.size (fun _ h => h.elim))
            clear hw2 hs1 HO1 HB1
            go_wp2
            go_loopw [15] (fun kv wr => ∃ (k : Nat) (l' : List Int), kv = .int .i64 (k : Int) ∧ k ≤ L2.length ∧ l'.length = L2.length ∧ Ow wz.heap.size wr (.slice a1 L2.length c1) l' ∧ Below wz.heap.size wz wr) (fun kv _ => L2.length - (intOf kv).toNat)
            case atStart => exact ⟨0, L2, rfl, Nat.zero_le _, rfl, HO2.out, HB2.out⟩
            case round =>
              obtain ⟨k, l', rfl, hk, hl', ho, hB⟩ := hrel
              have HO' : Hid (Ow wz.heap.size wr (.slice a1 L2.length c1) l') := ho
              have HB' : Hid (Below wz.heap.size wz wr) := hB
              have HL' : Hid (l'.length = L2.length) := hl'
              clear ho hB hl' HO2 HB2
              by_cases hkl : k < L2.length
              · have hkl' : (k : Int) < (L2.length : Int) := by omega
                obtain ⟨g, c, hv, hgN, hcell, hfz⟩ := HO'.out.at0 (by rw [HL'.out]; omega)
                rw [HL'.out] at hv
                cases hv
                have d0 := hcell k (by rw [HL'.out]; exact hkl)
                have d1 := hfz k
                have HP : Hid (Ow wz.heap.size (wr.setCell ⟨g, k, none⟩ (.int .i64 0)) (.slice (some ⟨g, 0, none⟩) L2.length c1) (l'.set k 0)) := HO'.out.poke k 0
                have HBP : Hid (Below wz.heap.size wz (wr.setCell ⟨g, k, none⟩ (.int .i64 0))) := HB'.out.trans ((Out.set (X := fun j => j = g) rfl).below HB'.out.size (fun j hj => by omega))
                clear hcell hfz
                go_wp2
                exact ⟨⟨k + 1, l'.set k 0, by go_num, by omega, by rw [List.length_set]; exact HL'.out, HP.out, HBP.out⟩, by simp [intOf]; omega⟩
              · have hkl' : decide ((k : Int) < (L2.length : Int)) = false := by simp; omega
                go_wp2_with fail
                refine (witems_any (HW.out.below HB'.out)).mono ?_
                rintro e w4 ⟨v4, rfl, ho4, hB4⟩
                have hB4' := HB'.out.trans (hB4.mono HB'.out.size)
                obtain ⟨a4, c4, rfl, -, -⟩ := ho4.shape
                have hs4 := same_any w4.heap.size _ _ _ _ w4 (ho4.sl (Nat.le_refl _)) (HROW.out w4 hB4')
                rw [decide_eq_true (rfl : L2 = L2)] at hs4
                have HB4 : Hid (Below wz.heap.size wz w4) := hB4'
                clear ho4 hB4 hB4'
                go_wp2_with fail
                refine hs4.mono ?_
                rintro e w5 ⟨rfl, q5, hw5⟩
                have HB5 : Hid (Below wz.heap.size wz w5) := by rw [hw5]; exact HB4.out.trans ((Out.drew (X := fun _ => False) w4 q5).below HB4.out.size (fun _ h => h.elim))
                clear hw5 hs4 HB4
                obtain ⟨B, hBB1, HBB2⟩ : ∃ B : Bool, ((L2.length : Int) == (R : Int)) = B ∧ Hid (decide (L2.length = R) = B) := ⟨_, rfl, by
                  show _ = _
                  rw [Bool.eq_iff_iff]
                  simp
                  omega⟩
                have hfu := full_any (HW.out.below HB5.out)
                rw [HBB2.out] at hfu
                go_wp2_with fail
                refine hfu.mono ?_
                rintro e w6 ⟨rfl, q6, hw6⟩
                have HB6 : Hid (Below wz.heap.size wz w6) := by rw [hw6]; exact HB5.out.trans ((Out.drew (X := fun _ => False) w5 q6).below HB5.out.size (fun _ h => h.elim))
                clear hw6 hfu HB5
                go_wp2
                exact ⟨⟨i + 1, _, L2, a', c', by go_num, by omega, rfl, Wo.out HWO.out (X := fun _ => False) (Out.of_below HB6.out) (fun _ _ hf => hf), HAP.out, HW.out.below HB6.out, HBZ.out.trans (HB6.out.mono HBZ.out.size)⟩, by simp [intOf]; omega⟩
          · have e3 : addOk R L n0 = false := by simp [addOk, above, hy, hny]
            have e4 : addL R L n0 = L := by simp [addL, above, hy, hny]
            rw [e3, e4] at had
            clear e3 e4 hy hzL
            go_wp2_with fail
            refine had.mono ?_
            rintro e wz ⟨rfl, t3⟩
            obtain ⟨r1, r2, r3, r4⟩ := HSTEP.out wz _ t3
            have HW : Hid _ := r1
            have HWO : Hid (Wo wz (.slice (some ⟨g, off, none⟩) L.length ac) L) := r2
            have HAP : Hid _ := r3
            have HBZ : Hid (Below w.heap.size w wz) := r4
            clear had t3 r1 r2 r3 r4 HSTEP HAPP HWO0 HAP0 HW0 HB0 e0 e1 k0
            have hLR := HW.out.len
            go_wp2_with fail
            refine (witems_any HW.out).mono ?_
            rintro e w1 ⟨v1, rfl, ho1, hB1⟩
            obtain ⟨a1, c1, rfl, -, -⟩ := ho1.shape
            have HROW : Hid (∀ w', Below wz.heap.size wz w' → Sl w'.heap.size w' (.slice (some ⟨g, off, none⟩) L.length ac) L) := fun w' hB' => (Wo.out HWO.out (X := fun _ => False) (Out.of_below hB') (fun _ _ hf => hf)).sl (Nat.le_refl _)
            have hs1 := same_any w1.heap.size _ _ _ _ w1 (ho1.sl (Nat.le_refl _)) (HROW.out w1 hB1)
            rw [decide_eq_true (rfl : L = L)] at hs1
            have HO1 : Hid (Ow wz.heap.size w1 (.slice a1 L.length c1) L) := ho1
            have HB1 : Hid (Below wz.heap.size wz w1) := hB1
            clear ho1 hB1
            go_wp2_with fail
            refine hs1.mono ?_
            rintro e w2 ⟨rfl, q2, hw2⟩
            have HO2 : Hid (Ow wz.heap.size w2 (.slice a1 L.length c1) L) := by rw [hw2]; exact HO1.out.out (X := fun _ => False) (Out.drew w1 q2) (fun _ _ hf => hf)
            have HB2 : Hid (Below wz.heap.size wz w2) := by rw [hw2]; exact HB1.out.trans ((Out.drew (X := fun _ => False) w1 q2).below HB1.out.size (fun _ h => h.elim))
            clear hw2 hs1 HO1 HB1
            go_wp2
            go_loopw [15] (fun kv wr => ∃ (k : Nat) (l' : List Int), kv = .int .i64 (k : Int) ∧ k ≤ L.length ∧ l'.length = L.length ∧ Ow wz.heap.size wr (.slice a1 L.length c1) l' ∧ Below wz.heap.size wz wr) (fun kv _ => L.length - (intOf kv).toNat)
            case atStart => exact ⟨0, L, rfl, Nat.zero_le _, rfl, HO2.out, HB2.out⟩
            case round =>
              obtain ⟨k, l', rfl, hk, hl', ho, hB⟩ := hrel
              have HO' : Hid (Ow wz.heap.size wr (.slice a1 L.length c1) l') := ho
              have HB' : Hid (Below wz.heap.size wz wr) := hB
              have HL' : Hid (l'.length = L.length) := hl'
              clear ho hB hl' HO2 HB2
              by_cases hkl : k < L.length
              · have hkl' : (k : Int) < (L.length : Int) := by omega
                obtain ⟨g, c, hv, hgN, hcell, hfz⟩ := HO'.out.at0 (by rw [HL'.out]; omega)
                rw [HL'.out] at hv
                cases hv
                have d0 := hcell k (by rw [HL'.out]; exact hkl)
                have d1 := hfz k
                have HP : Hid (Ow wz.heap.size (wr.setCell ⟨g, k, none⟩ (.int .i64 0)) (.slice (some ⟨g, 0, none⟩) L.length c1) (l'.set k 0)) := HO'.out.poke k 0
                have HBP : Hid (Below wz.heap.size wz (wr.setCell ⟨g, k, none⟩ (.int .i64 0))) := HB'.out.trans ((Out.set (X := fun j => j = g) rfl).below HB'.out.size (fun j hj => by omega))
                clear hcell hfz
                go_wp2
                exact ⟨⟨k + 1, l'.set k 0, by go_num, by omega, by rw [List.length_set]; exact HL'.out, HP.out, HBP.out⟩, by simp [intOf]; omega⟩
              · have hkl' : decide ((k : Int) < (L.length : Int)) = false := by simp; omega
                go_wp2_with fail
                refine (witems_any (HW.out.below HB'.out)).mono ?_
                rintro e w4 ⟨v4, rfl, ho4, hB4⟩
                have hB4' := HB'.out.trans (hB4.mono HB'.out.size)
                obtain ⟨a4, c4, rfl, -, -⟩ := ho4.shape
                have hs4 := same_any w4.heap.size _ _ _ _ w4 (ho4.sl (Nat.le_refl _)) (HROW.out w4 hB4')
                rw [decide_eq_true (rfl : L = L)] at hs4
                have HB4 : Hid (Below wz.heap.size wz w4) := hB4'
                clear ho4 hB4 hB4'
                go_wp2_with fail
                refine hs4.mono ?_
                rintro e w5 ⟨rfl, q5, hw5⟩
                have HB5 : Hid (Below wz.heap.size wz w5) := by rw [hw5]; exact HB4.out.trans ((Out.drew (X := fun _ => False) w4 q5).below HB4.out.size (fun _ h => h.elim))
                clear hw5 hs4 HB4
                obtain ⟨B, hBB1, HBB2⟩ : ∃ B : Bool, ((L.length : Int) == (R : Int)) = B ∧ Hid (decide (L.length = R) = B) := ⟨_, rfl, by
                  show _ = _
                  rw [Bool.eq_iff_iff]
                  simp
                  omega⟩
                have hfu := full_any (HW.out.below HB5.out)
                rw [HBB2.out] at hfu
                go_wp2_with fail
                refine hfu.mono ?_
                rintro e w6 ⟨rfl, q6, hw6⟩
                have HB6 : Hid (Below wz.heap.size wz w6) := by rw [hw6]; exact HB5.out.trans ((Out.drew (X := fun _ => False) w5 q6).below HB5.out.size (fun _ h => h.elim))
                clear hw6 hfu HB5
                go_wp2
                exact ⟨⟨i + 1, _, L, (some ⟨g, off, none⟩), ac, by go_num, by omega, rfl, Wo.out HWO.out (X := fun _ => False) (Out.of_below HB6.out) (fun _ _ hf => hf), HAP.out, HW.out.below HB6.out, HBZ.out.trans (HB6.out.mono HBZ.out.size)⟩, by simp [intOf]; omega⟩
      · have hok : addOk R L n0 = false := by simp [addOk, hlt]
        have hal : addL R L n0 = L := by unfold addL putL; rw [if_neg hlt]; split <;> rfl
        rw [hok, hal] at had
        have hge : R ≤ L.length := by omega
        clear hok hal hlt
        go_wp2_with fail
        refine had.mono ?_
        rintro e wz ⟨rfl, t3⟩
        obtain ⟨r1, r2, r3, r4⟩ := HSTEP.out wz _ t3
        have HW : Hid _ := r1
        have HWO : Hid (Wo wz (.slice aa L.length ac) L) := r2
        have HAP : Hid _ := r3
        have HBZ : Hid (Below w.heap.size w wz) := r4
        clear had t3 r1 r2 r3 r4 HSTEP HAPP HWO0 HAP0 HW0 HB0 e0 e1
        have hLR := HW.out.len
        go_wp2_with fail
        refine (witems_any HW.out).mono ?_
        rintro e w1 ⟨v1, rfl, ho1, hB1⟩
        obtain ⟨a1, c1, rfl, -, -⟩ := ho1.shape
        have HROW : Hid (∀ w', Below wz.heap.size wz w' → Sl w'.heap.size w' (.slice aa L.length ac) L) := fun w' hB' => (Wo.out HWO.out (X := fun _ => False) (Out.of_below hB') (fun _ _ hf => hf)).sl (Nat.le_refl _)
        have hs1 := same_any w1.heap.size _ _ _ _ w1 (ho1.sl (Nat.le_refl _)) (HROW.out w1 hB1)
        rw [decide_eq_true (rfl : L = L)] at hs1
        have HO1 : Hid (Ow wz.heap.size w1 (.slice a1 L.length c1) L) := ho1
        have HB1 : Hid (Below wz.heap.size wz w1) := hB1
        clear ho1 hB1
        go_wp2_with fail
        refine hs1.mono ?_
        rintro e w2 ⟨rfl, q2, hw2⟩
        have HO2 : Hid (Ow wz.heap.size w2 (.slice a1 L.length c1) L) := by rw [hw2]; exact HO1.out.out (X := fun _ => False) (Out.drew w1 q2) (fun _ _ hf => hf)
        have HB2 : Hid (Below wz.heap.size wz w2) := by rw [hw2]; exact HB1.out.trans ((Out.drew (X := fun _ => False) w1 q2).below HB1.out.size (fun _ h => h.elim))
        clear hw2 hs1 HO1 HB1
        go_wp2
        go_loopw [15] (fun kv wr => ∃ (k : Nat) (l' : List Int), kv = .int .i64 (k : Int) ∧ k ≤ L.length ∧ l'.length = L.length ∧ Ow wz.heap.size wr (.slice a1 L.length c1) l' ∧ Below wz.heap.size wz wr) (fun kv _ => L.length - (intOf kv).toNat)
        case atStart => exact ⟨0, L, rfl, Nat.zero_le _, rfl, HO2.out, HB2.out⟩
        case round =>
          obtain ⟨k, l', rfl, hk, hl', ho, hB⟩ := hrel
          have HO' : Hid (Ow wz.heap.size wr (.slice a1 L.length c1) l') := ho
          have HB' : Hid (Below wz.heap.size wz wr) := hB
          have HL' : Hid (l'.length = L.length) := hl'
          clear ho hB hl' HO2 HB2
          by_cases hkl : k < L.length
          · have hkl' : (k : Int) < (L.length : Int) := by omega
            obtain ⟨g, c, hv, hgN, hcell, hfz⟩ := HO'.out.at0 (by rw [HL'.out]; omega)
            rw [HL'.out] at hv
            cases hv
            have d0 := hcell k (by rw [HL'.out]; exact hkl)
            have d1 := hfz k
            have HP : Hid (Ow wz.heap.size (wr.setCell ⟨g, k, none⟩ (.int .i64 0)) (.slice (some ⟨g, 0, none⟩) L.length c1) (l'.set k 0)) := HO'.out.poke k 0
            have HBP : Hid (Below wz.heap.size wz (wr.setCell ⟨g, k, none⟩ (.int .i64 0))) := HB'.out.trans ((Out.set (X := fun j => j = g) rfl).below HB'.out.size (fun j hj => by omega))
            clear hcell hfz
            go_wp2
            exact ⟨⟨k + 1, l'.set k 0, by go_num, by omega, by rw [List.length_set]; exact HL'.out, HP.out, HBP.out⟩, by simp [intOf]; omega⟩
          · have hkl' : decide ((k : Int) < (L.length : Int)) = false := by simp; omega
            go_wp2_with fail
            refine (witems_any (HW.out.below HB'.out)).mono ?_
            rintro e w4 ⟨v4, rfl, ho4, hB4⟩
            have hB4' := HB'.out.trans (hB4.mono HB'.out.size)
            obtain ⟨a4, c4, rfl, -, -⟩ := ho4.shape
            have hs4 := same_any w4.heap.size _ _ _ _ w4 (ho4.sl (Nat.le_refl _)) (HROW.out w4 hB4')
            rw [decide_eq_true (rfl : L = L)] at hs4
            have HB4 : Hid (Below wz.heap.size wz w4) := hB4'
            clear ho4 hB4 hB4'
            go_wp2_with fail
            refine hs4.mono ?_
            rintro e w5 ⟨rfl, q5, hw5⟩
            have HB5 : Hid (Below wz.heap.size wz w5) := by rw [hw5]; exact HB4.out.trans ((Out.drew (X := fun _ => False) w4 q5).below HB4.out.size (fun _ h => h.elim))
            clear hw5 hs4 HB4
            obtain ⟨B, hBB1, HBB2⟩ : ∃ B : Bool, ((L.length : Int) == (R : Int)) = B ∧ Hid (decide (L.length = R) = B) := ⟨_, rfl, by
              show _ = _
              rw [Bool.eq_iff_iff]
              simp
              omega⟩
            have hfu := full_any (HW.out.below HB5.out)
            rw [HBB2.out] at hfu
            go_wp2_with fail
            refine hfu.mono ?_
            rintro e w6 ⟨rfl, q6, hw6⟩
            have HB6 : Hid (Below wz.heap.size wz w6) := by rw [hw6]; exact HB5.out.trans ((Out.drew (X := fun _ => False) w5 q6).below HB5.out.size (fun _ h => h.elim))
            clear hw6 hfu HB5
            go_wp2
            exact ⟨⟨i + 1, _, L, aa, ac, by go_num, by omega, rfl, Wo.out HWO.out (X := fun _ => False) (Out.of_below HB6.out) (fun _ _ hf => hf), HAP.out, HW.out.below HB6.out, HBZ.out.trans (HB6.out.mono HBZ.out.size)⟩, by simp [intOf]; omega⟩
    · have hkd1 : (kd0 == 0) = false := by simpa using hkd
      by_cases hkd' : kd0 = 1
      · subst hkd'
        clear hkd
        have HSL : Hid (Sl wp.heap.size wp (.slice aa L.length ac) L) := HWO0.out.sl (Nat.le_refl _)
        go_wp2
        go_loopw [12] (fun kv wr => ∃ k : Nat, kv = .int .i64 (k : Int) ∧ k ≤ L.length ∧ (∀ j, j < k → L[j]?.getD 0 ≤ n0) ∧ wr = wp) (fun kv _ => L.length - (intOf kv).toNat)
        case atStart => exact ⟨0, rfl, Nat.zero_le _, fun j hj => by omega, rfl⟩
        case round =>
          obtain ⟨k, rfl, hk, hj, rfl⟩ := hrel
          have HJ : Hid (∀ j, j < k → L[j]?.getD 0 ≤ n0) := hj
          clear hj
          by_cases hkx : k < L.length ∧ L[k]?.getD 0 ≤ n0
          · obtain ⟨hkl, hx⟩ := hkx
            have hkl' : (k : Int) < (L.length : Int) := by omega
            obtain ⟨a', cap, hv, -, -, hc⟩ := HSL.out
            cases hv
            obtain ⟨g, off, rfl, -, hc⟩ := hc.resolve_left (by intro e; rw [e] at hkl; simp at hkl)
            have k0 := hc k hkl
            have HJ' : Hid (∀ j, j < k + 1 → L[j]?.getD 0 ≤ n0) := fun j hj => by
              by_cases e : j = k
              · subst e; exact hx
              · exact HJ.out j (by omega)
            generalize L[k]?.getD 0 = x at k0 hx
            clear hc HSL
            go_wp2
            exact ⟨⟨k + 1, by go_num, by omega, HJ'.out, by trivial⟩, by simp [intOf]; omega⟩
          · have HFR : Hid (freeL L n0 = L.drop k) := free_at hk HJ.out (fun hkl => by
              apply Classical.byContradiction
              intro hn
              exact hkx ⟨hkl, by omega⟩)
            have hfr := free_any HW0.out HB0.out.size n0
            rw [HFR.out] at hfr
            have hlk : L.length - (L.drop k).length = k := by simp; omega
            rw [hlk] at hfr
            have HSTEP : Hid (∀ w3 L', WTh w.heap.size S wr w3 d R L' → Wn w.heap.size (grew S wr w3) w3 d R L' ∧ Wo w3 (.slice aa L.length ac) L ∧ (∀ g, (Value.slice aa L.length ac).ownBlock = some g → ¬ grew S wr w3 g ∧ w.heap.size ≤ g) ∧ Below w.heap.size w w3) := fun w3 L' t => ⟨t.q, HWO0.out.out t.out (fun g hg => (HAP0.out g hg).1), fun g hg => ⟨fun hs => hs.elim (HAP0.out g hg).1 (fun h2 => by have := HWO0.out.lt hg; omega), (HAP0.out g hg).2⟩, HB0.out.trans (t.bel HB0.out.size)⟩
            have HGO : Hid (∀ wz, WTh w.heap.size S wr wz d R (L.drop k) → Wn w.heap.size (grew S wr wz) wz d R (L.drop k) ∧ Wo wz (cutV aa L.length ac k) (L.drop k) ∧ (∀ g, (cutV aa L.length ac k).ownBlock = some g → ¬ grew S wr wz g ∧ w.heap.size ≤ g) ∧ Below w.heap.size w wz) := fun wz t => by
              obtain ⟨r1, r2, r3, r4⟩ := HSTEP.out wz _ t
              obtain ⟨c1, c2⟩ := r2.cut k hk
              exact ⟨r1, c1, fun g hg => r3 g (c2 g hg), r4⟩
            have hcap := HWO0.out.shape
            have hkc : k ≤ ac ∧ ac ≤ 9223372036854775807 := by
              obtain ⟨a9, c9, e9, h9, h8⟩ := hcap
              cases e9
              unfold maxLen at h8
              omega
            obtain ⟨hkc1, hkc2⟩ := hkc
            have HSH : Hid (aa = none ∧ k = 0 ∧ L.length = 0 ∧ ac = 0 ∨ ∃ g off, aa = some ⟨g, off, none⟩) := by
              rcases HWO0.out with ⟨e, rfl⟩ | ⟨g, off, cap, cur, e, _⟩
              · cases e; exact .inl ⟨rfl, by simpa using hk, rfl, rfl⟩
              · cases e; exact .inr ⟨g, off, rfl⟩
            have hcond : Hid (k < L.length → ∃ g off, aa = some ⟨g, off, none⟩ ∧ wr.cell? ⟨g, off + k, none⟩ = some (.int .i64 (L[k]?.getD 0)) ∧ decide (L[k]?.getD 0 ≤ n0) = false) := fun hkl => by
              obtain ⟨a', cap, hv, -, -, hc⟩ := HSL.out
              cases hv
              obtain ⟨g, off, rfl, -, hc⟩ := hc.resolve_left (by intro e; rw [e] at hkl; simp at hkl)
              exact ⟨g, off, rfl, hc k hkl, by
                have : ¬ L[k]?.getD 0 ≤ n0 := fun hx => hkx ⟨hkl, hx⟩
                simpa using this⟩
            have hlen2 : (L.drop k).length = L.length - k := by simp
            clear hkx hcap HSTEP HWO0 HAP0 HW0 HSL hlk
            rcases HSH.out with ⟨rfl, rfl, hL0, rfl⟩ | ⟨g, off, rfl⟩
            · obtain rfl : L = [] := List.length_eq_zero_iff.1 hL0
              clear hcond HSH hL0 hlen2
              go_wp2_with fail
              refine hfr.mono ?_
              rintro e wz ⟨rfl, t3⟩
              obtain ⟨r1, r2, r3, r4⟩ := HGO.out wz t3
              have HW : Hid (Wn w.heap.size (grew S wr wz) wz d R []) := r1
              have HWO : Hid (Wo wz (.slice none 0 0) []) := r2
              have HAP : Hid (∀ g, (Value.slice none 0 0).ownBlock = some g → ¬ grew S wr wz g ∧ w.heap.size ≤ g) := r3
              have HBZ : Hid (Below w.heap.size w wz) := r4
              clear hfr t3 r1 r2 r3 r4 HGO HB0 e0 e1 HFR HJ
              have hLR := HW.out.len
              go_wp2_with fail
              refine (witems_any HW.out).mono ?_
              rintro e w1 ⟨v1, rfl, ho1, hB1⟩
              obtain ⟨a1, c1, rfl, -, -⟩ := ho1.shape
              have HROW : Hid (∀ w', Below wz.heap.size wz w' → Sl w'.heap.size w' (.slice none ([] : List Int).length 0) ([] : List Int)) := fun w' hB' => (Wo.out HWO.out (X := fun _ => False) (Out.of_below hB') (fun _ _ hf => hf)).sl (Nat.le_refl _)
              have hs1 := same_any w1.heap.size _ _ _ _ w1 (ho1.sl (Nat.le_refl _)) (HROW.out w1 hB1)
              rw [decide_eq_true (rfl : ([] : List Int) = ([] : List Int))] at hs1
              have HO1 : Hid (Ow wz.heap.size w1 (.slice a1 ([] : List Int).length c1) ([] : List Int)) := ho1
              have HB1 : Hid (Below wz.heap.size wz w1) := hB1
              clear ho1 hB1
              go_wp2_with fail
              refine hs1.mono ?_
              rintro e w2 ⟨rfl, q2, hw2⟩
              have HO2 : Hid (Ow wz.heap.size w2 (.slice a1 ([] : List Int).length c1) ([] : List Int)) := by rw [hw2]; exact HO1.out.out (X := fun _ => False) (Out.drew w1 q2) (fun _ _ hf => hf)
              have HB2 : Hid (Below wz.heap.size wz w2) := by rw [hw2]; exact HB1.out.trans ((Out.drew (X := fun _ => False) w1 q2).below HB1.out.size (fun _ h => h.elim))
              clear hw2 hs1 HO1 HB1
              go_wp2
              go_loopw [15] (fun kv wr => ∃ (k : Nat) (l' : List Int), kv = .int .i64 (k : Int) ∧ k ≤ ([] : List Int).length ∧ l'.length = ([] : List Int).length ∧ Ow wz.heap.size wr (.slice a1 ([] : List Int).length c1) l' ∧ Below wz.heap.size wz wr) (fun kv _ => ([] : List Int).length - (intOf kv).toNat)
              case atStart => exact ⟨0, ([] : List Int), rfl, Nat.zero_le _, rfl, HO2.out, HB2.out⟩
              case round =>
                obtain ⟨k, l', rfl, hk, hl', ho, hB⟩ := hrel
                have HO' : Hid (Ow wz.heap.size wr (.slice a1 ([] : List Int).length c1) l') := ho
                have HB' : Hid (Below wz.heap.size wz wr) := hB
                have HL' : Hid (l'.length = ([] : List Int).length) := hl'
                clear ho hB hl' HO2 HB2
                by_cases hkl : k < ([] : List Int).length
                · exact absurd hkl (by simp)
                · have hkl' : decide ((k : Int) < (([] : List Int).length : Int)) = false := by simp
                  go_wp2_with fail
                  refine (witems_any (HW.out.below HB'.out)).mono ?_
                  rintro e w4 ⟨v4, rfl, ho4, hB4⟩
                  have hB4' := HB'.out.trans (hB4.mono HB'.out.size)
                  obtain ⟨a4, c4, rfl, -, -⟩ := ho4.shape
                  have hs4 := same_any w4.heap.size _ _ _ _ w4 (ho4.sl (Nat.le_refl _)) (HROW.out w4 hB4')
                  rw [decide_eq_true (rfl : ([] : List Int) = ([] : List Int))] at hs4
                  have HB4 : Hid (Below wz.heap.size wz w4) := hB4'
                  clear ho4 hB4 hB4'
                  go_wp2_with fail
                  refine hs4.mono ?_
                  rintro e w5 ⟨rfl, q5, hw5⟩
                  have HB5 : Hid (Below wz.heap.size wz w5) := by rw [hw5]; exact HB4.out.trans ((Out.drew (X := fun _ => False) w4 q5).below HB4.out.size (fun _ h => h.elim))
                  clear hw5 hs4 HB4
                  have hR0 : ((0 : Int) == (R : Int)) = false := by simp; omega
                  have hR00 : ¬ (R = 0) := by omega
                  have HBB2 : Hid (decide (([] : List Int).length = R) = false) := by show _ = _; simp; omega
                  have hfu := full_any (HW.out.below HB5.out)
                  rw [HBB2.out] at hfu
                  go_wp2_with fail
                  refine hfu.mono ?_
                  rintro e w6 ⟨rfl, q6, hw6⟩
                  have HB6 : Hid (Below wz.heap.size wz w6) := by rw [hw6]; exact HB5.out.trans ((Out.drew (X := fun _ => False) w5 q6).below HB5.out.size (fun _ h => h.elim))
                  clear hw6 hfu HB5
                  go_wp2
                  exact ⟨⟨i + 1, _, ([] : List Int), none, 0, by go_num, by omega, rfl, Wo.out HWO.out (X := fun _ => False) (Out.of_below HB6.out) (fun _ _ hf => hf), HAP.out, HW.out.below HB6.out, HBZ.out.trans (HB6.out.mono HBZ.out.size)⟩, by simp [intOf]; omega⟩
            · unfold cutV at HGO
              simp only at HGO
              rw [← hlen2] at HGO
              by_cases hkl : k < L.length
              · obtain ⟨g', off', e', k0, hx⟩ := hcond.out hkl
                cases e'
                have hkl' : (k : Int) < (L.length : Int) := by omega
                generalize L[k]?.getD 0 = x at k0 hx
                clear hcond HSH
                generalize hac : (if ac = k then some (⟨g, off, none⟩ : Addr) else some ⟨g, off + k, none⟩) = a5 at *
                go_wp2_with fail
                refine hfr.mono ?_
                rintro e wz ⟨rfl, t3⟩
                obtain ⟨r1, r2, r3, r4⟩ := HGO.out wz t3
                have HW : Hid _ := r1
                have HWO : Hid _ := r2
                have HAP : Hid _ := r3
                have HBZ : Hid (Below w.heap.size w wz) := r4
                clear hfr t3 r1 r2 r3 r4 HGO HB0 e0 e1 k0 hx HFR HJ
                go_wp2_with fail
                rw [← hlen2]
                clear hlen2 hac
                generalize L.drop k = L2 at *
                generalize ac - k = ac2 at *
                have hLR := HW.out.len
                refine (witems_any HW.out).mono ?_
                rintro e w1 ⟨v1, rfl, ho1, hB1⟩
                obtain ⟨a1, c1, rfl, -, -⟩ := ho1.shape
                have HROW : Hid (∀ w', Below wz.heap.size wz w' → Sl w'.heap.size w' (.slice a5 L2.length ac2) L2) := fun w' hB' => (Wo.out HWO.out (X := fun _ => False) (Out.of_below hB') (fun _ _ hf => hf)).sl (Nat.le_refl _)
                have hs1 := same_any w1.heap.size _ _ _ _ w1 (ho1.sl (Nat.le_refl _)) (HROW.out w1 hB1)
                rw [decide_eq_true (rfl : L2 = L2)] at hs1
                have HO1 : Hid (Ow wz.heap.size w1 (.slice a1 L2.length c1) L2) := ho1
                have HB1 : Hid (Below wz.heap.size wz w1) := hB1
                clear ho1 hB1
                go_wp2_with fail
                refine hs1.mono ?_
                rintro e w2 ⟨rfl, q2, hw2⟩
                have HO2 : Hid (Ow wz.heap.size w2 (.slice a1 L2.length c1) L2) := by rw [hw2]; exact HO1.out.out (X := fun _ => False) (Out.drew w1 q2) (fun _ _ hf => hf)
                have HB2 : Hid (Below wz.heap.size wz w2) := by rw [hw2]; exact HB1.out.trans ((Out.drew (X := fun _ => False) w1 q2).below HB1.out.size (fun _ h => h.elim))
                clear hw2 hs1 HO1 HB1
                go_wp2
                go_loopw [15] (fun kv wr => ∃ (k : Nat) (l' : List Int), kv = .int .i64 (k : Int) ∧ k ≤ L2.length ∧ l'.length = L2.length ∧ Ow wz.heap.size wr (.slice a1 L2.length c1) l' ∧ Below wz.heap.size wz wr) (fun kv _ => L2.length - (intOf kv).toNat)
                case atStart => exact ⟨0, L2, rfl, Nat.zero_le _, rfl, HO2.out, HB2.out⟩
                case round =>
                  obtain ⟨k, l', rfl, hk, hl', ho, hB⟩ := hrel
                  have HO' : Hid (Ow wz.heap.size wr (.slice a1 L2.length c1) l') := ho
                  have HB' : Hid (Below wz.heap.size wz wr) := hB
                  have HL' : Hid (l'.length = L2.length) := hl'
                  clear ho hB hl' HO2 HB2
                  by_cases hkl : k < L2.length
                  · have hkl' : (k : Int) < (L2.length : Int) := by omega
                    obtain ⟨g, c, hv, hgN, hcell, hfz⟩ := HO'.out.at0 (by rw [HL'.out]; omega)
                    rw [HL'.out] at hv
                    cases hv
                    have d0 := hcell k (by rw [HL'.out]; exact hkl)
                    have d1 := hfz k
                    have HP : Hid (Ow wz.heap.size (wr.setCell ⟨g, k, none⟩ (.int .i64 0)) (.slice (some ⟨g, 0, none⟩) L2.length c1) (l'.set k 0)) := HO'.out.poke k 0
                    have HBP : Hid (Below wz.heap.size wz (wr.setCell ⟨g, k, none⟩ (.int .i64 0))) := HB'.out.trans ((Out.set (X := fun j => j = g) rfl).below HB'.out.size (fun j hj => by omega))
                    clear hcell hfz
                    go_wp2
                    exact ⟨⟨k + 1, l'.set k 0, by go_num, by omega, by rw [List.length_set]; exact HL'.out, HP.out, HBP.out⟩, by simp [intOf]; omega⟩
                  · have hkl' : decide ((k : Int) < (L2.length : Int)) = false := by simp; omega
                    go_wp2_with fail
                    refine (witems_any (HW.out.below HB'.out)).mono ?_
                    rintro e w4 ⟨v4, rfl, ho4, hB4⟩
                    have hB4' := HB'.out.trans (hB4.mono HB'.out.size)
                    obtain ⟨a4, c4, rfl, -, -⟩ := ho4.shape
                    have hs4 := same_any w4.heap.size _ _ _ _ w4 (ho4.sl (Nat.le_refl _)) (HROW.out w4 hB4')
                    rw [decide_eq_true (rfl : L2 = L2)] at hs4
                    have HB4 : Hid (Below wz.heap.size wz w4) := hB4'
                    clear ho4 hB4 hB4'
                    go_wp2_with fail
                    refine hs4.mono ?_
                    rintro e w5 ⟨rfl, q5, hw5⟩
                    have HB5 : Hid (Below wz.heap.size wz w5) := by rw [hw5]; exact HB4.out.trans ((Out.drew (X := fun _ => False) w4 q5).below HB4.out.size (fun _ h => h.elim))
                    clear hw5 hs4 HB4
                    obtain ⟨B, hBB1, HBB2⟩ : ∃ B : Bool, ((L2.length : Int) == (R : Int)) = B ∧ Hid (decide (L2.length = R) = B) := ⟨_, rfl, by
                      show _ = _
                      rw [Bool.eq_iff_iff]
                      simp
                      omega⟩
                    have hfu := full_any (HW.out.below HB5.out)
                    rw [HBB2.out] at hfu
                    go_wp2_with fail
                    refine hfu.mono ?_
                    rintro e w6 ⟨rfl, q6, hw6⟩
                    have HB6 : Hid (Below wz.heap.size wz w6) := by rw [hw6]; exact HB5.out.trans ((Out.drew (X := fun _ => False) w5 q6).below HB5.out.size (fun _ h => h.elim))
                    clear hw6 hfu HB5
                    go_wp2
                    exact ⟨⟨i + 1, _, L2, a5, ac2, by go_num, by omega, rfl, Wo.out HWO.out (X := fun _ => False) (Out.of_below HB6.out) (fun _ _ hf => hf), HAP.out, HW.out.below HB6.out, HBZ.out.trans (HB6.out.mono HBZ.out.size)⟩, by simp [intOf]; omega⟩
              · have hkl' : decide ((k : Int) < (L.length : Int)) = false := by simp; omega
                have hkL : k = L.length := by omega
                clear hcond HSH
                generalize hac : (if ac = k then some (⟨g, off, none⟩ : Addr) else some ⟨g, off + k, none⟩) = a5 at *
                have HKL : Hid (k = L.length) := hkL
                clear hkL
                go_wp2_with fail
                refine hfr.mono ?_
                rintro e wz ⟨rfl, t3⟩
                obtain ⟨r1, r2, r3, r4⟩ := HGO.out wz t3
                have HW : Hid _ := r1
                have HWO : Hid _ := r2
                have HAP : Hid _ := r3
                have HBZ : Hid (Below w.heap.size w wz) := r4
                clear hfr t3 r1 r2 r3 r4 HGO HB0 e0 e1 HFR HJ
                go_wp2_with fail
                rw [← hlen2]
                clear hlen2 hac
                generalize L.drop k = L2 at *
                generalize ac - k = ac2 at *
                have hLR := HW.out.len
                refine (witems_any HW.out).mono ?_
                rintro e w1 ⟨v1, rfl, ho1, hB1⟩
                obtain ⟨a1, c1, rfl, -, -⟩ := ho1.shape
                have HROW : Hid (∀ w', Below wz.heap.size wz w' → Sl w'.heap.size w' (.slice a5 L2.length ac2) L2) := fun w' hB' => (Wo.out HWO.out (X := fun _ => False) (Out.of_below hB') (fun _ _ hf => hf)).sl (Nat.le_refl _)
                have hs1 := same_any w1.heap.size _ _ _ _ w1 (ho1.sl (Nat.le_refl _)) (HROW.out w1 hB1)
                rw [decide_eq_true (rfl : L2 = L2)] at hs1
                have HO1 : Hid (Ow wz.heap.size w1 (.slice a1 L2.length c1) L2) := ho1
                have HB1 : Hid (Below wz.heap.size wz w1) := hB1
                clear ho1 hB1
                go_wp2_with fail
                refine hs1.mono ?_
                rintro e w2 ⟨rfl, q2, hw2⟩
                have HO2 : Hid (Ow wz.heap.size w2 (.slice a1 L2.length c1) L2) := by rw [hw2]; exact HO1.out.out (X := fun _ => False) (Out.drew w1 q2) (fun _ _ hf => hf)
                have HB2 : Hid (Below wz.heap.size wz w2) := by rw [hw2]; exact HB1.out.trans ((Out.drew (X := fun _ => False) w1 q2).below HB1.out.size (fun _ h => h.elim))
                clear hw2 hs1 HO1 HB1
                go_wp2
                go_loopw [15] (fun kv wr => ∃ (k : Nat) (l' : List Int), kv = .int .i64 (k : Int) ∧ k ≤ L2.length ∧ l'.length = L2.length ∧ Ow wz.heap.size wr (.slice a1 L2.length c1) l' ∧ Below wz.heap.size wz wr) (fun kv _ => L2.length - (intOf kv).toNat)
                case atStart => exact ⟨0, L2, rfl, Nat.zero_le _, rfl, HO2.out, HB2.out⟩
                case round =>
                  obtain ⟨k, l', rfl, hk, hl', ho, hB⟩ := hrel
                  have HO' : Hid (Ow wz.heap.size wr (.slice a1 L2.length c1) l') := ho
                  have HB' : Hid (Below wz.heap.size wz wr) := hB
                  have HL' : Hid (l'.length = L2.length) := hl'
                  clear ho hB hl' HO2 HB2
                  by_cases hkl : k < L2.length
                  · have hkl' : (k : Int) < (L2.length : Int) := by omega
                    obtain ⟨g, c, hv, hgN, hcell, hfz⟩ := HO'.out.at0 (by rw [HL'.out]; omega)
                    rw [HL'.out] at hv
                    cases hv
                    have d0 := hcell k (by rw [HL'.out]; exact hkl)
                    have d1 := hfz k
                    have HP : Hid (Ow wz.heap.size (wr.setCell ⟨g, k, none⟩ (.int .i64 0)) (.slice (some ⟨g, 0, none⟩) L2.length c1) (l'.set k 0)) := HO'.out.poke k 0
                    have HBP : Hid (Below wz.heap.size wz (wr.setCell ⟨g, k, none⟩ (.int .i64 0))) := HB'.out.trans ((Out.set (X := fun j => j = g) rfl).below HB'.out.size (fun j hj => by omega))
                    clear hcell hfz
                    go_wp2
                    exact ⟨⟨k + 1, l'.set k 0, by go_num, by omega, by rw [List.length_set]; exact HL'.out, HP.out, HBP.out⟩, by simp [intOf]; omega⟩
                  · have hkl' : decide ((k : Int) < (L2.length : Int)) = false := by simp; omega
                    go_wp2_with fail
                    refine (witems_any (HW.out.below HB'.out)).mono ?_
                    rintro e w4 ⟨v4, rfl, ho4, hB4⟩
                    have hB4' := HB'.out.trans (hB4.mono HB'.out.size)
                    obtain ⟨a4, c4, rfl, -, -⟩ := ho4.shape
                    have hs4 := same_any w4.heap.size _ _ _ _ w4 (ho4.sl (Nat.le_refl _)) (HROW.out w4 hB4')
                    rw [decide_eq_true (rfl : L2 = L2)] at hs4
                    have HB4 : Hid (Below wz.heap.size wz w4) := hB4'
                    clear ho4 hB4 hB4'
                    go_wp2_with fail
                    refine hs4.mono ?_
                    rintro e w5 ⟨rfl, q5, hw5⟩
                    have HB5 : Hid (Below wz.heap.size wz w5) := by rw [hw5]; exact HB4.out.trans ((Out.drew (X := fun _ => False) w4 q5).below HB4.out.size (fun _ h => h.elim))
                    clear hw5 hs4 HB4
                    obtain ⟨B, hBB1, HBB2⟩ : ∃ B : Bool, ((L2.length : Int) == (R : Int)) = B ∧ Hid (decide (L2.length = R) = B) := ⟨_, rfl, by
                      show _ = _
                      rw [Bool.eq_iff_iff]
                      simp
                      omega⟩
                    have hfu := full_any (HW.out.below HB5.out)
                    rw [HBB2.out] at hfu
                    go_wp2_with fail
                    refine hfu.mono ?_
                    rintro e w6 ⟨rfl, q6, hw6⟩
                    have HB6 : Hid (Below wz.heap.size wz w6) := by rw [hw6]; exact HB5.out.trans ((Out.drew (X := fun _ => False) w5 q6).below HB5.out.size (fun _ h => h.elim))
                    clear hw6 hfu HB5
                    go_wp2
                    exact ⟨⟨i + 1, _, L2, a5, ac2, by go_num, by omega, rfl, Wo.out HWO.out (X := fun _ => False) (Out.of_below HB6.out) (fun _ _ hf => hf), HAP.out, HW.out.below HB6.out, HBZ.out.trans (HB6.out.mono HBZ.out.size)⟩, by simp [intOf]; omega⟩
      · have hkd2 : (kd0 == 1) = false := by simpa using hkd'
        by_cases hkd'' : kd0 = 2
        · subst hkd''
          clear hkd hkd'
          go_wp2_with fail
          refine (wclear_any HW0.out HB0.out.size).mono ?_
          rintro e wz ⟨rfl, t3⟩
          have HW : Hid (Wn w.heap.size (grew S wp wz) wz d R []) := t3.q
          have HWO : Hid (Wo wz (.slice none 0 0) []) := Wo.nil _
          have HAP : Hid (∀ g, (Value.slice none 0 0).ownBlock = some g → ¬ grew S wp wz g ∧ w.heap.size ≤ g) := by
            intro g hg
            simp [Value.ownBlock] at hg
          have HBZ : Hid (Below w.heap.size w wz) := HB0.out.trans (t3.bel HB0.out.size)
          clear t3 HWO0 HAP0 HW0 HB0 e0 e1
          have hLR := HW.out.len
          go_wp2_with fail
          refine (witems_any HW.out).mono ?_
          rintro e w1 ⟨v1, rfl, ho1, hB1⟩
          obtain ⟨a1, c1, rfl, -, -⟩ := ho1.shape
          have HROW : Hid (∀ w', Below wz.heap.size wz w' → Sl w'.heap.size w' (.slice none ([] : List Int).length 0) ([] : List Int)) := fun w' hB' => (Wo.out HWO.out (X := fun _ => False) (Out.of_below hB') (fun _ _ hf => hf)).sl (Nat.le_refl _)
          have hs1 := same_any w1.heap.size _ _ _ _ w1 (ho1.sl (Nat.le_refl _)) (HROW.out w1 hB1)
          rw [decide_eq_true (rfl : ([] : List Int) = ([] : List Int))] at hs1
          have HO1 : Hid (Ow wz.heap.size w1 (.slice a1 ([] : List Int).length c1) ([] : List Int)) := ho1
          have HB1 : Hid (Below wz.heap.size wz w1) := hB1
          clear ho1 hB1
          go_wp2_with fail
          refine hs1.mono ?_
          rintro e w2 ⟨rfl, q2, hw2⟩
          have HO2 : Hid (Ow wz.heap.size w2 (.slice a1 ([] : List Int).length c1) ([] : List Int)) := by rw [hw2]; exact HO1.out.out (X := fun _ => False) (Out.drew w1 q2) (fun _ _ hf => hf)
          have HB2 : Hid (Below wz.heap.size wz w2) := by rw [hw2]; exact HB1.out.trans ((Out.drew (X := fun _ => False) w1 q2).below HB1.out.size (fun _ h => h.elim))
          clear hw2 hs1 HO1 HB1
          go_wp2
          go_loopw [15] (fun kv wr => ∃ (k : Nat) (l' : List Int), kv = .int .i64 (k : Int) ∧ k ≤ ([] : List Int).length ∧ l'.length = ([] : List Int).length ∧ Ow wz.heap.size wr (.slice a1 ([] : List Int).length c1) l' ∧ Below wz.heap.size wz wr) (fun kv _ => ([] : List Int).length - (intOf kv).toNat)
          case atStart => exact ⟨0, ([] : List Int), rfl, Nat.zero_le _, rfl, HO2.out, HB2.out⟩
          case round =>
            obtain ⟨k, l', rfl, hk, hl', ho, hB⟩ := hrel
            have HO' : Hid (Ow wz.heap.size wr (.slice a1 ([] : List Int).length c1) l') := ho
            have HB' : Hid (Below wz.heap.size wz wr) := hB
            have HL' : Hid (l'.length = ([] : List Int).length) := hl'
            clear ho hB hl' HO2 HB2
            by_cases hkl : k < ([] : List Int).length
            · exact absurd hkl (by simp)
            · have hkl' : decide ((k : Int) < (([] : List Int).length : Int)) = false := by simp
              go_wp2_with fail
              refine (witems_any (HW.out.below HB'.out)).mono ?_
              rintro e w4 ⟨v4, rfl, ho4, hB4⟩
              have hB4' := HB'.out.trans (hB4.mono HB'.out.size)
              obtain ⟨a4, c4, rfl, -, -⟩ := ho4.shape
              have hs4 := same_any w4.heap.size _ _ _ _ w4 (ho4.sl (Nat.le_refl _)) (HROW.out w4 hB4')
              rw [decide_eq_true (rfl : ([] : List Int) = ([] : List Int))] at hs4
              have HB4 : Hid (Below wz.heap.size wz w4) := hB4'
              clear ho4 hB4 hB4'
              go_wp2_with fail
              refine hs4.mono ?_
              rintro e w5 ⟨rfl, q5, hw5⟩
              have HB5 : Hid (Below wz.heap.size wz w5) := by rw [hw5]; exact HB4.out.trans ((Out.drew (X := fun _ => False) w4 q5).below HB4.out.size (fun _ h => h.elim))
              clear hw5 hs4 HB4
              have hR0 : ((0 : Int) == (R : Int)) = false := by simp; omega
              have hR00 : ¬ (R = 0) := by omega
              have HBB2 : Hid (decide (([] : List Int).length = R) = false) := by show _ = _; simp; omega
              have hfu := full_any (HW.out.below HB5.out)
              rw [HBB2.out] at hfu
              go_wp2_with fail
              refine hfu.mono ?_
              rintro e w6 ⟨rfl, q6, hw6⟩
              have HB6 : Hid (Below wz.heap.size wz w6) := by rw [hw6]; exact HB5.out.trans ((Out.drew (X := fun _ => False) w5 q6).below HB5.out.size (fun _ h => h.elim))
              clear hw6 hfu HB5
              go_wp2
              exact ⟨⟨i + 1, _, ([] : List Int), none, 0, by go_num, by omega, rfl, Wo.out HWO.out (X := fun _ => False) (Out.of_below HB6.out) (fun _ _ hf => hf), HAP.out, HW.out.below HB6.out, HBZ.out.trans (HB6.out.mono HBZ.out.size)⟩, by simp [intOf]; omega⟩
        · have hkd3 : (kd0 == 2) = false := by simpa using hkd''
          clear hkd hkd' hkd''
          have HW : Hid _ := HW0.out
          have HWO : Hid (Wo wp (.slice aa L.length ac) L) := HWO0.out
          have HAP : Hid _ := HAP0.out
          have HBZ : Hid (Below w.heap.size w wp) := HB0.out
          clear HWO0 HAP0 HW0 HB0
          generalize wp = wz at *
          have hLR := HW.out.len
          go_wp2_with fail
          refine (witems_any HW.out).mono ?_
          rintro e w1 ⟨v1, rfl, ho1, hB1⟩
          obtain ⟨a1, c1, rfl, -, -⟩ := ho1.shape
          have HROW : Hid (∀ w', Below wz.heap.size wz w' → Sl w'.heap.size w' (.slice aa L.length ac) L) := fun w' hB' => (Wo.out HWO.out (X := fun _ => False) (Out.of_below hB') (fun _ _ hf => hf)).sl (Nat.le_refl _)
          have hs1 := same_any w1.heap.size _ _ _ _ w1 (ho1.sl (Nat.le_refl _)) (HROW.out w1 hB1)
          rw [decide_eq_true (rfl : L = L)] at hs1
          have HO1 : Hid (Ow wz.heap.size w1 (.slice a1 L.length c1) L) := ho1
          have HB1 : Hid (Below wz.heap.size wz w1) := hB1
          clear ho1 hB1
          go_wp2_with fail
          refine hs1.mono ?_
          rintro e w2 ⟨rfl, q2, hw2⟩
          have HO2 : Hid (Ow wz.heap.size w2 (.slice a1 L.length c1) L) := by rw [hw2]; exact HO1.out.out (X := fun _ => False) (Out.drew w1 q2) (fun _ _ hf => hf)
          have HB2 : Hid (Below wz.heap.size wz w2) := by rw [hw2]; exact HB1.out.trans ((Out.drew (X := fun _ => False) w1 q2).below HB1.out.size (fun _ h => h.elim))
          clear hw2 hs1 HO1 HB1
          go_wp2
          go_loopw [15] (fun kv wr => ∃ (k : Nat) (l' : List Int), kv = .int .i64 (k : Int) ∧ k ≤ L.length ∧ l'.length = L.length ∧ Ow wz.heap.size wr (.slice a1 L.length c1) l' ∧ Below wz.heap.size wz wr) (fun kv _ => L.length - (intOf kv).toNat)
          case atStart => exact ⟨0, L, rfl, Nat.zero_le _, rfl, HO2.out, HB2.out⟩
          case round =>
            obtain ⟨k, l', rfl, hk, hl', ho, hB⟩ := hrel
            have HO' : Hid (Ow wz.heap.size wr (.slice a1 L.length c1) l') := ho
            have HB' : Hid (Below wz.heap.size wz wr) := hB
            have HL' : Hid (l'.length = L.length) := hl'
            clear ho hB hl' HO2 HB2
            by_cases hkl : k < L.length
            · have hkl' : (k : Int) < (L.length : Int) := by omega
              obtain ⟨g, c, hv, hgN, hcell, hfz⟩ := HO'.out.at0 (by rw [HL'.out]; omega)
              rw [HL'.out] at hv
              cases hv
              have d0 := hcell k (by rw [HL'.out]; exact hkl)
              have d1 := hfz k
              have HP : Hid (Ow wz.heap.size (wr.setCell ⟨g, k, none⟩ (.int .i64 0)) (.slice (some ⟨g, 0, none⟩) L.length c1) (l'.set k 0)) := HO'.out.poke k 0
              have HBP : Hid (Below wz.heap.size wz (wr.setCell ⟨g, k, none⟩ (.int .i64 0))) := HB'.out.trans ((Out.set (X := fun j => j = g) rfl).below HB'.out.size (fun j hj => by omega))
              clear hcell hfz
              go_wp2
              exact ⟨⟨k + 1, l'.set k 0, by go_num, by omega, by rw [List.length_set]; exact HL'.out, HP.out, HBP.out⟩, by simp [intOf]; omega⟩
            · have hkl' : decide ((k : Int) < (L.length : Int)) = false := by simp; omega
              go_wp2_with fail
              refine (witems_any (HW.out.below HB'.out)).mono ?_
              rintro e w4 ⟨v4, rfl, ho4, hB4⟩
              have hB4' := HB'.out.trans (hB4.mono HB'.out.size)
              obtain ⟨a4, c4, rfl, -, -⟩ := ho4.shape
              have hs4 := same_any w4.heap.size _ _ _ _ w4 (ho4.sl (Nat.le_refl _)) (HROW.out w4 hB4')
              rw [decide_eq_true (rfl : L = L)] at hs4
              have HB4 : Hid (Below wz.heap.size wz w4) := hB4'
              clear ho4 hB4 hB4'
              go_wp2_with fail
              refine hs4.mono ?_
              rintro e w5 ⟨rfl, q5, hw5⟩
              have HB5 : Hid (Below wz.heap.size wz w5) := by rw [hw5]; exact HB4.out.trans ((Out.drew (X := fun _ => False) w4 q5).below HB4.out.size (fun _ h => h.elim))
              clear hw5 hs4 HB4
              obtain ⟨B, hBB1, HBB2⟩ : ∃ B : Bool, ((L.length : Int) == (R : Int)) = B ∧ Hid (decide (L.length = R) = B) := ⟨_, rfl, by
                show _ = _
                rw [Bool.eq_iff_iff]
                simp
                omega⟩
              have hfu := full_any (HW.out.below HB5.out)
              rw [HBB2.out] at hfu
              go_wp2_with fail
              refine hfu.mono ?_
              rintro e w6 ⟨rfl, q6, hw6⟩
              have HB6 : Hid (Below wz.heap.size wz w6) := by rw [hw6]; exact HB5.out.trans ((Out.drew (X := fun _ => False) w5 q6).below HB5.out.size (fun _ h => h.elim))
              clear hw6 hfu HB5
              go_wp2
              exact ⟨⟨i + 1, _, L, aa, ac, by go_num, by omega, rfl, Wo.out HWO.out (X := fun _ => False) (Out.of_below HB6.out) (fun _ _ hf => hf), HAP.out, HW.out.below HB6.out, HBZ.out.trans (HB6.out.mono HBZ.out.size)⟩, by simp [intOf]; omega⟩

end Go.Proofs.Ythaoobfldponpaa
