/-
  For every puts the law WireBack returns true: what a writer was told, where it has no error, a reader reads, in the same order, and nothing is left; written again it is the same bytes; no condition.
-/
import Derived.Test.YtndgfkgfonfliaaSt
import Derived.Test.YtndgfkgfonfliaaRowIn
import Derived.Deep.Slices
import Derived.SizedLaws
namespace Go.Proofs.Ytndgfkgfonfliaa
open Go.ChangeShapes Go.WideShapes Go.ChangeAt Go.RowKit

theorem PutsAt.below {N : Nat} {w w' : World} {a : Option Addr} {n : Nat} {D : Nat → PutD} (h : PutsAt N w a n D) (hB : Below N w w') : PutsAt N w' a n D := by
  rcases h with h | ⟨b, off, ha, hb, hc⟩
  · exact .inl h
  · refine .inr ⟨b, off, ha, hb, fun i hi => ?_⟩
    obtain ⟨c0, c1, c2, c3, c4, hs⟩ := hc i hi
    exact ⟨(hB.cell (p := ⟨b, off + i * 5, none⟩) hb).trans c0, (hB.cell (p := ⟨b, off + i * 5 + 1, none⟩) hb).trans c1, (hB.cell (p := ⟨b, off + i * 5 + 2, none⟩) hb).trans c2, (hB.cell (p := ⟨b, off + i * 5 + 3, none⟩) hb).trans c3, (hB.cell (p := ⟨b, off + i * 5 + 4, none⟩) hb).trans c4, hs.below hB⟩

set_option maxRecDepth 100000 in
set_option maxHeartbeats 8000000 in
theorem wireBack_walk0 (a : Option Addr) (n c : Nat) (D : Nat → PutD) (w : World) (hP : PutsAt w.heap.size w a n D) (hn : n * 56 ≤ 140737488351232) :
    Calls Try.prog 7 #[.slice a n c] w fun e w' => e = .returned (.bool true) ∧ Below w.heap.size w w' := by
  have hD : ∀ i, i < n → (D i).bs.length ≤ 9223372036854775807 := by
    intro i hi
    obtain ⟨b, off, _, _, hc⟩ := hP.resolve_left (by omega)
    obtain ⟨_, _, e, h1, h2, _⟩ := (hc i hi).2.2.2.2.2
    unfold maxLen at h2; omega
  have HP : Hid (PutsAt w.heap.size w a n D) := hP
  clear hP
  go_enter Try.func7, Try.ntmps7
  go_wp2_with fail
  refine (first_any _).mono ?_
  rintro e w1 ⟨rfl, hB1⟩
  have hz1 := hB1.size
  go_wp2_with fail
  refine (parts_any w.heap.size a n c D _ (HP.out.below hB1) hz1 hn).mono ?_
  rintro e w2 ⟨v2, rfl, hO2, hB2⟩
  have hz2 := hB2.size
  have hB12 : Below w.heap.size w w2 := hB1.trans (hB2.mono hz1)
  obtain ⟨a2, c2, hv2⟩ : ∃ a2 c2, v2 = .slice a2 n c2 := by
    rcases hO2.2 with ⟨h1, h2⟩ | ⟨g, cap, cur, h1, _⟩
    · exact ⟨_, _, by rw [h1, h2]⟩
    · exact ⟨_, _, h1⟩
  subst hv2
  go_wp2_with fail
  refine (few_any _ _ n D _ hO2 hn hD).mono ?_
  rintro e w3 ⟨⟨t, rfl, ht⟩, hw⟩
  subst w3
  clear hB1 hB2 hO2 hD
  by_cases hgo : n ≤ 300 ∧ t = true
  · obtain ⟨hn3, rfl⟩ := hgo
    have htot := ht rfl
    clear ht
    have hn3' : decide ((300 : Int) < (n : Int)) = false := by simp; omega
    go_wp2_with fail
    refine (newWriter_any _).mono ?_
    rintro e w4 ⟨rfl, hW4, hB4⟩
    have hz4 := hB4.size
    have hB14 : Below w.heap.size w w4 := hB12.trans (hB4.mono (by omega))
    obtain ⟨B, hBe⟩ : ∃ B, w2.heap.size = B := ⟨_, rfl⟩
    rw [hBe] at hW4 ⊢
    have hBz : w.heap.size ≤ B := by omega
    clear hBe hB12 hB4
    go_wp2_with fail
    go_loopw [6] (fun i wr => ∃ (k : Nat) (v : Value), i = .int .i64 (k : Int) ∧ k ≤ n ∧ Wtr 79 B wr B v (told D k).1 (told D k).2 ∧ Below w.heap.size w wr) (fun i _ => n - (intOf i).toNat)
    case atStart => exact ⟨0, _, rfl, by omega, hW4, hB14⟩
    case round =>
      obtain ⟨k, v, rfl, hk, hW, hBr⟩ := hrel
      clear hW4 hB14
      by_cases hlt : k < n
      · obtain ⟨b, off, rfl, hb, hc⟩ := HP.out.resolve_left (by omega)
        obtain ⟨c0, c1, c2', c3, c4, hs⟩ := hc k hlt
        have r0 := (hBr.cell (p := ⟨b, off + k * 5, none⟩) hb).trans c0
        have r1 := (hBr.cell (p := ⟨b, off + k * 5 + 1, none⟩) hb).trans c1
        have r2 := (hBr.cell (p := ⟨b, off + k * 5 + 2, none⟩) hb).trans c2'
        have r3 := (hBr.cell (p := ⟨b, off + k * 5 + 3, none⟩) hb).trans c3
        have r4 := (hBr.cell (p := ⟨b, off + k * 5 + 4, none⟩) hb).trans c4
        have hsr := hs.below hBr
        have hl1 := told_len D k
        have hl2 := total_mono D hk
        have hl3 := total_one D hlt
        have CT : Hid (Calls Try.prog 39 #[.pointer (some ⟨B, 0, none⟩), .agg #[.int .i64 (D k).kind, .int .i64 (D k).n, .int .i64 (D k).most, .bool (D k).t, (D k).x]] wr fun r w' => r = .returned (.tuple #[]) ∧ ∃ v', Wtr 79 B w' B v' (told D (k + 1)).1 (told D (k + 1)).2 ∧ Tn wr w' B v ∧ Son wr v v') :=
          tell_any B B w.heap.size v _ _ (D k) wr hW (by omega) (by omega) hsr hBz
        have HX : (D k).x = .slice (D k).a (D k).bs.length (D k).cap := rfl
        rw [HX] at r4 CT
        clear c0 c1 c2' c3 c4 hs hsr HX hl1 hl2 hl3 hc
        generalize (D k).kind = kd at *
        generalize (D k).n = kn at *
        generalize (D k).most = km at *
        generalize (D k).t = kt at *
        generalize (D k).a = ka at *
        generalize (D k).bs.length = kl at *
        generalize (D k).cap = kc at *
        go_wp2_with fail
        refine Calls.mono CT.out ?_
        rintro r w5 ⟨rfl, v5, hW5, hT5, hS5⟩
        have hB5 : Below w.heap.size w w5 := hBr.trans (hT5.below hW hBz)
        clear CT r0 r1 r2 r3 r4 hW hT5 hS5 hBr
        go_wp2
        go_roundw
        case rel => exact ⟨k + 1, v5, by go_num, by omega, hW5, hB5⟩
        case measure => simp [intOf]; omega
      · obtain rfl : k = n := by omega
        have hlt' := told_len D k
        have herr := told_err D k
        go_wp2_with fail
        refine (wwDone_any B B v _ _ _ hW (by omega)).mono ?_
        rintro r w5 ⟨u, rfl, hO5, hB5⟩
        have hz5 := hB5.size
        have hB15 : Below w.heap.size w w5 := hBr.trans (hB5.mono (by have := hW.lt; omega))
        obtain ⟨ua, uc, hu, -, -⟩ := hO5.shape
        have hbl : (told D k).1.length ≤ 23000 := by omega
        have hWz : w.heap.size ≤ wr.heap.size := by have := hW.lt; omega
        have hw5 : w.heap.size ≤ w5.heap.size := by omega
        obtain ⟨N3, hN3⟩ : ∃ N3, wr.heap.size = N3 := ⟨_, rfl⟩
        rw [hN3] at hO5 hWz
        clear hN3 hB5 hBr hlt' hW
        by_cases he : (told D k).2 = 0
        · subst hu
          have HS : Hid (∀ j, j < k → (told D (j + 1)).1 = (told D j).1 ++ encP (D j) ∧ (∃ rest, (told D k).1 = (told D j).1 ++ (encP (D j) ++ rest)) ∧ ((D j).kind = 0 → isNumB (D j).n = true) ∧ ((D j).kind = 2 ∨ (D j).kind = 3 → ((D j).bs.length : Int) ≤ max (D j).most 0)) := fun j hj => told_step D hj he
          have HF : Hid (∀ j, j ≤ k → (told D j).1.length ≤ (told D k).1.length) := fun j hj => by
            obtain ⟨rest, hr⟩ := told_front D hj he
            rw [hr]; simp
          have HB3 : Hid (∀ j, j < k → (D j).bs.length ≤ 20000) := fun j hj => Nat.le_trans (total_one D hj) htot
          rw [he]
          generalize hbe : (told D k).1 = bl at *
          have HBL : Hid ((told D k).1 = bl) := hbe
          clear hbe he herr
          go_wp2_with fail
          refine (num_any _ _).mono ?_
          rintro r w' ⟨rfl, hw⟩; subst w'
          go_wp2_with fail
          refine (newReader_any _ _ bl _ (hO5.sl (Nat.le_refl w5.heap.size)) (by omega)).mono ?_
          rintro r w6 ⟨R, rfl, hR6, hB6⟩
          have hz6 := hB6.size
          have hO6 := hO5.below hB6 (Nat.le_refl _)
          have huR : ∀ j, (Value.slice ua bl.length uc).ownBlock = some j → j < R := fun j hj => by
            have := (World.ownsRow.lt hO5 j hj).2
            have := hR6.le
            omega
          have hB16 : Below w.heap.size w w6 := hB15.trans (hB6.mono (by omega))
          have hRl := hR6.lt
          clear hO5 hB15 hB6
          go_wp2_with fail
          refine (newWriter_any _).mono ?_
          rintro r w7 ⟨rfl, hW7, hB7⟩
          have hz7 := hB7.size
          have hS7 : St N3 w5.heap.size w6.heap.size R w6.heap.size (.slice ua bl.length uc) bl w7 (.slice none 0 0) [] 0 :=
            ⟨hR6.below hB7 (Nat.le_refl _), hW7, hO6.below hB7 (Nat.le_refl _), huR, hRl⟩
          have hB17 : Below w.heap.size w w7 := hB16.trans (hB7.mono (by omega))
          obtain ⟨A, hAe⟩ : ∃ A, w6.heap.size = A := ⟨_, rfl⟩
          rw [hAe] at hS7 ⊢
          clear hR6 hO6 hW7 hB7 hB16 huR
          clear hAe
          go_wp2_with fail
          go_loopw [11] (fun i wr => ∃ (j : Nat) (v : Value), i = .int .i64 (j : Int) ∧ j ≤ k ∧ St N3 w5.heap.size A R A (.slice ua bl.length uc) bl wr v (told D j).1 (told D j).1.length ∧ Below w.heap.size w wr) (fun i _ => k - (intOf i).toNat)
          case atStart => exact ⟨0, _, rfl, by omega, hS7, hB17⟩
          case round =>
            obtain ⟨j, v7, rfl, hj, hSt, hBj⟩ := hrel
            clear hS7 hB17
            by_cases hjlt : j < k
            · obtain ⟨b, off, rfl, hb, hc⟩ := HP.out.resolve_left (by omega)
              obtain ⟨c0, c1, c2', c3, c4, hs⟩ := hc j hjlt
              have r0 := (hBj.cell (p := ⟨b, off + j * 5, none⟩) hb).trans c0
              have r1 := (hBj.cell (p := ⟨b, off + j * 5 + 1, none⟩) hb).trans c1
              have r2 := (hBj.cell (p := ⟨b, off + j * 5 + 2, none⟩) hb).trans c2'
              have r3 := (hBj.cell (p := ⟨b, off + j * 5 + 3, none⟩) hb).trans c3
              have r4 := (hBj.cell (p := ⟨b, off + j * 5 + 4, none⟩) hb).trans c4
              have hsr := hs.below hBj
              obtain ⟨hnext, ⟨rest, hrest⟩, hk0, hk2⟩ := HS.out j hjlt
              have hbs := HB3.out j hjlt
              have hlj := HF.out j (by omega)
              have hlj1 := HF.out (j + 1) (by omega)
              clear c0 c1 c2' c3 c4 hs hc
              unfold PutD.x at r4 hsr
              unfold encP at hnext hrest
              rw [hnext] at hlj1
              have HN : Hid ((told D (j + 1)).1 = (told D j).1 ++ (if (D j).kind = 0 then numB (D j).n.toNat else if (D j).kind = 1 then numB (if (D j).t then 1 else 0) else if (D j).kind = 2 ∨ (D j).kind = 3 then numB (D j).bs.length ++ (D j).bs else [])) := hnext
              clear hnext
              generalize (D j).kind = kd at *
              generalize (D j).n = kn at *
              generalize (D j).most = km at *
              generalize (D j).t = kt at *
              generalize (D j).a = ka at *
              generalize (D j).cap = kc at *
              generalize (D j).bs = kb at *
              generalize (told D j).1 = pre at *
              have hjz : A < wr.heap.size := hSt.wt.lt
              have hRA : R < A := hSt.hR
              have hvz : ∀ i, v7.ownBlock = some i → i < wr.heap.size := fun i hi => (World.ownsRow.lt hSt.wt.ow i hi).2
              obtain ⟨W1, hW1⟩ : ∃ W1, wr.alloc (.cells #[.int .i64 kd, .int .i64 kn, .int .i64 km, .bool kt, .slice ka kb.length kc] 49) = W1 := ⟨_, rfl⟩
              have hBw : Below wr.heap.size wr W1 := by rw [← hW1]; exact (Below.refl _ wr).alloc (Nat.le_refl _) _
              have hh := World.alloc_heap_new wr (.cells #[.int .i64 kd, .int .i64 kn, .int .i64 km, .bool kt, .slice ka kb.length kc] 49)
              have hzW : W1.heap.size = wr.heap.size + 1 := by rw [← hW1]; simp
              rw [hW1] at hh
              have hS1 := hSt.below hBw
              have hB1 : Below w.heap.size w W1 := hBj.trans (hBw.mono hBj.size)
              have hcw : w.heap.size ≤ wr.heap.size := hBj.size
              have HW1 : Hid (wr.alloc (.cells #[.int .i64 kd, .int .i64 kn, .int .i64 km, .bool kt, .slice ka kb.length kc] 49) = W1) := hW1
              have hs1 := hsr.below (hBw.mono hcw)
              have hbox : ∀ w2 : World, w2.heap[wr.heap.size]? = W1.heap[wr.heap.size]? → w2.cell? ⟨wr.heap.size, 1, none⟩ = some (.int .i64 kn) ∧ w2.cell? ⟨wr.heap.size, 2, none⟩ = some (.int .i64 km) ∧ w2.cell? ⟨wr.heap.size, 3, none⟩ = some (.bool kt) ∧ w2.cell? ⟨wr.heap.size, 4, none⟩ = some (.slice ka kb.length kc) := by
                intro w2 he
                rw [hh] at he
                refine ⟨?_, ?_, ?_, ?_⟩ <;> (simp only [World.cell?, he]; rfl)
              have HBX : Hid (∀ w2 : World, w2.heap[wr.heap.size]? = W1.heap[wr.heap.size]? → w2.cell? ⟨wr.heap.size, 1, none⟩ = some (.int .i64 kn) ∧ w2.cell? ⟨wr.heap.size, 2, none⟩ = some (.int .i64 km) ∧ w2.cell? ⟨wr.heap.size, 3, none⟩ = some (.bool kt) ∧ w2.cell? ⟨wr.heap.size, 4, none⟩ = some (.slice ka kb.length kc)) := hbox
              clear hbox hh hW1 hSt hBj hBw hsr
              by_cases q0 : kd = 0
              · have hNk := hk0 q0
                subst q0
                simp only [if_true] at hrest hlj1 HN
                have hrange : 0 ≤ kn ∧ kn ≤ 4611686018427387904 := by simpa [isNumB] using hNk
                obtain ⟨m, rfl⟩ := Int.eq_ofNat_of_zero_le hrange.1
                simp only [Int.toNat_natCast] at hrest hlj1 HN
                have hpk : pk bl pre.length 0 = (m, (numB m).length, 0) := by rw [hrest]; exact pk_mid pre m rest (by omega)
                have hwi : wInt pre 0 (m : Int) = (pre ++ numB m, 0) := by simp [wInt, hNk]
                have cR := rInt_any _ R bl pre.length 0 W1 hS1.r (by omega) hlj
                rw [hpk] at cR
                have CW : Hid (∀ w2, Wtr 79 A w2 A v7 pre 0 → Calls Try.prog 23 #[.pointer (some ⟨A, 0, none⟩), .int .i64 (m : Int)] w2 fun r w' => r = .returned (.tuple #[]) ∧ ∃ v', Wtr 79 A w' A v' (pre ++ numB m) 0 ∧ Tn w2 w' A v7 ∧ Son w2 v7 v') := fun w2 h2 => by
                  have := wwInt_any A A v7 pre 0 (m : Int) w2 h2 (by omega)
                  rw [hwi] at this; exact this
                have HRR : Hid (bl = pre ++ (numB m ++ rest)) := hrest
                clear hrest hpk hwi hk0 hk2 hNk hrange
                go_wp2_with fail
                rw [HW1.out]
                refine cR.mono ?_
                rintro r w2' ⟨rfl, hr2, g2⟩
                have hS2 := hS1.read hr2 g2
                have hx2 := g2.block wr.heap.size (by omega) (by simp; omega)
                have hB2 : Below w.heap.size w w2' := hB1.trans (hS1.under (by omega) g2)
                have hzg := g2.size
                clear cR hr2 g2
                go_wp2_with fail
                refine Calls.mono (CW.out _ hS2.wt) ?_
                rintro r w3' ⟨rfl, v3, hW3, hT3, hSo3⟩
                have hS3 := hS2.write hW3 hT3
                have hB3 : Below w.heap.size w w3' := hB2.trans (hS2.under2 (by omega) hT3)
                have hx3 := (hT3.block wr.heap.size (by omega) (by omega) (fun e => by have := hvz _ e; omega)).trans hx2
                obtain ⟨b1, b2, b3, b4⟩ := HBX.out w3' hx3
                have HFIN : Hid (∃ (j' : Nat) (v : Value), Value.int .i64 ((j : Int) + 1) = .int .i64 (j' : Int) ∧ j' ≤ k ∧ St N3 w5.heap.size A R A (.slice ua bl.length uc) bl w3' v (told D j').1 (told D j').1.length ∧ Below w.heap.size w w3') :=
                  ⟨j + 1, v3, by go_num, by omega, by rw [HN.out]; simpa using hS3, hB3⟩
                clear CW hS2 hW3 hT3 hSo3 hS3 hB3 hx2 hx3 hB2 hS1 hB1 hs1
                go_wp2
                go_roundw
                case rel => exact HFIN.out
                case measure => simp [intOf]; omega
              · have t0 : (kd == 0) = false := by rw [beq_eq_false_iff_ne]; exact q0
                rw [if_neg q0] at hrest hlj1 HN
                clear hk0
                by_cases q1 : kd = 1
                · subst q1
                  rw [if_pos rfl] at hrest hlj1 HN
                  have hba : boolAt bl pre.length 0 = (kt, pre.length + (numB (if kt then 1 else 0)).length, 0) := by rw [hrest]; exact boolAt_mid pre kt rest
                  have hwi : wInt pre 0 (if kt then 1 else 0) = (pre ++ numB (if kt then 1 else 0), 0) := by cases kt <;> simp [wInt, isNumB]
                  have cR := rBool_any _ R bl pre.length 0 W1 hS1.r (by omega) hlj
                  rw [hba] at cR
                  have CW : Hid (∀ w2, Wtr 79 A w2 A v7 pre 0 → Calls Try.prog 25 #[.pointer (some ⟨A, 0, none⟩), .bool kt] w2 fun r w' => r = .returned (.tuple #[]) ∧ ∃ v', Wtr 79 A w' A v' (pre ++ numB (if kt then 1 else 0)) 0 ∧ Tn w2 w' A v7 ∧ Son w2 v7 v') := fun w2 h2 => by
                    have := wwBool_any A A v7 pre 0 kt w2 h2 (by omega)
                    rw [hwi] at this; exact this
                  clear hrest hba hwi hk2
                  generalize numB (if kt then 1 else 0) = nb at *
                  go_wp2_with fail
                  rw [HW1.out]
                  refine cR.mono ?_
                  rintro r w2' ⟨rfl, hr2, g2⟩
                  have hS2 := hS1.read hr2 g2
                  have hx2 := g2.block wr.heap.size (by omega) (by simp; omega)
                  have hB2 : Below w.heap.size w w2' := hB1.trans (hS1.under (by omega) g2)
                  have hzg := g2.size
                  clear cR hr2 g2
                  go_wp2_with fail
                  refine Calls.mono (CW.out _ hS2.wt) ?_
                  rintro r w3' ⟨rfl, v3, hW3, hT3, hSo3⟩
                  have hS3 := hS2.write hW3 hT3
                  have hB3 : Below w.heap.size w w3' := hB2.trans (hS2.under2 (by omega) hT3)
                  have hx3 := (hT3.block wr.heap.size (by omega) (by omega) (fun e => by have := hvz _ e; omega)).trans hx2
                  obtain ⟨b1, b2, b3, b4⟩ := HBX.out w3' hx3
                  have HFIN : Hid (∃ (j' : Nat) (v : Value), Value.int .i64 ((j : Int) + 1) = .int .i64 (j' : Int) ∧ j' ≤ k ∧ St N3 w5.heap.size A R A (.slice ua bl.length uc) bl w3' v (told D j').1 (told D j').1.length ∧ Below w.heap.size w w3') :=
                    ⟨j + 1, v3, by go_num, by omega, by rw [HN.out]; simpa using hS3, hB3⟩
                  clear CW hS2 hW3 hT3 hSo3 hS3 hB3 hx2 hx3 hB2 hS1 hB1 hs1
                  go_wp2
                  go_roundw
                  case rel => exact HFIN.out
                  case measure => simp [intOf]; omega
                · have t1 : (kd == 1) = false := by rw [beq_eq_false_iff_ne]; exact q1
                  rw [if_neg q1] at hrest hlj1 HN
                  by_cases q2 : kd = 2
                  · subst q2
                    rw [if_pos (.inl rfl)] at hrest hlj1 HN
                    have hkb := hk2 (.inl rfl)
                    have hta : takeAt bl pre.length 0 km = (kb, pre.length + (numB kb.length).length + kb.length, 0) := by rw [hrest]; exact takeAt_mid pre kb rest km (by omega) hkb
                    have hwb : wBytes pre 0 kb (kb.length : Int) = (pre ++ numB kb.length ++ kb, 0) := by unfold wBytes; rw [if_neg (by simp), if_neg (by omega)]
                    have cR := rBytes_any _ R bl pre.length 0 km W1 hS1.r (by omega) hlj
                    rw [hta] at cR
                    simp only at cR
                    have HWB : Hid (wBytes pre 0 kb (kb.length : Int) = (pre ++ numB kb.length ++ kb, 0)) := hwb
                    clear hrest hta hwb hk2 hkb q0 q1
                    go_wp2_with fail
                    rw [HW1.out]
                    refine cR.mono ?_
                    rintro r w2' ⟨u2, rfl, hO2, hr2, g2⟩
                    obtain ⟨a2', c2', rfl, -, -⟩ := hO2.shape
                    have hS2 := hS1.read hr2 g2
                    have hx2 := g2.block wr.heap.size (by omega) (by simp; omega)
                    have hBa : Below w.heap.size W1 w2' := hS1.under (by omega) g2
                    have hzg := g2.size
                    have hap : (Value.slice a2' kb.length c2').ownBlock ≠ some A ∧ ∀ k, (Value.slice a2' kb.length c2').ownBlock = some k → v7.ownBlock ≠ some k :=
                      ⟨fun e => by have := (World.ownsRow.lt hO2 A e).1; omega, fun k hk e => by have := (World.ownsRow.lt hO2 k hk).1; have := hvz k e; omega⟩
                    have CW := wwBytes_any A A w2'.heap.size v7 _ pre kb 0 (kb.length : Int) w2' hS2.wt (by omega) (by omega) (hO2.sl (Nat.le_refl _)) (Nat.le_refl _) (fun _ => hap)
                    rw [HWB.out] at CW
                    simp only at CW
                    clear cR hr2 g2
                    go_wp2_with fail
                    refine CW.mono ?_
                    rintro r w3' ⟨rfl, v3, hW3, hT3, hSo3⟩
                    have hS3 := hS2.write hW3 hT3
                    have hBb : Below w.heap.size W1 w3' := hBa.trans (hS2.under2 (by omega) hT3)
                    have hx3 := (hT3.block wr.heap.size (by omega) (by omega) (fun e => by have := hvz _ e; omega)).trans hx2
                    obtain ⟨b1, b2, b3, b4⟩ := HBX.out w3' hx3
                    have hO3 := hO2.tn hT3 hap.1 hap.2
                    have hsl3 := hO3.sl (Nat.le_refl w3'.heap.size)
                    have hsx3 := (hs1.below hBb).mono (show w.heap.size ≤ w3'.heap.size by have := hBb.size; omega)
                    have HFIN : Hid (∀ n4, ∃ (j' : Nat) (v : Value), Value.int .i64 ((j : Int) + 1) = .int .i64 (j' : Int) ∧ j' ≤ k ∧ St N3 w5.heap.size A R A (.slice ua bl.length uc) bl (w3'.drewN n4) v (told D j').1 (told D j').1.length ∧ Below w.heap.size w (w3'.drewN n4)) := fun n4 => by
                      have hD : Below w3'.heap.size w3' (w3'.drewN n4) := ⟨rfl, rfl, rfl, Nat.le_refl _, fun _ _ => rfl⟩
                      refine ⟨j + 1, v3, by go_num, by omega, ?_, (hB1.trans hBb).trans (hD.mono (by have := hBb.size; omega))⟩
                      rw [HN.out]
                      have := hS3.below hD
                      simpa [Nat.add_assoc] using this
                    clear CW hS2 hW3 hT3 hSo3 hS3 hBa hBb hx2 hx3 hS1 hB1 hs1 hO2 hO3 hap
                    go_wp2_with fail
                    refine (same_any _ _ _ kb kb _ hsl3 hsx3).mono ?_
                    rintro r w4' ⟨rfl, n4, rfl⟩
                    simp only [decide_true]
                    clear hsl3 hsx3 b1 b2 b3 b4
                    go_wp2
                    go_roundw
                    case rel => exact HFIN.out n4
                    case measure => simp [intOf]; omega
                  · have t2 : (kd == 2) = false := by rw [beq_eq_false_iff_ne]; exact q2
                    by_cases q3 : kd = 3
                    · subst q3
                      rw [if_pos (.inr rfl)] at hrest hlj1 HN
                      have hkb := hk2 (.inr rfl)
                      have hta : takeAt bl pre.length 0 km = (kb, pre.length + (numB kb.length).length + kb.length, 0) := by rw [hrest]; exact takeAt_mid pre kb rest km (by omega) hkb
                      have hwb : wBytes pre 0 kb (kb.length : Int) = (pre ++ numB kb.length ++ kb, 0) := by unfold wBytes; rw [if_neg (by simp), if_neg (by omega)]
                      have cR := rText_any _ R bl pre.length 0 km W1 hS1.r (by omega) hlj
                      rw [hta] at cR
                      simp only at cR
                      have CW : Hid (∀ w2, Wtr 79 A w2 A v7 pre 0 → Calls Try.prog 29 #[.pointer (some ⟨A, 0, none⟩), .string ⟨kb.toArray⟩, .int .i64 (kb.length : Int)] w2 fun r w' => r = .returned (.tuple #[]) ∧ ∃ v', Wtr 79 A w' A v' (pre ++ numB kb.length ++ kb) 0 ∧ Tn w2 w' A v7 ∧ Son w2 v7 v') := fun w2 h2 => by
                        have := wwText_any A A v7 pre kb 0 (kb.length : Int) w2 h2 (by omega) (by omega)
                        rw [hwb] at this; exact this
                      have hsz : (⟨kb.toArray⟩ : ByteArray).size = kb.length := by simp [ByteArray.size]
                      clear hrest hta hwb hk2 hkb q0 q1 q2
                      go_wp2_with fail
                      rw [HW1.out]
                      refine cR.mono ?_
                      rintro r w2' ⟨rfl, hr2, g2⟩
                      have hS2 := hS1.read hr2 g2
                      have hx2 := g2.block wr.heap.size (by omega) (by simp; omega)
                      have hBa : Below w.heap.size W1 w2' := hS1.under (by omega) g2
                      have hzg := g2.size
                      clear cR hr2 g2
                      go_wp2_with fail
                      try rw [hsz]
                      refine Calls.mono (CW.out _ hS2.wt) ?_
                      rintro r w3' ⟨rfl, v3, hW3, hT3, hSo3⟩
                      have hS3 := hS2.write hW3 hT3
                      have hBb : Below w.heap.size W1 w3' := hBa.trans (hS2.under2 (by omega) hT3)
                      have hx3 := (hT3.block wr.heap.size (by omega) (by omega) (fun e => by have := hvz _ e; omega)).trans hx2
                      obtain ⟨b1, b2, b3, b4⟩ := HBX.out w3' hx3
                      have hcv := conv_sl (hs1.below hBb)
                      have HFIN : Hid (∃ (j' : Nat) (v : Value), Value.int .i64 ((j : Int) + 1) = .int .i64 (j' : Int) ∧ j' ≤ k ∧ St N3 w5.heap.size A R A (.slice ua bl.length uc) bl w3' v (told D j').1 (told D j').1.length ∧ Below w.heap.size w w3') := by
                        refine ⟨j + 1, v3, by go_num, by omega, ?_, hB1.trans hBb⟩
                        rw [HN.out]
                        simpa [Nat.add_assoc] using hS3
                      clear CW hS2 hW3 hT3 hSo3 hS3 hBa hBb hx2 hx3 hS1 hB1 hs1
                      go_wp2
                      go_roundw
                      case rel => exact HFIN.out
                      case measure => simp [intOf]; omega
                    · have t3 : (kd == 3) = false := by rw [beq_eq_false_iff_ne]; exact q3
                      rw [if_neg (by rintro (h | h); exact q2 h; exact q3 h)] at hrest hlj1 HN
                      have HFIN : Hid (∃ (j' : Nat) (v : Value), Value.int .i64 ((j : Int) + 1) = .int .i64 (j' : Int) ∧ j' ≤ k ∧ St N3 w5.heap.size A R A (.slice ua bl.length uc) bl (wr.alloc (.cells #[.int .i64 kd, .int .i64 kn, .int .i64 km, .bool kt, .slice ka kb.length kc] 49)) v (told D j').1 (told D j').1.length ∧ Below w.heap.size w (wr.alloc (.cells #[.int .i64 kd, .int .i64 kn, .int .i64 km, .bool kt, .slice ka kb.length kc] 49))) := by
                        rw [HW1.out]
                        refine ⟨j + 1, v7, by go_num, by omega, ?_, hB1⟩
                        rw [HN.out]
                        simpa using hS1
                      clear q0 q1 q2 q3 hrest hlj1 hk2 hS1 hB1 hs1
                      go_wp2
                      go_roundw
                      case rel => exact HFIN.out
                      case measure => simp [intOf]; omega
            · obtain rfl : j = k := by omega
              rw [HBL.out] at hSt
              go_wp2_with fail
              refine (wwDone_any A A v7 bl 0 _ hSt.wt (by omega)).mono ?_
              rintro r w8 ⟨cu, rfl, hO8, hB8⟩
              have hz8 := hB8.size
              have hS8 := hSt.below hB8
              have hB18 : Below w.heap.size w w8 := hBj.trans (hB8.mono hBj.size)
              obtain ⟨ca, cc, rfl, -, -⟩ := hO8.shape
              have hsb := hS8.o.sl (Nat.le_refl w8.heap.size)
              have hsc := hO8.sl (Nat.le_refl w8.heap.size)
              clear hSt hBj hB8 hO8
              go_wp2_with fail
              refine (same_any _ _ _ bl bl _ hsb hsc).mono ?_
              rintro r w9 ⟨rfl, n9, rfl⟩
              simp only [decide_true]
              have hR9 := hS8.r.drewN n9
              have hB19 : Below w.heap.size w (w8.drewN n9) := hB18.trans ⟨rfl, rfl, rfl, Nat.le_refl _, fun _ _ => rfl⟩
              have hdn : doneE bl bl.length 0 = 0 := by simp [doneE]
              clear hsb hsc hS8 hB18
              obtain ⟨W9, hW9⟩ : ∃ W9, w8.drewN n9 = W9 := ⟨_, rfl⟩
              rw [hW9] at hR9 hB19 ⊢
              clear hW9
              have CD := rDone_any _ R bl bl.length 0 W9 hR9 (by omega) (Nat.le_refl _)
              rw [hdn] at CD
              have CL : Hid (∀ m, Calls Try.prog 35 #[.pointer (some ⟨R, 0, none⟩)] (W9.drewN m) fun r w' => r = .returned (.int .i64 ((bl.length : Int) - (bl.length : Int))) ∧ ∃ n, w' = (W9.drewN m).drewN n) := fun m => rLeft_any _ R bl bl.length 0 _ (hR9.drewN m) (by omega) (Nat.le_refl _)
              have HB9 : Hid (∀ m, Below w.heap.size w (W9.drewN m)) := fun m => hB19.trans ⟨rfl, rfl, rfl, Nat.le_refl _, fun _ _ => rfl⟩
              rw [Int.sub_self] at CL
              clear hdn hR9 hB19
              go_wp2_with (first
                | (go_at_call 13; refine (num_any _ _).mono ?_; rintro r w' ⟨rfl, hw⟩; subst w')
                | (go_at_call 37; refine CD.mono ?_; rintro r w10 ⟨rfl, n10, rfl⟩)
                | (go_at_call 35; refine Calls.mono (CL.out n10) ?_; rintro r w11 ⟨rfl, n11, rfl⟩))
              go_ret
              exact ⟨rfl, by simpa using HB9.out (n10 + n11)⟩
        · have hl0 := herr he
          rw [hl0] at hu
          subst hu
          have he' : (((told D k).2 : Int) != 0) = true := by simp; omega
          generalize (told D k).2 = ee at *
          clear herr hl0 hO5
          go_wp2_with (go_at_call 13; refine (num_any _ _).mono ?_; rintro r w' ⟨rfl, hw⟩; subst w')
          go_ret
          exact ⟨rfl, hB15⟩
  · have hs' : decide ((300 : Int) < (n : Int)) = true ∨ (decide ((300 : Int) < (n : Int)) = false ∧ t = false) := by
      by_cases h : n ≤ 300
      · exact .inr ⟨by simp; omega, by cases t with | false => rfl | true => exact absurd ⟨h, rfl⟩ hgo⟩
      · exact .inl (by simp; omega)
    clear hgo ht
    rcases hs' with hs' | ⟨hs1, rfl⟩
    all_goals
      go_wp2
      go_ret
      exact ⟨rfl, hB12⟩
end Go.Proofs.Ytndgfkgfonfliaa
