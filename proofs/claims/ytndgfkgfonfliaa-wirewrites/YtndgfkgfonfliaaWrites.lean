/-
  For every puts the law WireWrites returns true: after each of them the writer has told what the document's own has; no condition.
-/
import Derived.Test.YtndgfkgfonfliaaPair
import Derived.Test.YtndgfkgfonfliaaBackRow
namespace Go.Proofs.Ytndgfkgfonfliaa
open Go.ChangeShapes Go.WideShapes Go.ChangeAt Go.RowKit

theorem Wp.set {N B C : Nat} {w : World} {v u : Value} {s t : List UInt8 × Nat} (h : Wp N B C w v u s t) (g k : Nat) (x : Value) (hB : B ≠ g) (hC : C ≠ g) (hv : v.ownBlock ≠ some g) (hu : u.ownBlock ≠ some g) : Wp N B C (w.setCell ⟨g, k, none⟩ x) v u s t := by
  have hT : Tn w (w.setCell ⟨g, k, none⟩ x) g (.slice none 0 0) := (Tn.refl w g _).set k x
  exact ⟨h.a.kept hT hB (by simp [Value.ownBlock]) hv (fun k _ => by simp [Value.ownBlock]), h.b.kept hT hC (by simp [Value.ownBlock]) hu (fun k _ => by simp [Value.ownBlock]), h.vu, h.rl⟩

theorem Son.not_at {w : World} {v v1 : Value} {g : Nat} (h : Son w v v1) (hv : v.ownBlock ≠ some g) (hg : g < w.heap.size) : v1.ownBlock ≠ some g := fun e => by
  rcases h with s | s | ⟨j, s, hj⟩
  · rw [s] at e; cases e
  · exact hv (s ▸ e)
  · rw [s] at e; cases e; omega

set_option maxRecDepth 100000 in
set_option maxHeartbeats 8000000 in
theorem wireWrites_walk0 (a : Option Addr) (n c : Nat) (D : Nat → PutD) (w : World) (hP : PutsAt w.heap.size w a n D) (hn : n * 56 ≤ 140737488351232) :
    Calls Try.prog 5 #[.slice a n c] w fun e w' => e = .returned (.bool true) ∧ Below w.heap.size w w' := by
  have hD : ∀ i, i < n → (D i).bs.length ≤ 9223372036854775807 := by
    intro i hi
    obtain ⟨b, off, _, _, hc⟩ := hP.resolve_left (by omega)
    obtain ⟨_, _, e, h1, h2, _⟩ := (hc i hi).2.2.2.2.2
    unfold maxLen at h2; omega
  have HP : Hid (PutsAt w.heap.size w a n D) := hP
  clear hP
  go_enter Try.func5, Try.ntmps5
  go_wp2_with fail
  refine (first_any _).mono ?_
  rintro e w1 ⟨rfl, hB1⟩
  have hz1 := hB1.size
  go_wp2_with fail
  refine (parts_any w.heap.size a n c D _ (HP.out.below hB1) hz1 hn).mono ?_
  rintro e w2 ⟨v2, rfl, hO2, hB2⟩
  have hz2 := hB2.size
  have hB12 : Below w.heap.size w w2 := hB1.trans (hB2.mono hz1)
  obtain ⟨a2, c2, hv2⟩ : ∃ a2 c2, v2 = .slice a2 n c2 := by
    rcases hO2.2 with ⟨h1, h2⟩ | ⟨g, cap, cur, h1, _⟩
    · exact ⟨_, _, by rw [h1, h2]⟩
    · exact ⟨_, _, h1⟩
  subst hv2
  go_wp2_with fail
  refine (few_any _ _ n D _ hO2 hn hD).mono ?_
  rintro e w3 ⟨⟨t, rfl, ht⟩, hw⟩
  subst w3
  clear hB1 hB2 hO2 hD
  by_cases hgo : n ≤ 300 ∧ t = true
  · obtain ⟨hn3, rfl⟩ := hgo
    have htot := ht rfl
    clear ht
    have hn3' : decide ((300 : Int) < (n : Int)) = false := by simp; omega
    go_wp2_with fail
    refine (newWriter_any _).mono ?_
    rintro e w4 ⟨rfl, hW4, hB4⟩
    have hz4 := hB4.size
    have hB14 : Below w.heap.size w w4 := hB12.trans (hB4.mono (by omega))
    obtain ⟨B, hBe⟩ : ∃ B, w2.heap.size = B := ⟨_, rfl⟩
    rw [hBe] at hW4 hz4 ⊢
    have hBz : w.heap.size ≤ B := by omega
    clear hBe hB12 hB4
    have hBl := hW4.lt
    have hI : Wp B B w4.heap.size (w4.alloc (.cells #[.slice none 0 0, .int .i64 0] 47)) (.slice none 0 0) (.slice none 0 0) ([], 0) ([], 0) := by
      have hb : Below w4.heap.size w4 (w4.alloc (.cells #[.slice none 0 0, .int .i64 0] 47)) := (Below.refl _ w4).alloc (Nat.le_refl _) _
      exact ⟨hW4.below hb (Nat.le_refl _), ⟨by omega, World.alloc_heap_new w4 _, Ow.nil _ _⟩, fun k hk => by simp [Value.ownBlock] at hk, rfl, fun _ => rfl, fun h => absurd rfl h⟩
    have hB15 : Below w.heap.size w (w4.alloc (.cells #[.slice none 0 0, .int .i64 0] 47)) := hB14.alloc (by omega) _
    have HI : Hid (Wp B B w4.heap.size (w4.alloc (.cells #[.slice none 0 0, .int .i64 0] 47)) (.slice none 0 0) (.slice none 0 0) ([], 0) ([], 0) ∧ Below w.heap.size w (w4.alloc (.cells #[.slice none 0 0, .int .i64 0] 47))) := ⟨hI, hB15⟩
    clear hI hB15 hW4 hB14
    go_wp2_with fail
    obtain ⟨C, hC⟩ : ∃ C, w4.heap.size = C := ⟨_, rfl⟩
    have HI2 := HI.out
    clear HI
    rw [hC] at HI2 hBl ⊢
    obtain ⟨W5, hW5⟩ : ∃ W5, w4.alloc (.cells #[.slice none 0 0, .int .i64 0] 47) = W5 := ⟨_, rfl⟩
    rw [hW5] at HI2 ⊢
    clear hW5 hC hz4
    go_loopw [7] (fun i wr => ∃ (k : Nat) (v u : Value) (s t : List UInt8 × Nat), i = .int .i64 (k : Int) ∧ k ≤ n ∧ Wp B B C wr v u s t ∧ s.1.length ≤ 10 * k + total D k ∧ t.1.length ≤ 10 * k + total D k ∧ Below w.heap.size w wr) (fun i _ => n - (intOf i).toNat)
    case atStart => exact ⟨0, _, _, _, _, rfl, by omega, HI2.1, by simp, by simp, HI2.2⟩
    case round =>
      obtain ⟨k, v, u, s, t, rfl, hk, hp, hls, hlt', hBr⟩ := hrel
      clear HI2
      have htk := total_mono D hk
      by_cases hlt : k < n
      · obtain ⟨b, off, rfl, hb, hc⟩ := HP.out.resolve_left (by omega)
        obtain ⟨c0, c1, c2', c3, c4, hs⟩ := hc k hlt
        have r0 := (hBr.cell (p := ⟨b, off + k * 5, none⟩) hb).trans c0
        have r1 := (hBr.cell (p := ⟨b, off + k * 5 + 1, none⟩) hb).trans c1
        have r2 := (hBr.cell (p := ⟨b, off + k * 5 + 2, none⟩) hb).trans c2'
        have r3 := (hBr.cell (p := ⟨b, off + k * 5 + 3, none⟩) hb).trans c3
        have r4 := (hBr.cell (p := ⟨b, off + k * 5 + 4, none⟩) hb).trans c4
        have hsr := hs.below hBr
        have hbs := Nat.le_trans (total_one D hlt) htot
        have htS : total D (k + 1) = total D k + (D k).bs.length := rfl
        clear c0 c1 c2' c3 c4 hs hc
        unfold PutD.x at r4 hsr
        generalize (D k).kind = kd at *
        generalize (D k).n = kn at *
        generalize (D k).most = km at *
        generalize (D k).t = kt at *
        generalize (D k).a = ka at *
        generalize (D k).cap = kc at *
        generalize (D k).bs = kb at *
        have HL : Hid (∀ q : List UInt8 × Nat, q.1.length ≤ 10 * k + total D k + 10 + kb.length → q.1.length ≤ 10 * (k + 1) + total D (k + 1)) := fun q hq => by rw [htS]; omega
        clear htS
        have hjB : B < wr.heap.size := hp.a.lt
        have hjC : C < wr.heap.size := hp.b.lt
        have hvz : ∀ i, v.ownBlock = some i → i < wr.heap.size := fun i hi => (World.ownsRow.lt hp.a.ow i hi).2
        have huz : ∀ i, u.ownBlock = some i → i < wr.heap.size := fun i hi => (World.ownsRow.lt hp.b.ow i hi).2
        obtain ⟨W1, hW1⟩ : ∃ W1, wr.alloc (.cells #[.int .i64 kd, .int .i64 kn, .int .i64 km, .bool kt, .slice ka kb.length kc] 49) = W1 := ⟨_, rfl⟩
        have hBw : Below wr.heap.size wr W1 := by rw [← hW1]; exact (Below.refl _ wr).alloc (Nat.le_refl _) _
        have hh := World.alloc_heap_new wr (.cells #[.int .i64 kd, .int .i64 kn, .int .i64 km, .bool kt, .slice ka kb.length kc] 49)
        have hzW : W1.heap.size = wr.heap.size + 1 := by rw [← hW1]; simp
        rw [hW1] at hh
        have hp1 := hp.below hBw
        have hcw : w.heap.size ≤ wr.heap.size := hBr.size
        have hB1 : Below w.heap.size w W1 := hBr.trans (hBw.mono hcw)
        have hs1 := hsr.below (hBw.mono hcw)
        have HW1 : Hid (wr.alloc (.cells #[.int .i64 kd, .int .i64 kn, .int .i64 km, .bool kt, .slice ka kb.length kc] 49) = W1) := hW1
        have HBX : Hid (∀ w2 : World, w2.heap[wr.heap.size]? = W1.heap[wr.heap.size]? → w2.cell? ⟨wr.heap.size, 1, none⟩ = some (.int .i64 kn) ∧ w2.cell? ⟨wr.heap.size, 2, none⟩ = some (.int .i64 km) ∧ w2.cell? ⟨wr.heap.size, 3, none⟩ = some (.bool kt) ∧ w2.cell? ⟨wr.heap.size, 4, none⟩ = some (.slice ka kb.length kc)) := by
          intro w2 he
          rw [hh] at he
          refine ⟨?_, ?_, ?_, ?_⟩ <;> (simp only [World.cell?, he]; rfl)
        clear hh hW1 hp hBr hBw hsr
        have hls' : s.1.length ≤ 30000 := by omega
        have hlt'' : t.1.length ≤ 30000 := by omega
        have HLS : Hid (s.1.length ≤ 10 * k + total D k ∧ t.1.length ≤ 10 * k + total D k) := ⟨hls, hlt'⟩
        clear hls hlt' htk
        by_cases q0 : kd = 0
        · subst q0
          have cA := wwInt_any B B v s.1 s.2 kn W1 hp1.a (by omega)
          have CB : Hid (∀ w2, Wtr 47 B w2 C u t.1 t.2 → Calls Try.prog 24 #[.pointer (some ⟨C, 0, none⟩), .int .i64 kn] w2 fun r w' => r = .returned (.tuple #[]) ∧ ∃ v', Wtr 47 B w' C v' (vInt t.1 t.2 kn).1 (vInt t.1 t.2 kn).2 ∧ Tn w2 w' C u ∧ Son w2 u v') := fun w2 h2 => vvInt_any B C u t.1 t.2 kn w2 h2 (by omega)
          go_wp2_with fail
          rw [HW1.out]
          refine cA.mono ?_
          rintro r w2' ⟨rfl, v1, h1, T1, S1⟩
          have hx2 := T1.block wr.heap.size (by omega) (by omega) (fun e => by have := hvz _ e; omega)
          have hm := hp1.mid T1
          obtain ⟨b1, b2, b3, b4⟩ := HBX.out w2' hx2
          clear cA
          go_wp2_with fail
          refine Calls.mono (CB.out _ hm) ?_
          rintro r w3' ⟨rfl, u2, h2, T2, S2⟩
          have hX := hp1.two h1 T1 S1 h2 T2 S2 (hp1.rl.int kn)
          have HFIN : Hid (∃ (j : Nat) (v u : Value) (s t : List UInt8 × Nat), Value.int .i64 ((k : Int) + 1) = .int .i64 (j : Int) ∧ j ≤ n ∧ Wp B B C w3' v u s t ∧ s.1.length ≤ 10 * j + total D j ∧ t.1.length ≤ 10 * j + total D j ∧ Below w.heap.size w w3') := by
            have l1 := wInt_len s.1 s.2 kn
            have l2 := vInt_le t.1 t.2 kn
            have := HLS.out
            exact ⟨k + 1, v1, u2, _, _, by go_num, by omega, hX.1, HL.out _ (by omega), HL.out _ (by omega), hB1.trans (hX.2.mono (by omega))⟩
          clear hX h1 T1 S1 h2 T2 S2 hx2 hm b1 b2 b3 b4 CB hp1 hB1 hs1 HLS
          go_wp2
          go_roundw
          case rel => exact HFIN.out
          case measure => simp [intOf]; omega
        · have t0 : (kd == 0) = false := by rw [beq_eq_false_iff_ne]; exact q0
          clear q0
          by_cases q1 : kd = 1
          · subst q1
            obtain ⟨kz, hkz⟩ : ∃ kz : Int, (if kt then 1 else 0) = kz := ⟨_, rfl⟩
            have cA := wwBool_any B B v s.1 s.2 kt W1 hp1.a (by omega)
            rw [hkz] at cA
            have CB : Hid (∀ w2, Wtr 47 B w2 C u t.1 t.2 → Calls Try.prog 26 #[.pointer (some ⟨C, 0, none⟩), .bool kt] w2 fun r w' => r = .returned (.tuple #[]) ∧ ∃ v', Wtr 47 B w' C v' (vInt t.1 t.2 kz).1 (vInt t.1 t.2 kz).2 ∧ Tn w2 w' C u ∧ Son w2 u v') := fun w2 h2 => by
              have := vvBool_any B C u t.1 t.2 kt w2 h2 (by omega)
              rw [hkz] at this; exact this
            clear hkz
            go_wp2_with fail
            rw [HW1.out]
            refine cA.mono ?_
            rintro r w2' ⟨rfl, v1, h1, T1, S1⟩
            have hx2 := T1.block wr.heap.size (by omega) (by omega) (fun e => by have := hvz _ e; omega)
            have hm := hp1.mid T1
            obtain ⟨b1, b2, b3, b4⟩ := HBX.out w2' hx2
            clear cA
            go_wp2_with fail
            refine Calls.mono (CB.out _ hm) ?_
            rintro r w3' ⟨rfl, u2, h2, T2, S2⟩
            have hX := hp1.two h1 T1 S1 h2 T2 S2 (hp1.rl.int kz)
            have HFIN : Hid (∃ (j : Nat) (v u : Value) (s t : List UInt8 × Nat), Value.int .i64 ((k : Int) + 1) = .int .i64 (j : Int) ∧ j ≤ n ∧ Wp B B C w3' v u s t ∧ s.1.length ≤ 10 * j + total D j ∧ t.1.length ≤ 10 * j + total D j ∧ Below w.heap.size w w3') := by
              have l1 := wInt_len s.1 s.2 kz
              have l2 := vInt_le t.1 t.2 kz
              have := HLS.out
              exact ⟨k + 1, v1, u2, _, _, by go_num, by omega, hX.1, HL.out _ (by omega), HL.out _ (by omega), hB1.trans (hX.2.mono (by omega))⟩
            clear hX h1 T1 S1 h2 T2 S2 hx2 hm b1 b2 b3 b4 CB hp1 hB1 hs1 HLS
            go_wp2
            go_roundw
            case rel => exact HFIN.out
            case measure => simp [intOf]; omega
          · have t1 : (kd == 1) = false := by rw [beq_eq_false_iff_ne]; exact q1
            clear q1
            by_cases q2 : kd = 2
            · subst q2
              have cL := lent_any w.heap.size _ kb W1 hs1 (by omega) hbs
              go_wp2_with fail
              rw [HW1.out]
              refine cL.mono ?_
              rintro r w2' ⟨g, cap, rfl, hO2, hB2⟩
              obtain ⟨-, hcap, hcap2⟩ := hO2.mark
              unfold maxLen at hcap2
              have hp2 := hp1.below hB2
              have hx2 := hB2.block wr.heap.size (by omega)
              have hz2' := hB2.size
              have hgg : W1.heap.size ≤ g ∧ g < w2'.heap.size := World.ownsRow.lt hO2 g rfl
              have hs2 := hs1.below (hB2.mono (by omega))
              have hgv : v.ownBlock ≠ some g := fun e => by have := hvz _ e; omega
              have hgu : u.ownBlock ≠ some g := fun e => by have := huz _ e; omega
              have cA := wwBytes_any B B w2'.heap.size v _ s.1 kb s.2 km w2' hp2.a (by omega) (by omega) (hO2.lent (Nat.le_refl _)) (Nat.le_refl _) (fun _ => ⟨by simp [Value.ownBlock]; omega, fun k hk e => by simp [Value.ownBlock] at hk; subst hk; exact hgv e⟩)
              obtain ⟨b1, b2, b3, b4⟩ := HBX.out w2' hx2
              clear cL
              go_wp2_with fail
              refine cA.mono ?_
              rintro r w3' ⟨rfl, v1, h1, T1, S1⟩
              have hx3 := (T1.block wr.heap.size (by omega) (by omega) (fun e => by have := hvz _ e; omega)).trans hx2
              have hm := hp2.mid T1
              have hz3 := T1.size
              have hs3 := hs2.below (T1.below hp2.a (M := w.heap.size) (by omega))
              have hO3 := hO2.tn T1 (by simp [Value.ownBlock]; omega) (fun k hk e => by simp [Value.ownBlock] at hk; subst hk; exact hgv e)
              have cB := vvBytes_any B C w.heap.size u _ t.1 kb t.2 km w3' hm (by omega) (by omega) hs3 (by omega) (apart_out hm hs3 (by omega))
              clear b1 b2 b3 b4 cA
              obtain ⟨b1, b2, b3, b4⟩ := HBX.out w3' hx3
              go_wp2_with fail
              refine cB.mono ?_
              rintro r w4' ⟨rfl, u2, h2, T2, S2⟩
              have hX := hp2.two h1 T1 S1 h2 T2 S2 (hp2.rl.bytes kb km)
              have hx4 := (T2.block wr.heap.size (by omega) (by omega) (fun e => by have := huz _ e; omega)).trans hx3
              have hO4 := hO3.tn T2 (by simp [Value.ownBlock]; omega) (fun k hk e => by simp [Value.ownBlock] at hk; subst hk; exact hgu e)
              have hz4' := T2.size
              have hs4 := hs3.below (T2.below hm (M := w.heap.size) (by omega))
              have hgv1 : v1.ownBlock ≠ some g := S1.not_at hgv hgg.2
              have hgu2 : u2.ownBlock ≠ some g := S2.not_at hgu (by omega)
              have hB4 : Below w.heap.size w w4' := (hB1.trans (hB2.mono (by omega))).trans (hX.2.mono (by omega))
              have hX1 := hX.1
              have l1 := wBytes_len s.1 s.2 kb km
              have l2 := vBytes_le t.1 t.2 kb km
              have hLL := HLS.out
              generalize wBytes s.1 s.2 kb km = s1 at *
              generalize vBytes t.1 t.2 kb km = t1' at *
              have HLE : Hid (s1.1.length ≤ 10 * (k + 1) + total D (k + 1) ∧ t1'.1.length ≤ 10 * (k + 1) + total D (k + 1)) := ⟨HL.out _ (by omega), HL.out _ (by omega)⟩
              have hgB : B ≠ g := by omega
              have hgC : C ≠ g := by omega
              have hgw : w.heap.size ≤ g := by omega
              clear b1 b2 b3 b4 cB hX h1 T1 S1 h2 T2 S2 hx2 hx3 hm hp1 hp2 hB1 hB2 hs1 hs2 hs3 hO2 hO3 hvz huz hgv hgu l1 l2 hLL HLS HL
              obtain ⟨b1, b2, b3, b4⟩ := HBX.out w4' hx4
              go_wp2_with fail
              refine (kept_any _ g cap _ kb w4' hbs hO4 (hs4.mono (by omega))).mono ?_
              rintro r w5' ⟨rfl, n5, rfl⟩
              have hlen5 : (kb ++ [(201 : UInt8)]).length = kb.length + 1 := by simp
              have hX5 : Wp B B C (w4'.drewN n5) v1 u2 s1 t1' := hX1.below ⟨rfl, rfl, rfl, Nat.le_refl _, fun _ _ => rfl⟩
              have hO5 : Ow W1.heap.size (w4'.drewN n5) (.slice (some ⟨g, 0, none⟩) (kb ++ [(201 : UInt8)]).length cap) (kb ++ [201]) := by
                rw [hlen5]; exact hO4.kept (grown_drewN w4' n5) (by simp [Value.ownBlock])
              have hB5 : Below w.heap.size w (w4'.drewN n5) := hB4.trans ⟨rfl, rfl, rfl, Nat.le_refl _, fun _ _ => rfl⟩
              obtain ⟨W6, hW6⟩ : ∃ W6, w4'.drewN n5 = W6 := ⟨_, rfl⟩
              rw [hW6] at hX5 hO5 hB5 ⊢
              clear b1 b2 b3 b4 hW6 hX1 hO4 hB4 hs4 hx4
              go_wp2_with fail
              go_loopw [11] (fun i wq => ∃ (q : Nat) (T' : List UInt8), i = .int .i64 (q : Int) ∧ q ≤ kb.length ∧ T'.length = kb.length + 1 ∧ Ow W1.heap.size wq (.slice (some ⟨g, 0, none⟩) T'.length cap) T' ∧ Wp B B C wq v1 u2 s1 t1' ∧ Below w.heap.size w wq) (fun i _ => kb.length - (intOf i).toNat)
              case atStart => exact ⟨0, _, rfl, by omega, hlen5, hO5, hX5, hB5⟩
              case round =>
                obtain ⟨q, T', rfl, hq, hT', hOr, hXr, hBr⟩ := hrel
                have HT' : Hid (T'.length = kb.length + 1) := hT'
                by_cases hqlt : q < kb.length
                · obtain ⟨hc, hf, hgN⟩ := hOr.can q (by omega)
                  unfold encB at hc
                  have HN : Hid (Ow W1.heap.size (wr.setCell ⟨g, q, none⟩ (.int .u8 0)) (.slice (some ⟨g, 0, none⟩) (T'.set q 0).length cap) (T'.set q 0)) := by
                    have := hOr.store q 0
                    rw [List.length_set]; exact this
                  have HM : Hid (Wp B B C (wr.setCell ⟨g, q, none⟩ (.int .u8 0)) v1 u2 s1 t1') := hXr.set g q _ hgB hgC hgv1 hgu2
                  have HLL : Hid (Below w.heap.size w (wr.setCell ⟨g, q, none⟩ (.int .u8 0))) := hBr.setCell (p := ⟨g, q, none⟩) hgw _
                  clear hT' hOr hXr hBr hX5 hO5 hB5
                  go_wp2
                  go_roundw
                  case rel => exact ⟨q + 1, T'.set q 0, by go_num, by omega, by rw [List.length_set]; exact HT'.out, HN.out, HM.out, HLL.out⟩
                  case measure => simp [intOf]; omega
                · have HFIN : Hid (∃ (j : Nat) (v u : Value) (s t : List UInt8 × Nat), Value.int .i64 ((k : Int) + 1) = .int .i64 (j : Int) ∧ j ≤ n ∧ Wp B B C wr v u s t ∧ s.1.length ≤ 10 * j + total D j ∧ t.1.length ≤ 10 * j + total D j ∧ Below w.heap.size w wr) :=
                    ⟨k + 1, v1, u2, _, _, by go_num, by omega, hXr, HLE.out.1, HLE.out.2, hBr⟩
                  clear hT' hX5 hO5 hB5 hOr hXr hBr
                  go_wp2
                  go_roundw
                  case rel => exact HFIN.out
                  case measure => simp [intOf]; omega
            · have t2 : (kd == 2) = false := by rw [beq_eq_false_iff_ne]; exact q2
              clear q2
              by_cases q3 : kd = 3
              · subst q3
                have cA := wwText_any B B v s.1 kb s.2 km W1 hp1.a (by omega) (by omega)
                have CB : Hid (∀ w2, Wtr 47 B w2 C u t.1 t.2 → Calls Try.prog 30 #[.pointer (some ⟨C, 0, none⟩), .string ⟨kb.toArray⟩, .int .i64 km] w2 fun r w' => r = .returned (.tuple #[]) ∧ ∃ v', Wtr 47 B w' C v' (vBytes t.1 t.2 kb km).1 (vBytes t.1 t.2 kb km).2 ∧ Tn w2 w' C u ∧ Son w2 u v') := fun w2 h2 => vvText_any B C u t.1 kb t.2 km w2 h2 (by omega) (by omega)
                have hcv := conv_sl hs1
                rw [← HW1.out] at hcv
                go_wp2_with fail
                rw [HW1.out]
                refine cA.mono ?_
                rintro r w2' ⟨rfl, v1, h1, T1, S1⟩
                have hx2 := T1.block wr.heap.size (by omega) (by omega) (fun e => by have := hvz _ e; omega)
                have hm := hp1.mid T1
                have hcv2 := conv_sl (hs1.below (T1.below hp1.a (M := w.heap.size) (by omega)))
                obtain ⟨b1, b2, b3, b4⟩ := HBX.out w2' hx2
                clear cA hcv
                go_wp2_with fail
                refine Calls.mono (CB.out _ hm) ?_
                rintro r w3' ⟨rfl, u2, h2, T2, S2⟩
                have hX := hp1.two h1 T1 S1 h2 T2 S2 (hp1.rl.bytes kb km)
                have HFIN : Hid (∃ (j : Nat) (v u : Value) (s t : List UInt8 × Nat), Value.int .i64 ((k : Int) + 1) = .int .i64 (j : Int) ∧ j ≤ n ∧ Wp B B C w3' v u s t ∧ s.1.length ≤ 10 * j + total D j ∧ t.1.length ≤ 10 * j + total D j ∧ Below w.heap.size w w3') := by
                  have l1 := wBytes_len s.1 s.2 kb km
                  have l2 := vBytes_le t.1 t.2 kb km
                  have := HLS.out
                  exact ⟨k + 1, v1, u2, _, _, by go_num, by omega, hX.1, HL.out _ (by omega), HL.out _ (by omega), hB1.trans (hX.2.mono (by omega))⟩
                clear hX h1 T1 S1 h2 T2 S2 hx2 hm b1 b2 b3 b4 CB hp1 hB1 hs1 HLS hcv2
                go_wp2
                go_roundw
                case rel => exact HFIN.out
                case measure => simp [intOf]; omega
              · have t3 : (kd == 3) = false := by rw [beq_eq_false_iff_ne]; exact q3
                clear q3
                have cD := done_any B B C v u s t W1 hp1 (by omega)
                go_wp2_with fail
                rw [HW1.out]
                refine cD.mono ?_
                rintro r w2' ⟨rfl, hB2⟩
                have hp2 := hp1.below hB2
                have HFIN : Hid (∃ (j : Nat) (v u : Value) (s t : List UInt8 × Nat), Value.int .i64 ((k : Int) + 1) = .int .i64 (j : Int) ∧ j ≤ n ∧ Wp B B C w2' v u s t ∧ s.1.length ≤ 10 * j + total D j ∧ t.1.length ≤ 10 * j + total D j ∧ Below w.heap.size w w2') := by
                  have := HLS.out
                  exact ⟨k + 1, v, u, _, _, by go_num, by omega, hp2, HL.out _ (by omega), HL.out _ (by omega), hB1.trans (hB2.mono (by omega))⟩
                clear cD hB2 hp2 hp1 hB1 hs1 HLS
                go_wp2
                go_roundw
                case rel => exact HFIN.out
                case measure => simp [intOf]; omega
      · obtain rfl : k = n := by omega
        have cD := done_any B B C v u s t wr hp (by omega)
        have HP2 : Hid (∀ w5, Below wr.heap.size wr w5 → Calls Try.prog 31 #[.pointer (some ⟨B, 0, none⟩), .pointer (some ⟨C, 0, none⟩)] w5 fun r w' => r = .returned (.bool true) ∧ Below w5.heap.size w5 w') := fun w5 h5 => done_any B B C v u s t w5 (hp.below h5) (by omega)
        have hcw : w.heap.size ≤ wr.heap.size := hBr.size
        clear hp
        go_wp2_with fail
        refine cD.mono ?_
        rintro r w5 ⟨rfl, hB5⟩
        clear cD
        go_wp2_with fail
        refine Calls.mono (HP2.out _ hB5) ?_
        rintro r w6 ⟨rfl, hB6⟩
        have hz5 := hB5.size
        have HF : Hid (Below w.heap.size w w6) := (hBr.trans (hB5.mono hcw)).trans (hB6.mono (by omega))
        clear hB5 hB6 hBr
        go_wp2
        go_ret
        exact ⟨rfl, HF.out⟩
  · have hs' : decide ((300 : Int) < (n : Int)) = true ∨ (decide ((300 : Int) < (n : Int)) = false ∧ t = false) := by
      by_cases h : n ≤ 300
      · exact .inr ⟨by simp; omega, by cases t with | false => rfl | true => exact absurd ⟨h, rfl⟩ hgo⟩
      · exact .inl (by simp; omega)
    clear hgo ht
    rcases hs' with hs' | ⟨hs1, rfl⟩
    all_goals
      go_wp2
      go_ret
      exact ⟨rfl, hB12⟩
end Go.Proofs.Ytndgfkgfonfliaa
