/-
  The loader's loops.
-/
import Derived.Test.YtglhjgfaelfleaaGreatLp
namespace Go.Proofs.YtglhjgfaelfleaaGreat
open Go.RowKit
set_option linter.unusedVariables false

theorem Ls.below {w W W' : World} {L R : Nat} {l : Bs} {t : Ld} {b mp ms : Nat} {K : KV} (h : Ls w W L R l t b mp ms K) (hB : Below W.heap.size W W') : Ls w W' L R l t b mp ms K := h.go (h.lo.below hB) (Out.of_below hB)

/-- All pairs, all sessions. -/
def prsF (l : Bs) (t : Ld) : (Bs × List (Bs × Bs)) × Ld := itr (pairF l) (cntF l 128 t).1 (([], []), (cntF l 128 t).2)
def sssF (l : Bs) (t : Ld) : (Nat × List Se) × Ld := itr (sesF l) (cntF l 32 t).1 ((0, []), (cntF l 32 t).2)

theorem gt_before (a k : Bs) : (!Op.bytesLess k a && !k == a) = bytesBefore a k := by
  rw [bytesLess_before]
  by_cases e : k = a
  · subst e; simp [WideAt.bytes_irrefl]
  · have e' : (k == a) = false := by simpa using e
    rw [e']
    rcases WideAt.bytes_total k a e with h | h
    · have h2 : bytesBefore a k = false := by
        cases q : bytesBefore a k
        · rfl
        · have := WideShapes.bytes_trans _ _ _ h q
          rw [WideAt.bytes_irrefl] at this; cases this
      rw [h, h2]; rfl
    · have h2 : bytesBefore k a = false := by
        cases q : bytesBefore k a
        · rfl
        · have := WideShapes.bytes_trans _ _ _ h q
          rw [WideAt.bytes_irrefl] at this; cases this
      rw [h, h2]; rfl

set_option maxRecDepth 100000 in
set_option maxHeartbeats 800000 in
theorem pairs_any {w W : World} {L R : Nat} {l : Bs} {t : Ld} {b mp ms : Nat} (h : Ls w W L R l t b mp ms ⟨[], []⟩) :
    Calls Tryz.prog 21 #[.pointer (some ⟨L, 0, none⟩), .pointer (some ⟨b, 0, none⟩)] W fun e w' =>
      e = .returned (.tuple #[]) ∧ Ls w w' L R l (prsF l t).2 b mp ms ⟨(prsF l t).1.2, []⟩ := by
  unfold prsF
  have CC := count_any h.lo 128 (by omega)
  have hle := cntF_le l 128 t
  have H0 : Hid (Ls w W L R l t b mp ms ⟨[], []⟩) := h
  generalize cntF l 128 t = ct at *
  obtain ⟨n, t1⟩ := ct
  dsimp only at CC hle ⊢
  clear h
  go_enter Tryz.func21, Tryz.ntmps21
  go_wp2_with fail
  refine CC.mono ?_
  rintro e w1 ⟨rfl, h1, hO1⟩
  have H1 : Hid (Ls w w1 L R l t1 b mp ms ⟨[], []⟩) := H0.out.go h1 hO1
  clear CC h1 hO1 H0
  go_wp2_with fail
  go_loopw [4, 8] (fun av kv wr => ∃ k : Nat, kv = .int .i64 (k : Int) ∧ k ≤ n ∧ av = .string ⟨(itr (pairF l) k (([], []), t1)).1.1.toArray⟩ ∧ (itr (pairF l) k (([], []), t1)).1.2.length ≤ k ∧ Ls w wr L R l (itr (pairF l) k (([], []), t1)).2 b mp ms ⟨(itr (pairF l) k (([], []), t1)).1.2, []⟩) (fun _ kv _ => n - (intOf kv).toNat)
  case atStart => exact ⟨0, rfl, Nat.zero_le _, rfl, Nat.le_refl _, H1.out⟩
  case round =>
    obtain ⟨k, rfl, hk, rfl, hpl, hL⟩ := hrel
    clear H1
    by_cases hlt : k < n
    · have hlt' : (k : Int) < (n : Int) := by omega
      have HN : Hid (itr (pairF l) (k + 1) (([], []), t1) = pairF l (itr (pairF l) k (([], []), t1))) := rfl
      generalize itr (pairF l) k (([], []), t1) = x at *
      obtain ⟨⟨ah, ps⟩, tx⟩ := x
      have HN2 : Hid (pairF l ((ah, ps), tx) = (((texF l 64 tx).1, putK kP ((texF l 64 tx).1, (texF l 1024 (mustF (bytesBefore ah (texF l 64 tx).1) 4 (texF l 64 tx).2)).1) ps), (texF l 1024 (mustF (bytesBefore ah (texF l 64 tx).1) 4 (texF l 64 tx).2)).2)) := rfl
      dsimp only at hpl hL ⊢
      have CT := text_any hL.lo 64
      have hkl := texF_len l 64 tx
      have hll := hL.lo.len
      generalize texF l 64 tx = kt at *
      obtain ⟨ky, ta⟩ := kt
      dsimp only at CT HN2 hkl
      have HM : Hid (∀ V, Lo w V L R l ta → Calls Tryz.prog 45 #[.pointer (some ⟨L, 0, none⟩), .bool (bytesBefore ah ky), .int .i64 ((4 : Nat) : Int)] V fun e w' => LoR w V L R l (.tuple #[]) (mustF (bytesBefore ah ky) 4 ta) e w') := fun V h1 => must_any h1 _ 4
      generalize mustF (bytesBefore ah ky) 4 ta = tb at *
      have HT : Hid (∀ V, Lo w V L R l tb → Calls Tryz.prog 44 #[.pointer (some ⟨L, 0, none⟩), .int .i64 1024] V fun e w' => LoR w V L R l (.string ⟨(texF l 1024 tb).1.toArray⟩) (texF l 1024 tb).2 e w') := fun V h2 => text_any h2 1024
      generalize texF l 1024 tb = vt at *
      obtain ⟨vl, tc⟩ := vt
      dsimp only at HT HN2
      have HL : Hid (Ls w wr L R l tx b mp ms ⟨ps, []⟩) := hL
      clear hL
      go_wp2_with fail
      refine CT.mono ?_
      rintro e w2 ⟨rfl, h2, hO2⟩
      have H2 : Hid (Ls w w2 L R l ta b mp ms ⟨ps, []⟩) := HL.out.go h2 hO2
      clear CT h2 hO2 HL
      go_wp2_with fail
      rw [gt_before ah ky]
      refine (HM.out _ H2.out.lo).mono ?_
      rintro e w3 ⟨rfl, h3, hO3⟩
      have H3 : Hid (Ls w w3 L R l tb b mp ms ⟨ps, []⟩) := H2.out.go h3 hO3
      clear HM h3 hO3 H2
      go_wp2_with fail
      refine (HT.out _ H3.out.lo).mono ?_
      rintro e w4 ⟨rfl, h4, hO4⟩
      have H4 : Hid (Ls w w4 L R l tc b mp ms ⟨ps, []⟩) := H3.out.go h4 hO4
      clear HT h4 hO4 H3
      have CS := setw_any H4.out.sw ky vl (by omega) (by dsimp only; omega)
      have HS : Hid (Calls _ _ _ _ _) := CS
      clear CS
      go_wp2_with fail
      refine HS.out.mono ?_
      rintro e w5 ⟨rfl, h5, hO5⟩
      have H5 : Hid (Ls w w5 L R l tc b mp ms ⟨putK kP (ky, vl) ps, []⟩) := H4.out.st h5 (hO5.mono (fun i hi => .inl hi))
      clear HS h5 hO5 H4
      go_wp2
      go_roundw
      case rel => exact ⟨k + 1, by go_num, by omega, by rw [HN.out, HN2.out], by rw [HN.out, HN2.out]; have := len_putK_le (κ := kP) (ky, vl) ps; show (putK kP (ky, vl) ps).length ≤ k + 1; omega, by rw [HN.out, HN2.out]; exact H5.out⟩
      case measure => simp [intOf]; omega
    · have hlt' : decide ((k : Int) < (n : Int)) = false := by simp; omega
      obtain rfl : k = n := by omega
      go_wp2
      go_returns
      exact ⟨rfl, hL⟩

set_option maxRecDepth 100000 in
set_option maxHeartbeats 800000 in
theorem lsessions_any {w W : World} {L R : Nat} {l : Bs} {t : Ld} {b mp ms : Nat} {ps : List (Bs × Bs)} (h : Ls w W L R l t b mp ms ⟨ps, []⟩) :
    Calls Tryz.prog 22 #[.pointer (some ⟨L, 0, none⟩), .pointer (some ⟨b, 0, none⟩)] W fun e w' =>
      e = .returned (.tuple #[]) ∧ Ls w w' L R l (sssF l t).2 b mp ms ⟨ps, (sssF l t).1.2⟩ := by
  unfold sssF
  have CC := count_any h.lo 32 (by omega)
  have hle := cntF_le l 32 t
  have H0 : Hid (Ls w W L R l t b mp ms ⟨ps, []⟩) := h
  generalize cntF l 32 t = ct at *
  obtain ⟨n, t1⟩ := ct
  dsimp only at CC hle ⊢
  clear h
  go_enter Tryz.func22, Tryz.ntmps22
  go_wp2_with fail
  refine CC.mono ?_
  rintro e w1 ⟨rfl, h1, hO1⟩
  have H1 : Hid (Ls w w1 L R l t1 b mp ms ⟨ps, []⟩) := H0.out.go h1 hO1
  clear CC h1 hO1 H0
  go_wp2_with fail
  go_loopw [4, 8] (fun av kv wr => ∃ k : Nat, kv = .int .i64 (k : Int) ∧ k ≤ n ∧ av = .int .i64 ((itr (sesF l) k ((0, []), t1)).1.1 : Int) ∧ (itr (sesF l) k ((0, []), t1)).1.2.length ≤ k ∧ Ls w wr L R l (itr (sesF l) k ((0, []), t1)).2 b mp ms ⟨ps, (itr (sesF l) k ((0, []), t1)).1.2⟩) (fun _ kv _ => n - (intOf kv).toNat)
  case atStart => exact ⟨0, rfl, Nat.zero_le _, rfl, Nat.le_refl _, H1.out⟩
  case round =>
    obtain ⟨k, rfl, hk, rfl, hpl, hL⟩ := hrel
    clear H1
    by_cases hlt : k < n
    · have hlt' : (k : Int) < (n : Int) := by omega
      have HN : Hid (itr (sesF l) (k + 1) ((0, []), t1) = sesF l (itr (sesF l) k ((0, []), t1))) := rfl
      generalize itr (sesF l) k ((0, []), t1) = x at *
      obtain ⟨⟨ah, ss⟩, tx⟩ := x
      have HN2 : Hid (sesF l ((ah, ss), tx) = (((numF l tx).1, putK kS ⟨((numF l tx).1 : Int), ((seqF l (mustF (decide (ah < (numF l tx).1)) 4 (numF l tx).2)).1 : Int), (rplF l (seqF l (mustF (decide (ah < (numF l tx).1)) 4 (numF l tx).2)).2).1⟩ ss), (rplF l (seqF l (mustF (decide (ah < (numF l tx).1)) 4 (numF l tx).2)).2).2)) := rfl
      dsimp only at hpl hL ⊢
      have CT := number_any hL.lo
      have hkl := numF_le l tx
      generalize numF l tx = kt at *
      obtain ⟨cl, ta⟩ := kt
      dsimp only at CT HN2 hkl
      have HM : Hid (∀ V, Lo w V L R l ta → Calls Tryz.prog 45 #[.pointer (some ⟨L, 0, none⟩), .bool (decide (ah < cl)), .int .i64 ((4 : Nat) : Int)] V fun e w' => LoR w V L R l (.tuple #[]) (mustF (decide (ah < cl)) 4 ta) e w') := fun V h1 => must_any h1 _ 4
      generalize mustF (decide (ah < cl)) 4 ta = tb at *
      have HT : Hid (∀ V, Lo w V L R l tb → Calls Tryz.prog 48 #[.pointer (some ⟨L, 0, none⟩)] V fun e w' => LoR w V L R l (.int .i64 ((seqF l tb).1 : Int)) (seqF l tb).2 e w') := fun V h2 => seq_any h2
      generalize seqF l tb = vt at *
      obtain ⟨sq, tc⟩ := vt
      dsimp only at HT HN2
      have HR : Hid (∀ V, Lo w V L R l tc → Calls Tryz.prog 49 #[.pointer (some ⟨L, 0, none⟩)] V fun e w' => LoR w V L R l (.agg #[.int .i64 (rplF l tc).1.code, .string ⟨(rplF l tc).1.val.toArray⟩]) (rplF l tc).2 e w') := fun V h2 => reply_any h2
      generalize rplF l tc = vr at *
      obtain ⟨⟨rc, rv⟩, td⟩ := vr
      dsimp only at HR HN2
      have HL : Hid (Ls w wr L R l tx b mp ms ⟨ps, ss⟩) := hL
      clear hL
      have hdd : decide ((ah : Int) < (cl : Int)) = decide (ah < cl) := by simp
      go_wp2_with fail
      refine CT.mono ?_
      rintro e w2 ⟨rfl, h2, hO2⟩
      have H2 : Hid (Ls w w2 L R l ta b mp ms ⟨ps, ss⟩) := HL.out.go h2 hO2
      clear CT h2 hO2 HL
      go_wp2_with fail
      try rw [hdd]
      refine (HM.out _ H2.out.lo).mono ?_
      rintro e w3 ⟨rfl, h3, hO3⟩
      have H3 : Hid (Ls w w3 L R l tb b mp ms ⟨ps, ss⟩) := H2.out.go h3 hO3
      clear HM h3 hO3 H2 hdd
      obtain ⟨c0, c1⟩ := H3.out.sw.cells
      have H3d : Hid (Ls w w3.drew L R l tb b mp ms ⟨ps, ss⟩) := H3.out.below (Below.drew' (Below.refl _ _))
      clear H3
      go_wp2_with fail
      go_region_held3 (fun V => V.cell? ⟨b, 1, none⟩ = some (.map (some ms))) (go_keep)
        (first
          | (go_at_call 48; refine (HT.out w3.drew H3d.out.lo).mono ?_; rintro e w4 ⟨rfl, h4, hO4⟩; have H4 : Hid (Ls w w4 L R l tc b mp ms ⟨ps, ss⟩) := H3d.out.go h4 hO4; obtain ⟨d0, d1⟩ := H4.out.sw.cells; clear HT h4 hO4 H3d)
          | (go_at_call 49; refine (HR.out w4 H4.out.lo).mono ?_; rintro e w5 ⟨rfl, h5, hO5⟩; have H5 : Hid (Ls w w5 L R l td b mp ms ⟨ps, ss⟩) := H4.out.go h5 hO5; obtain ⟨e0, e1⟩ := H5.out.sw.cells; obtain ⟨w6, hr6, h6, hO6, -⟩ := H5.out.sw.putS ⟨(cl : Int), (sq : Int), ⟨rc, rv⟩⟩ ⟨by dsimp only; omega, by dsimp only; omega⟩ (by dsimp only; omega); dsimp only at hr6; have H6 : Hid (Ls w w6 L R l td b mp ms ⟨ps, putK kS ⟨(cl : Int), (sq : Int), ⟨rc, rv⟩⟩ ss⟩) := H5.out.st h6 (hO6.mono (fun i hi => .inr hi)); obtain ⟨g0, g1⟩ := H6.out.sw.cells; clear HR h5 hO5 H4 h6 hO6 H5)
          | fail)
      all_goals
        go_wp2
        go_roundw
        case rel => exact ⟨k + 1, by go_num, by omega, by rw [HN.out, HN2.out], by rw [HN.out, HN2.out]; have := len_putK_le (κ := kS) ⟨(cl : Int), (sq : Int), ⟨rc, rv⟩⟩ ss; show (putK kS _ ss).length ≤ k + 1; omega, by rw [HN.out, HN2.out]; exact H6.out⟩
        case measure => simp [intOf]; omega
    · have hlt' : decide ((k : Int) < (n : Int)) = false := by simp; omega
      obtain rfl : k = n := by omega
      go_wp2
      go_returns
      exact ⟨rfl, hL⟩

/-- What is restored: the lists, and the error. -/
def rst2 (l : Bs) : (Nat × List Se) × Ld := sssF l (prsF l ⟨0, 0, 0⟩).2
def rstK (l : Bs) : KV := ⟨(prsF l ⟨0, 0, 0⟩).1.2, (rst2 l).1.2⟩
def rstE (l : Bs) : Nat := donF l (rst2 l).2

/-- Restore's answer. -/
def RsR (W : World) (l : Bs) (e : Ending) (w' : World) : Prop :=
  Below W.heap.size W w' ∧ ((rstE l ≠ 0 ∧ e = .returned (.tuple #[.pointer none, .int .i64 (rstE l : Int)])) ∨ (rstE l = 0 ∧ ∃ b mp ms, e = .returned (.tuple #[.pointer (some ⟨b, 0, none⟩), .int .i64 0]) ∧ Sw w' b mp ms (rstK l) ∧ W.heap.size ≤ mp ∧ W.heap.size ≤ ms))

set_option maxRecDepth 100000 in
set_option maxHeartbeats 800000 in
theorem restore_any {M : Nat} {v : Value} {l : Bs} (W : World) (hv : Sl M W v l) (hl : l.length ≤ 1099511627776) :
    Calls Tryz.prog 7 #[v] W fun e w' => RsR W l e w' := by
  obtain ⟨va, vc, rfl, -⟩ := id hv
  have HP : Hid (∀ V L R b mp ms, Ls W V L R l ⟨0, 0, 0⟩ b mp ms ⟨[], []⟩ → Calls Tryz.prog 21 #[.pointer (some ⟨L, 0, none⟩), .pointer (some ⟨b, 0, none⟩)] V fun e w' => e = .returned (.tuple #[]) ∧ Ls W w' L R l (prsF l ⟨0, 0, 0⟩).2 b mp ms ⟨(prsF l ⟨0, 0, 0⟩).1.2, []⟩) := fun V L R b mp ms h => pairs_any h
  have HE0 : Hid (rstE l = donF l (sssF l (prsF l ⟨0, 0, 0⟩).2).2) := rfl
  have HK0 : Hid (rstK l = ⟨(prsF l ⟨0, 0, 0⟩).1.2, (sssF l (prsF l ⟨0, 0, 0⟩).2).1.2⟩) := rfl
  unfold RsR
  rw [HE0.out, HK0.out]
  clear HE0 HK0
  generalize prsF l ⟨0, 0, 0⟩ = x1 at *
  obtain ⟨⟨ah1, ps1⟩, t1⟩ := x1
  dsimp only at HP ⊢
  have HQ : Hid (∀ V L R b mp ms, Ls W V L R l t1 b mp ms ⟨ps1, []⟩ → Calls Tryz.prog 22 #[.pointer (some ⟨L, 0, none⟩), .pointer (some ⟨b, 0, none⟩)] V fun e w' => e = .returned (.tuple #[]) ∧ Ls W w' L R l (sssF l t1).2 b mp ms ⟨ps1, (sssF l t1).1.2⟩) := fun V L R b mp ms h => lsessions_any h
  generalize sssF l t1 = x2 at *
  obtain ⟨⟨ah2, ss2⟩, t2⟩ := x2
  dsimp only at HQ ⊢
  have HD : Hid (∀ V L R, Lo W V L R l t2 → Calls Tryz.prog 23 #[.pointer (some ⟨L, 0, none⟩)] V fun e w' => e = .returned (.int .i64 (donF l t2 : Int)) ∧ Below V.heap.size V w') := fun V L R h => ldone_any h
  generalize donF l t2 = er at *
  have CR := newReader_any M _ l W hv hl
  have HLL : Hid (l.length ≤ 1099511627776) := hl
  clear hv
  go_enter Tryz.func7, Tryz.ntmps7
  go_wp2_with fail
  refine CR.mono ?_
  rintro e w1 ⟨R, rfl, h1, hB1⟩
  clear CR
  obtain ⟨w2, HW2⟩ : ∃ w2, Hid (w1.alloc (.cells #[.pointer (some ⟨R, 0, none⟩), .int .i64 0] 54) = w2) := ⟨_, rfl⟩
  have H2 : Hid (Lo W w2 w1.heap.size R l ⟨0, 0, 0⟩) := by
    rw [← HW2.out]
    have hB : Below w1.heap.size w1 (w1.alloc (.cells #[.pointer (some ⟨R, 0, none⟩), .int .i64 0] 54)) := (Below.refl _ _).alloc (Nat.le_refl _) _
    exact ⟨h1.below hB (Nat.le_refl _), HLL.out, Nat.zero_le _, heap_alloc_new w1 _, hB1.trans (hB.mono hB1.size), hB1.size⟩
  clear h1 hB1
  have CN := new_any w2
  go_wp2_with fail
  try rw [HW2.out]
  generalize w1.heap.size = L at *
  refine CN.mono ?_
  rintro e w3 ⟨rfl, h3, hB3, hz3⟩
  have H3 : Hid (Ls W w3 L R l ⟨0, 0, 0⟩ (w2.heap.size + 2) w2.heap.size (w2.heap.size + 1) ⟨[], []⟩) := ⟨H2.out.below hB3, h3.sw, by have := H2.out.bel.size; omega⟩
  clear CN h3 hB3 hz3 H2 HW2
  generalize w2.heap.size + 2 = b at *
  generalize w2.heap.size + 1 = ms at *
  generalize w2.heap.size = mp at *
  go_wp2_with fail
  refine (HP.out _ _ _ _ _ _ H3.out).mono ?_
  rintro e w4 ⟨rfl, h4⟩
  have H4 : Hid (Ls W w4 L R l t1 b mp ms ⟨ps1, []⟩) := h4
  clear HP h4 H3
  go_wp2_with fail
  refine (HQ.out _ _ _ _ _ _ H4.out).mono ?_
  rintro e w5 ⟨rfl, h5⟩
  have H5 : Hid (Ls W w5 L R l t2 b mp ms ⟨ps1, ss2⟩) := h5
  clear HQ h5 H4
  go_wp2_with fail
  refine (HD.out _ _ _ H5.out.lo).mono ?_
  rintro e w6 ⟨rfl, hB6⟩
  have HB6 : Hid (Below W.heap.size W w6) := H5.out.lo.bel.trans (hB6.mono H5.out.lo.bel.size)
  have HS6 : Hid (Sw w6 b mp ms ⟨ps1, ss2⟩) := H5.out.sw.below hB6
  have HLM : Hid (W.heap.size ≤ mp ∧ W.heap.size ≤ ms) := H5.out.lm
  clear HD hB6 H5
  by_cases he : er = 0
  · subst he
    go_wp2
    go_ret2
    exact ⟨HB6.out, _, rfl, _, _, HS6.out, HLM.out⟩
  · have he' : ((er : Int) != 0) = true := by simpa using he
    go_wp2
    go_ret2
    exact ⟨HB6.out, .inl ⟨he, rfl⟩⟩
end Go.Proofs.YtglhjgfaelfleaaGreat
