/-
  The form of an act's line.
-/
import Derived.Test.YtbckogojnjmjcaaGreatDoorB6
import Derived.Test.YtbckogojnjmjcaaGreatDoorB5
namespace Go.Proofs.YtbckogojnjmjcaaGreatDoor
open Go.RowKit Go.Shelf

/-- What formOfAct answers. -/
def FaR (a : Ac) (e : Ending) (w' : World) : Prop := match formOf formsL a 6 with
  | .error k => e = .returned (.tuple #[.agg fo0, .int .i64 (k : Int)])
  | .ok f => ∃ pb, e = .returned (.tuple #[.agg (f.cs pb), .int .i64 0]) ∧ PlAt w' pb f.pl
theorem formOf_step {l : List Fo} {k : Nat} {f : Fo} (hk : l[k]? = some f) (a : Ac) (e : Nat) : formOf (l.drop k) a e = if f.kind ≠ a.kind then formOf (l.drop (k + 1)) a e else if f.fits a = true then .ok f else formOf (l.drop (k + 1)) a 20 := by
  obtain ⟨h1, h2⟩ := List.getElem?_eq_some_iff.1 hk
  rw [List.drop_eq_getElem_cons h1, h2, formOf]
set_option maxRecDepth 100000 in
set_option maxHeartbeats 4000000 in
theorem formOfAct_any (a : Ac) (w : World) : Calls Tryz.prog 49 #[.agg a.cells] w fun e w' => FaR a e w' ∧ Below w.heap.size w w' := by
  obtain ⟨W2, hW2⟩ : ∃ W2, (w.alloc (.cells a.cells 34)).alloc (.cells fo0 107) = W2 := ⟨_, rfl⟩
  have HFO := forms_any W2
  have hs2 : W2.heap.size = w.heap.size + 2 := by rw [← hW2]; simp
  have HX0 : Hid (W2.heap[w.heap.size + 1]? = some (.cells fo0 107 (0, 0))) := by
    show _ = _
    rw [← hW2]
    have := heap_alloc_new (w.alloc (.cells a.cells 34)) (.cells fo0 107)
    rwa [World.size_alloc] at this
  have HA0 : Hid (AcAt W2 w.heap.size a) := by show AcAt _ _ _; unfold AcAt; rw [← hW2, Below.heap_alloc _ _ _ (by simp)]; exact heap_alloc_new w _
  have HB0 : Hid (Below w.heap.size w W2) := by show Below _ _ _; rw [← hW2]; exact ((Below.refl _ _).alloc (Nat.le_refl _) _).alloc (by simp) _
  have HW2 : Hid (_ = W2) := hW2
  rw [hs2] at HFO
  have HFT := fits_any
  clear hW2
  unfold Ac.cells str fo0 at HW2
  unfold Ac.cells str
  go_enter Tryz.func49, Tryz.ntmps49
  go_wp2_with fail
  rw [HW2.out]
  refine HFO.mono ?_
  rintro e w1 ⟨rfl, hF1, hB1⟩
  have HF1 : Hid (FoAt (w.heap.size + 2) w1) := hF1
  have HX1 : Hid (w1.heap[w.heap.size + 1]? = some (.cells fo0 107 (0, 0))) := (hB1.block _ (by omega)).trans HX0.out
  have HA1 : Hid (AcAt w1 w.heap.size a) := (hB1.block _ (by omega)).trans HA0.out
  have HB1 : Hid (Below w.heap.size w w1) := HB0.out.trans (hB1.mono (by omega))
  have hs1 : w.heap.size + 30 < w1.heap.size := by have := (Array.getElem?_eq_some_iff.1 hF1.big).1; omega
  clear hF1 hB1 HFO HX0 HB0 HA0 HW2
  go_wp2
  go_loopw [4, 9] (fun ve i wr => ∃ (k er : Nat), ve = .int .i64 er ∧ i = .int .i64 k ∧ k ≤ 20 ∧ Hid (formOf formsL a 6 = formOf (formsL.drop k) a er) ∧ Hid (Below w1.heap.size w1 wr)) (fun _ i _ => 20 - (intOf i).toNat)
  case atStart => exact ⟨0, 6, rfl, rfl, by omega, by show _ = _; rw [List.drop_zero], Below.refl _ _⟩
  case round =>
    obtain ⟨k, er, rfl, rfl, hk, HFI, HBR⟩ := hrel
    have hzr : w1.heap.size ≤ wr.heap.size := HBR.out.size
    have HXr : Hid (wr.heap[w.heap.size + 1]? = some (.cells fo0 107 (0, 0))) := (HBR.out.block _ (by omega)).trans HX1.out
    have hXr := HXr.out
    unfold fo0 at hXr
    obtain ⟨⟨r0, r1, r2, r3, r4, r5, r6, r7, r8, r9, r10⟩, rf⟩ := cells11 hXr
    have hAr : AcAt wr w.heap.size a := (HBR.out.block _ (by omega)).trans HA1.out
    obtain ⟨a0, a1, a2, a3, a4, a5, a6, a7, a8⟩ := hAr.cells
    clear hXr hAr
    have HBW : Hid (Below w.heap.size w wr) := HB1.out.trans (HBR.out.mono (by omega))
    by_cases hlt : k < 20
    · obtain ⟨f, hf⟩ : ∃ f, formsL[k]? = some f := ⟨_, List.getElem?_eq_getElem (by rw [formsL_length]; exact hlt)⟩
      have hFr : FoAt (w.heap.size + 2) wr := HF1.out.below HBR.out
      obtain ⟨c0, c1, c2, c3, c4, c5, c6, c7, c8, c9, c10⟩ := hFr.cells hf
      have HPL : Hid (PlAt wr (w.heap.size + 2 + 8 + k) f.pl) := hFr.plc k f hf
      have HST : Hid (formOf formsL a 6 = _) := HFI.out.trans (formOf_step hf a er)
      obtain ⟨rc1, rf1⟩ := stays (W := wr) (R := w.heap.size) (by omega)
      obtain ⟨rc2, rf2⟩ := stays (W := wr) (R := w.heap.size + 1) (by omega)
      clear hFr hf
      by_cases hkd : f.kind = a.kind
      case neg =>
        have hkb : (f.kind != a.kind) = true := by simpa using hkd
        have HST2 : Hid (formOf formsL a 6 = formOf (formsL.drop (k + 1)) a er) := by show _ = _; rw [HST.out, if_pos hkd]
        clear HST hkd
        go_wp2
        go_roundw
        case rel => exact ⟨k + 1, er, rfl, by simp, by omega, HST2.out, HBR.out.alloc hzr _⟩
        case measure => simp [intOf]; omega
      have hkb : (f.kind != a.kind) = false := by simpa using hkd
      have HFX := fun W => HFT f (w.heap.size + 2 + 8 + k) a W
      unfold Fo.cs Ac.cells str at HFX
      cases hft : f.fits a with
      | false =>
        have HST2 : Hid (formOf formsL a 6 = formOf (formsL.drop (k + 1)) a 20) := by show _ = _; rw [HST.out, if_neg (fun h => h hkd), if_neg (by rw [hft]; decide)]
        rw [hft] at HFX
        clear HST hkd hft HFT
        go_wp2_with (go_at_call 75; refine (HFX _).mono ?_; rintro e w5 ⟨rfl, hB5⟩)
        go_roundw
        case rel => exact ⟨k + 1, 20, rfl, by simp, by omega, HST2.out, (HBR.out.alloc hzr _).trans (hB5.mono (by simp; omega))⟩
        case measure => simp [intOf]; omega
      | true =>
        have HST2 : Hid (formOf formsL a 6 = .ok f) := by show _ = _; rw [HST.out, if_neg (fun h => h hkd), if_pos hft]
        rw [hft] at HFX
        clear HST hkd hft HFT
        go_wp2_with fail
        refine (HFX _).mono ?_
        rintro e w5 ⟨rfl, hB5⟩
        have hXf := (hB5.block wr.heap.size (by simp)).trans (heap_alloc_new wr _)
        have hX5 : w5.heap[w.heap.size + 1]? = some (.cells fo0 107 (0, 0)) := (hB5.block _ (by simp; omega)).trans ((Below.heap_alloc _ _ _ (by omega)).trans HXr.out)
        have HX5 : Hid (w5.heap[w.heap.size + 1]? = some (.cells fo0 107 (0, 0))) := hX5
        have HP5 : Hid (PlAt w5 (w.heap.size + 2 + 8 + k) f.pl) := (HPL.out.below ((Below.refl _ _).alloc (Nat.le_refl _) _)).below hB5
        have HBW5 : Hid (Below w.heap.size w w5) := (HBW.out.alloc (by omega) _).trans (hB5.mono (by simp; omega))
        have hs5 : w.heap.size + 30 < w5.heap.size := by have := hB5.size; simp at this; omega
        unfold fo0 at hX5
        clear r0 r1 r2 r3 r4 r5 r6 r7 r8 r9 r10 rf rc1 rf1 rc2 rf2 c0 c1 c2 c3 c4 c5 c6 c7 c8 c9 c10 a0 a1 a2 a3 a4 a5 a6 a7 a8
        obtain ⟨⟨r0, r1, r2, r3, r4, r5, r6, r7, r8, r9, r10⟩, rf⟩ := cells11 hX5
        obtain ⟨⟨b0, b1, b2, b3, b4, b5, b6, b7, b8, b9, b10⟩, -⟩ := cells11 hXf
        clear hXf hX5 hB5
        go_wp2
        refine bodyPost_ret (results_Fb rfl _ _ (w.heap.size + 1) rfl rfl (set11 HX5.out _ _ _ _ _ _ _ _ _ _ _)) rfl ?_
        refine ⟨?_, ?_⟩
        · unfold FaR
          rw [HST2.out]
          refine ⟨_, rfl, ?_⟩
          exact HP5.out.out (out11 (X := fun i => i = w.heap.size + 1) rfl _ _ _ _ _ _ _ _ _ _ _) (by omega)
        · exact HBW5.out.trans ((out11 (X := fun i => i = w.heap.size + 1) rfl _ _ _ _ _ _ _ _ _ _ _).below (by omega) (by intro i hi; omega))
    · have : k = 20 := by omega
      subst this
      have HST2 : Hid (formOf formsL a 6 = .error er) := HFI.out
      go_wp2
      refine bodyPost_ret (results_Fb rfl _ _ (w.heap.size + 1) rfl rfl (set11 HXr.out _ _ _ _ _ _ _ _ _ _ _)) rfl ?_
      refine ⟨?_, ?_⟩
      · unfold FaR
        rw [HST2.out]
        rfl
      · exact HBW.out.trans ((out11 (X := fun i => i = w.heap.size + 1) rfl _ _ _ _ _ _ _ _ _ _ _).below (by omega) (by intro i hi; omega))
end Go.Proofs.YtbckogojnjmjcaaGreatDoor
