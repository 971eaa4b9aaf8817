/-
  What Load refuses; long bytes.
-/
import Derived.Test.YtbjnhohfdpdcnaaLod
namespace Go.Proofs.Ytbjnhohfdpdcnaa
open Go.RowKit
set_option linter.unusedVariables false
theorem sumF_leX {fs : List Fl} (h : ∀ f ∈ fs, f.dat.length ≤ 140737488351232) : sumF fs ≤ fs.length * 140737488351232 := by
  induction fs with
  | nil => simp [sumF]
  | cons f r ih =>
    have h1 := h f (by simp)
    have h2 := ih (fun x hx => h x (by simp [hx]))
    simp only [sumF, List.map_cons, List.sum_cons, List.length_cons] at *
    omega
set_option maxRecDepth 100000 in
set_option maxHeartbeats 8000000 in
theorem tooMuch_anyX (a : Option Addr) (c : Nat) (fs : List Fl) (N : Nat) (w : World) (h : FlsAt N w a fs) (hN : N ≤ w.heap.size) (hz : ∀ f ∈ fs, f.dat.length ≤ 140737488351232) (hl : fs.length ≤ 9223372036854775807) :
    Calls Try.prog 62 #[.slice a fs.length c] w fun r w' => r = .returned (.bool (decide (256 < fs.length ∨ 16777216 < sumF fs))) ∧ Below w.heap.size w w' := by
  have H1 : Hid (FlsAt N w a fs) := h
  have HZ : Hid (∀ f ∈ fs, f.dat.length ≤ 140737488351232) := hz
  clear h hz
  by_cases hbig : 256 < fs.length
  · have e : decide (256 < fs.length ∨ 16777216 < sumF fs) = true := by simp [hbig]
    rw [e]
    clear e
    have hb : (256 : Int) < (fs.length : Int) := by omega
    go_enter Try.func62, Try.ntmps62
    go_wp2
    go_ret
    exact ⟨rfl, Below.refl _ _⟩
  have hb : decide ((256 : Int) < (fs.length : Int)) = false := by simp; omega
  have HE : Hid (decide (256 < fs.length ∨ 16777216 < sumF fs) = decide ((16777216 : Int) < (sumF fs : Int))) := by
    show decide _ = decide _
    rw [decide_eq_decide]
    omega
  have hsf := sumF_leX HZ.out
  go_enter Try.func62, Try.ntmps62
  go_wp2
  go_loopw [3, 11] (fun sv iv wr => ∃ (i : Nat), iv = .int .i64 (i : Int) ∧ sv = .int .i64 (sumF (fs.take i) : Int) ∧ i ≤ fs.length ∧ Below w.heap.size w wr) (fun _ iv _ => fs.length - (intOf iv).toNat)
  case atStart => exact ⟨0, rfl, by simp [sumF], Nat.zero_le _, Below.refl _ _⟩
  case round =>
    obtain ⟨i, rfl, rfl, hi, hB⟩ := hrel
    have HB : Hid (Below w.heap.size w wr) := hB
    by_cases hlt : i < fs.length
    · obtain ⟨b, off, rfl, hb1, hx⟩ := H1.out.at hlt
      obtain ⟨p0, p1, p2, p3⟩ := hx.below hb1 (hB.mono hN)
      have HS : Hid (sumF (fs.take (i + 1)) = sumF (fs.take i) + (fs.getD i nilFl).dat.length) := sumF_take hlt
      have hle := sumF_take_le fs i
      have hle2 := sumF_take_le fs (i + 1)
      have h9 := HZ.out _ (getD_fl hlt)
      rw [HS.out] at hle2
      generalize sumF (fs.take i) = acc at *
      generalize fs.getD i nilFl = f at *
      obtain ⟨nm, fa, fc, dat, syn⟩ := f
      unfold Fl.x at p1 p3
      simp only at p0 p1 p2 p3 hle2 h9
      have hi1 : (i : Int) < (fs.length : Int) := by omega
      clear hx hB p3
      go_wp2
      exact ⟨⟨i + 1, by go_num, by rw [HS.out]; simp, by omega, HB.out.alloc HB.out.size _⟩, by simp [intOf]; omega⟩
    · have e9 : fs.take i = fs := List.take_of_length_le (by omega)
      rw [e9]
      go_wp2
      go_ret
      exact ⟨by rw [HE.out]; rfl, HB.out⟩
set_option maxRecDepth 100000 in
set_option maxHeartbeats 8000000 in
theorem checkAll_anyX (a : Option Addr) (c : Nat) (fs : List Fl) (N : Nat) (w : World) (h : FlsAt N w a fs) (hN : N ≤ w.heap.size) (hz : ∀ f ∈ fs, f.dat.length ≤ 140737488351232 ∧ f.nm.length ≤ maxLen) (hl : fs.length ≤ 1000000) :
    Calls Try.prog 50 #[.slice a fs.length c] w fun r w' => r = .returned (.int .i64 (loadE fs : Int)) ∧ Below w.heap.size w w' := by
  have H1 : Hid (FlsAt N w a fs) := h
  have HZ : Hid (∀ f ∈ fs, f.dat.length ≤ 140737488351232 ∧ f.nm.length ≤ maxLen) := hz
  clear h hz
  have hmm := @run_makeMap Try.prog
  go_enter Try.func50, Try.ntmps50
  go_wp2
  go_loopw [10] (fun iv wr => ∃ (i : Nat), iv = .int .i64 (i : Int) ∧ i ≤ fs.length ∧ SetIs wr w.heap.size ((fs.take i).map Fl.nm) ∧ chkFls [] fs = chkFls ((fs.take i).map Fl.nm) (fs.drop i) ∧ Below w.heap.size w wr) (fun iv _ => fs.length - (intOf iv).toNat)
  case atStart => exact ⟨0, rfl, Nat.zero_le _, ⟨0, .map [], World.ownsMap_made w Try.prog 9 unitElem, by simp, fun nm => rfl⟩, rfl, (Below.refl _ w).alloc (Nat.le_refl _) _⟩
  case round =>
    obtain ⟨i, rfl, hi, hS, hck, hB⟩ := hrel
    have HB : Hid (Below w.heap.size w wr) := hB
    have HC : Hid (chkFls [] fs = chkFls ((fs.take i).map Fl.nm) (fs.drop i)) := hck
    have HSet : Hid (SetIs wr w.heap.size ((fs.take i).map Fl.nm)) := hS
    clear hck
    by_cases hlt : i < fs.length
    · obtain ⟨b, off, rfl, hb1, hx⟩ := H1.out.at hlt
      obtain ⟨p0, p1, p2, p3⟩ := hx.below hb1 (hB.mono hN)
      have HST := chkFls_step fs hlt ((fs.take i).map Fl.nm)
      have HNT : Hid ((fs.take (i + 1)).map Fl.nm = (fs.take i).map Fl.nm ++ [(fs.getD i nilFl).nm]) := names_take hlt
      obtain ⟨h9, h8⟩ := HZ.out _ (getD_fl hlt)
      generalize fs.getD i nilFl = f at *
      have hBa : Below wr.heap.size wr (wr.alloc (.cells #[.string ⟨f.nm.toArray⟩, f.x, .int .i64 f.syn] 37)) := (Below.refl _ wr).alloc (Nat.le_refl _) _
      have hco := checkOne_any f ((fs.take i).map Fl.nm) w.heap.size (wr.alloc (.cells #[.string ⟨f.nm.toArray⟩, f.x, .int .i64 f.syn] 37)) (hS.below hBa) h8
      have hHB : (wr.alloc (.cells #[.string ⟨f.nm.toArray⟩, f.x, .int .i64 f.syn] 37)).heap[wr.heap.size]? = some (.cells #[.string ⟨f.nm.toArray⟩, f.x, .int .i64 f.syn] 37 (0, 0)) := heap_alloc_new wr _
      obtain ⟨nm, fa, fc, dat, syn⟩ := f
      unfold Fl.x at p1 p3 hco hHB hBa
      simp only at p0 p1 p2 p3 hco hHB HST HNT h8 hBa
      have hi1 : (i : Int) < (fs.length : Int) := by omega
      have HBa : Hid (Below wr.heap.size wr (wr.alloc (.cells #[.string ⟨nm.toArray⟩, .slice fa dat.length fc, .int .i64 syn] 37))) := hBa
      by_cases hz : chkFl ((fs.take i).map Fl.nm) ⟨nm, fa, fc, dat, syn⟩ = 0
      · rw [hz] at hco
        rw [if_neg (by simpa using hz)] at HST
        have HST2 : Hid (chkFls [] fs = chkFls ((fs.take i).map Fl.nm ++ [nm]) (fs.drop (i + 1))) := HC.out.trans HST
        clear hx hB hS hBa p3 HST hz
        go_wp2_with (first | (go_at_call 61; refine hco.mono ?_; rintro e w5 ⟨rfl, hB5⟩; have q0 : w5.cell? ⟨wr.heap.size, 0, none⟩ = some (.string ⟨nm.toArray⟩) := (by rw [World.cell?_of_block (a := ⟨wr.heap.size, 0, none⟩) (hB5.block wr.heap.size (by simp))]; simp only [World.cell?, hHB]; rfl); obtain ⟨n5, D5, ho5, hn5, hD5⟩ := (HSet.out.below HBa.out).below hB5; have HD5 : Hid (∀ nm, Maps.has D5 (.string nm) = ((fs.take i).map Fl.nm).contains nm) := hD5; have HB5 : Hid (Below w.heap.size w w5) := (HB.out.alloc HB.out.size _).trans (hB5.mono (by have := HB.out.size; simp; omega)); have hnl : n5 < 1000001 := (by have : ((fs.take i).map Fl.nm).length ≤ fs.length := (by simp; omega); omega); clear hD5 hB5) | (at_mapUpdate; refine wpList_mapUpdate_in _ rfl _ _ _ 85 rfl 9 87 law9 Try.underlying85 unitElem w.heap.size n5 D5 rfl ho5 (by unfold maxLen; omega) _ _ _ rfl rfl (key9 nm h8) (.agg []) [] unitElem_mk ?_; intro w6 h6 ht6) | go_in)
        refine ⟨⟨i + 1, by go_num, by omega, ?_, ?_, ?_⟩, by simp [intOf]; omega⟩
        · rw [HNT.out]; exact SetIs.add h6 ho5.isMap hn5 HD5.out
        · rw [HNT.out]; exact HST2.out
        · exact HB5.out.grown ht6.grown HB5.out.size (fun j hj => by cases hj; exact Nat.le_refl _)
      · have HEr : Hid (loadE fs = chkFl ((fs.take i).map Fl.nm) ⟨nm, fa, fc, dat, syn⟩) := by
          show loadE fs = _
          rw [if_pos hz] at HST
          have := HC.out.trans HST
          unfold loadE
          rw [this, if_pos hz]
        have hzi : (((chkFl ((fs.take i).map Fl.nm) ⟨nm, fa, fc, dat, syn⟩ : Nat) : Int) != 0) = true := by rw [bne_iff_ne]; omega
        generalize chkFl ((fs.take i).map Fl.nm) ⟨nm, fa, fc, dat, syn⟩ = er at *
        clear hx hB hS hBa p3 HST hz
        go_wp2_with (go_at_call 61; refine hco.mono ?_; rintro e w5 ⟨rfl, hB5⟩)
        go_ret
        exact ⟨by rw [HEr.out]; rfl, (HB.out.alloc HB.out.size _).trans (hB5.mono (by have := HB.out.size; simp; omega))⟩
    · have HE : Hid (chkFls [] fs = 0) := by show chkFls [] fs = 0; rw [HC.out, List.drop_eq_nil_of_le (by omega)]; rfl
      have htm := tooMuch_anyX a c fs N wr (H1.out.below (hB.mono hN)) (by have := hB.size; omega) (fun f hf => (HZ.out f hf).1) (by omega)
      by_cases hbig : 256 < fs.length ∨ 16777216 < sumF fs
      · rw [show decide (256 < fs.length ∨ 16777216 < sumF fs) = true from by simpa using hbig] at htm
        go_wp2_with (go_at_call 62; refine htm.mono ?_; rintro e w5 ⟨rfl, hB5⟩)
        go_ret
        exact ⟨by unfold loadE; rw [HE.out]; simp [hbig], HB.out.trans (hB5.mono HB.out.size)⟩
      · rw [show decide (256 < fs.length ∨ 16777216 < sumF fs) = false from by simpa using hbig] at htm
        go_wp2_with (go_at_call 62; refine htm.mono ?_; rintro e w5 ⟨rfl, hB5⟩)
        go_ret
        exact ⟨by unfold loadE; rw [HE.out, if_neg (by simp), if_neg hbig]; rfl, HB.out.trans (hB5.mono HB.out.size)⟩

set_option maxRecDepth 100000 in
set_option maxHeartbeats 8000000 in
theorem load_fail (a : Option Addr) (c : Nat) (fs : List Fl) (N : Nat) (w : World) (h : FlsAt N w a fs) (hN : N ≤ w.heap.size) (hz : ∀ f ∈ fs, f.dat.length ≤ 140737488351232 ∧ f.nm.length ≤ maxLen) (hl : fs.length ≤ 1000000) (hno : loadE fs ≠ 0) :
    Calls Try.prog 15 #[.slice a fs.length c] w fun r w' => r = .returned (.tuple #[.pointer none, .int .i64 (loadE fs : Int)]) ∧ Below w.heap.size w w' := by
  have hck := checkAll_anyX a c fs N w h hN hz hl
  have hne : (((loadE fs : Nat) : Int) != 0) = true := by rw [bne_iff_ne]; omega
  generalize loadE fs = er at *
  clear h hz hno
  go_enter Try.func15, Try.ntmps15
  go_wp2_with (first | (go_at_call 50; refine hck.mono ?_; rintro e w1 ⟨rfl, hB1⟩) | fail)
  go_ret2
  exact ⟨rfl, hB1⟩
theorem load_small {fs : List Fl} (h : loadE fs = 0) : fs.length ≤ 256 ∧ sumF fs ≤ 16777216 ∧ chkFls [] fs = 0 := by
  unfold loadE at h
  by_cases h0 : chkFls [] fs = 0
  · rw [if_neg (by simpa using h0)] at h
    split at h
    · simp at h
    · exact ⟨by omega, by omega, h0⟩
  · rw [if_pos h0] at h
    exact absurd h h0
end Go.Proofs.Ytbjnhohfdpdcnaa
