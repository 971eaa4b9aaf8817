/-
  The document's line of options.
-/
import Derived.Test.YtbckogojnjmjcaaGreatDoorQ6
import Derived.Test.YtbckogojnjmjcaaGreatDoorQ3
namespace Go.Proofs.YtbckogojnjmjcaaGreatDoor
open Go.RowKit Go.Shelf

theorem cat2 (a b : Bs) : (⟨a.toArray⟩ : ByteArray) ++ ⟨b.toArray⟩ = ⟨(a ++ b).toArray⟩ := by
  apply ByteArray.ext
  simp [ByteArray.data_append]
theorem join_snoc (xs : List Bs) (x : Bs) : Lib.join (xs ++ [x]) [32] = if xs = [] then x else Lib.join xs [32] ++ [32] ++ x := by
  induction xs with
  | nil => simp [Lib.join]
  | cons y xs ih =>
    cases xs with
    | nil => simp [Lib.join, List.intercalate]
    | cons z xs =>
      rw [if_neg (by simp)]
      rw [if_neg (by simp)] at ih
      have e1 : Lib.join (y :: z :: xs ++ [x]) [32] = y ++ [32] ++ Lib.join (z :: xs ++ [x]) [32] := by simp [Lib.join, List.intercalate]
      have e2 : Lib.join (y :: z :: xs) [32] = y ++ [32] ++ Lib.join (z :: xs) [32] := by simp [Lib.join, List.intercalate]
      rw [e1, ih, e2]
      simp
def optJ (l : List Int) : Bs := Lib.join (wWorld :: l.map Lib.itoa) [32]
theorem optJ_snoc (l : List Int) (n : Int) : optJ (l ++ [n]) = optJ l ++ [32] ++ Lib.itoa n := by
  unfold optJ
  rw [List.map_append, ← List.cons_append]
  exact (join_snoc _ _).trans (if_neg (by simp))
theorem itoa_zero : Lib.itoa 0 = [48] := by
  unfold Lib.itoa
  rw [if_neg (by omega), show (0 : Int).toNat = 0 from rfl, dec_one 0 (by omega)]
  rfl
theorem optJ_18 (l : List Int) : optJ (num18 l) = optsL (num17 l) := by
  unfold optJ num18 optsL
  rw [List.map_append]
  show Lib.join (wWorld :: ((num17 l).map Lib.itoa ++ [Lib.itoa 0])) [32] = _
  rw [itoa_zero]
theorem optJ_len (l : List Int) (hr : ∀ n ∈ l, -9223372036854775808 ≤ n ∧ n ≤ 9223372036854775807) : (optJ l).length ≤ (l.length + 1) * 22 := by
  have := join_len (wWorld :: l.map Lib.itoa) 21 (by
    intro x hx
    rcases List.mem_cons.1 hx with rfl | hx
    · decide
    · obtain ⟨n, hn, rfl⟩ := List.mem_map.1 hx
      exact itoa_len n (hr n hn).1 (hr n hn).2)
  simpa [optJ] using this
set_option maxRecDepth 100000 in
set_option maxHeartbeats 4000000 in
theorem rformatOpts_any (l : List Int) (hl : OpIn l) (w : World) (hv : Vars w) : Calls Tryz.prog 24 #[.agg (intsV l)] w fun e w' => e = .returned (.string ⟨(optsL (num17 l)).toArray⟩) ∧ Below w.heap.size w w' := by
  have HNU := fun W => rnumbers_any l hl.len W
  have HB0 : Hid (Below w.heap.size w (w.alloc (.cells (intsV l) 59))) := (Below.refl _ _).alloc (Nat.le_refl _) _
  have HSZ : Hid ((intsV l).size = 19) := (intsV_size l).trans hl.len
  have HLD : Hid ((loadVar 59 ⟨w.heap.size, 0, none⟩).run Tryz.prog (w.alloc (.cells (intsV l) 59)) = .ok (.agg (intsV l)) (w.alloc (.cells (intsV l) 59))) := run_loadVar_row (P := Tryz.prog) _ w.heap.size 59 59 _ (0, 0) _ (heap_alloc_new w _) Tryz.underlying59 rfl (by rw [HSZ.out]; kernel_rfl)
  have HRG : Hid (∀ n ∈ num18 l, -9223372036854775808 ≤ n ∧ n ≤ 9223372036854775807) := fun n hn => by
    rcases List.mem_append.1 hn with hn | hn
    · exact hl.nums n hn
    · cases List.mem_singleton.1 hn; omega
  have HJ : Hid (optJ (num18 l) = optsL (num17 l)) := optJ_18 _
  have HLN : Hid ((num18 l).length = 18) := rfl
  generalize optsL (num17 l) = res at *
  generalize num18 l = ns at *
  clear hl
  generalize intsV l = iv at *
  go_enter Tryz.func24, Tryz.ntmps24
  go_upto_region 2 with fail
  apply wp_region_lit
  refine Go.Great.wpList_readTo rfl (some 6) rfl (.agg iv) (load_row rfl (by kernel_rfl) HLD.out) ?_
  go_wp2_with fail
  refine (HNU _).mono ?_
  rintro e w1 ⟨g, rfl, hg1, hg2, hI, hB1⟩
  have HI : Hid (InAt w1 g ns) := hI
  have HB1 : Hid (Below w.heap.size w w1) := HB0.out.trans (hB1.mono (by simp))
  clear hI hB1 HNU HB0 hg1
  go_wp2
  go_loopw [3, 5] (fun vs vi wr => ∃ k : Nat, vi = .int .i64 k ∧ k ≤ 18 ∧ vs = .string ⟨(optJ (ns.take k)).toArray⟩ ∧ Hid (Below w1.heap.size w1 wr)) (fun _ i _ => 18 - (intOf i).toNat)
  case atStart => exact ⟨0, rfl, by omega, rfl, Below.refl _ _⟩
  case round =>
    obtain ⟨k, rfl, hk, rfl, HBR⟩ := hrel
    have hol := optJ_len (ns.take k) (fun n hn => HRG.out n (List.mem_of_mem_take hn))
    have htl : (ns.take k).length ≤ 18 := by rw [List.length_take]; omega
    by_cases hlt : k < 18
    · have hkn : k < ns.length := by rw [HLN.out]; exact hlt
      have hc := (HBR.out.cell (p := ⟨g, k, none⟩) hg2).trans (HI.out k hkn)
      have hr := HRG.out (ns.getD k 0) (by rw [List.getD_eq_getElem?_getD, List.getElem?_eq_getElem hkn]; exact List.getElem_mem hkn)
      have HTK : Hid (optJ (ns.take (k + 1)) = optJ (ns.take k) ++ [32] ++ Lib.itoa (ns.getD k 0)) := by
        show _ = _
        rw [List.take_add_one, List.getElem?_eq_getElem hkn, List.getD_eq_getElem?_getD, List.getElem?_eq_getElem hkn]
        exact optJ_snoc _ _
      have HIT := itoa_any (ns.getD k 0) hr.1 hr.2 wr (hv.below (HB1.out.trans (HBR.out.mono HB1.out.size)))
      have hil := itoa_len (ns.getD k 0) hr.1 hr.2
      unfold str at HIT
      generalize ns.getD k 0 = n at *
      generalize Lib.itoa n = sp at *
      generalize optJ (ns.take k) = jk at *
      have hcat1 := cat2 jk [32]
      have hcat := cat2 (jk ++ [32]) sp
      clear hkn
      go_wp2_with (go_at_call 58; refine HIT.mono ?_; rintro e w5 ⟨rfl, hB5⟩)
      exact ⟨⟨k + 1, by simp, by omega, by rw [HTK.out]; simp, HBR.out.trans (hB5.mono HBR.out.size)⟩, by simp [intOf]; omega⟩
    · have hke : k = 18 := by omega
      subst hke
      have HE : Hid (optJ (ns.take 18) = res) := by show _ = _; rw [List.take_of_length_le (by rw [HLN.out]; omega)]; exact HJ.out
      generalize optJ (ns.take 18) = jk at *
      go_wp2
      go_ret
      exact ⟨by rw [HE.out]; rfl, HB1.out.trans (HBR.out.mono HB1.out.size)⟩
end Go.Proofs.YtbckogojnjmjcaaGreatDoor
