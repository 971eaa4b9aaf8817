/-
  The line of options.
-/
import Derived.Test.YtbckogojnjmjcaaGreatDoorQ1
namespace Go.Proofs.YtbckogojnjmjcaaGreatDoor
open Go.RowKit Go.Shelf

/-- Options that came in. -/
structure OpIn (l : List Int) : Prop where
  len : l.length = 19
  rng : ∀ n ∈ l, -9223372036854775808 ≤ n ∧ n ≤ 9223372036854775807
theorem OpIn.at {l : List Int} (h : OpIn l) (j : Nat) : -9223372036854775808 ≤ l.getD j 0 ∧ l.getD j 0 ≤ 9223372036854775807 := by
  rw [List.getD_eq_getElem?_getD]
  cases hj : l[j]? with
  | none => simp
  | some n => exact h.rng n (List.mem_of_getElem? hj)
theorem OpIn.nums {l : List Int} (h : OpIn l) : ∀ n ∈ num17 l, -9223372036854775808 ≤ n ∧ n ≤ 9223372036854775807 := by
  intro n hn
  obtain ⟨o, -, rfl⟩ := List.mem_map.1 hn
  exact h.at o
set_option maxRecDepth 100000 in
set_option maxHeartbeats 4000000 in
theorem formatOpts_any (l : List Int) (hl : OpIn l) (w : World) (hv : Vars w) : Calls Tryz.prog 23 #[.agg (intsV l)] w fun e w' => e = .returned (str (optsL (num17 l))) ∧ Below w.heap.size w w' := by
  obtain ⟨W2, hW2⟩ : ∃ W2, (w.alloc (.cells (intsV l) 52)).alloc (.cells #[.string ⟨#[119, 111, 114, 108, 100]⟩] 9) = W2 := ⟨_, rfl⟩
  have hB2 : Below w.heap.size w W2 := by rw [← hW2]; exact ((Below.refl _ _).alloc (Nat.le_refl _) _).alloc (by simp) _
  have hs2 : W2.heap.size = w.heap.size + 2 := by rw [← hW2]; simp
  have hO2 : OpAt W2 w.heap.size l := by unfold OpAt; rw [← hW2, Below.heap_alloc _ _ _ (by simp)]; exact heap_alloc_new w _
  have hR2 : SOw (w.heap.size + 1) W2 (.slice (some ⟨w.heap.size + 1, 0, none⟩) 1 1) [wWorld] := by
    rw [← hW2]
    have := own_one (w.alloc (.cells (intsV l) 52)) wWorld
    rwa [World.size_alloc] at this
  have HW2 : Hid (_ = W2) := hW2
  have HB2 : Hid (Below w.heap.size w W2) := hB2
  have HO2 : Hid (OpAt W2 w.heap.size l) := hO2
  have HR2 : Hid (SOw (w.heap.size + 1) W2 (.slice (some ⟨w.heap.size + 1, 0, none⟩) 1 1) [wWorld]) := hR2
  have HNO := numbersOf_any w.heap.size W2 (by omega)
  have HLN : Hid ((optsL (num17 l)).length ≤ 500) := optsL_len _ rfl hl.nums
  clear hW2 hB2 hO2 hR2
  go_enter Tryz.func23, Tryz.ntmps23
  go_wp2_with fail
  rw [HW2.out]
  refine HNO.mono ?_
  rintro e w1 ⟨⟨g, rfl, hg1, hg2, hP1⟩, hB1⟩
  have HP1 : Hid (PtAt w1 g w.heap.size) := hP1
  have HO1 : Hid (OpAt w1 w.heap.size l) := HO2.out.below hB1
  have HR1 : Hid (SOw (w.heap.size + 1) w1 (.slice (some ⟨w.heap.size + 1, 0, none⟩) 1 1) [wWorld]) := HR2.out.below hB1
  have HB1 : Hid (Below w.heap.size w w1) := HB2.out.trans (hB1.mono (by omega))
  have hs1 : w.heap.size + 2 ≤ w1.heap.size := by have := hB1.size; omega
  clear hP1 hB1 HNO HO2 HR2 HW2
  go_wp2
  go_loopw [3, 9] (fun vw vi wr => ∃ k : Nat, vi = .int .i64 k ∧ k ≤ 17 ∧ SOw (w.heap.size + 1) wr vw (wWorld :: ((num17 l).take k).map Lib.itoa) ∧ OpAt wr w.heap.size l ∧ PtAt wr g w.heap.size ∧ Below w.heap.size w wr ∧ g < wr.heap.size ∧ (∀ q, vw.ownBlock = some q → q ≠ g)) (fun _ i _ => 17 - (intOf i).toNat)
  case atStart => exact ⟨0, rfl, by omega, HR1.out, HO1.out, HP1.out, HB1.out, hg2, fun q hq => by cases hq; show w.heap.size + 1 ≠ g; omega⟩
  case round =>
    obtain ⟨k, rfl, hk, hO, hOp, hPt, hB, hgr, hqg⟩ := hrel
    have HO : Hid (SOw (w.heap.size + 1) wr _ _) := hO
    have HOP : Hid (OpAt wr w.heap.size l) := hOp
    have HPT : Hid (PtAt wr g w.heap.size) := hPt
    have HB : Hid (Below w.heap.size w wr) := hB
    have HQG : Hid _ := hqg
    have hszr : w.heap.size + 1 ≤ wr.heap.size := hOp.lt
    have HLL : Hid ((wWorld :: ((num17 l).take k).map Lib.itoa).length = k + 1) := by
      show _ = _
      rw [List.length_cons, List.length_map, List.length_take, num17_len]
      omega
    obtain ⟨va, vc, rfl, hc1, hc2⟩ := row_shape hO
    by_cases hlt : k < 17
    · have hpk := hPt k hlt
      have hck := hOp.cell (j := offs.getD k 0) (by rw [hl.len]; exact offs_lt hlt)
      have hrn := hl.at (offs.getD k 0)
      have HTK : Hid (((num17 l).take (k + 1)).map Lib.itoa = ((num17 l).take k).map Lib.itoa ++ [Lib.itoa (l.getD (offs.getD k 0) 0)]) := by
        show _ = _
        have h17 : k < (num17 l).length := by rw [num17_len]; exact hlt
        have hget := num17_get l hlt
        rw [List.getD_eq_getElem?_getD, List.getElem?_eq_getElem h17] at hget
        rw [List.take_add_one, List.getElem?_eq_getElem h17, List.map_append]
        simp only [Option.getD_some] at hget
        rw [hget]
        rfl
      have HIT := itoa_any (l.getD (offs.getD k 0) 0) hrn.1 hrn.2 wr (hv.below hB)
      unfold str at HIT
      generalize l.getD (offs.getD k 0) 0 = n at *
      generalize offs.getD k 0 = of at *
      generalize Lib.itoa n = sp at *
      generalize hdn : wWorld :: ((num17 l).take k).map Lib.itoa = dn at *
      have HDN : Hid (wWorld :: ((num17 l).take k).map Lib.itoa = dn) := hdn
      have hdl : dn.length = k + 1 := HLL.out
      rw [hdl] at hc1 HO HQG
      rw [hdl]
      clear hO hOp hPt hB hqg hdn hdl
      go_wp2_with (first
        | (go_at_call 58; refine HIT.mono ?_; rintro e w5 ⟨rfl, hB5⟩; have HB5 : Hid (Below wr.heap.size wr w5) := hB5; have HO5 : Hid (SOw (w.heap.size + 1) w5 (.slice va (k + 1) vc) dn) := SOw.below HO.out hB5; have hs5 : w.heap.size + 1 ≤ w5.heap.size := (by have := hB5.size; omega); clear hB5)
        | (at_builtin; refine wpList_app tyS rfl _ _ rfl (w.heap.size + 1) (.slice va (k + 1) vc) (k + 1) (dn.map encStr) ⟨w5.heap.size, 0, none⟩ 1 1 [encStr sp] rfl (World.ownsRow.alloc (by have := HO5.out; unfold SOw at this; rwa [HLL.out] at this) _) rfl rfl (news_at w5 #[encStr sp] 9) (fun u hu => by cases List.mem_singleton.1 hu; rfl) (by omega) (by simp; omega) ?_; intro v6 w6 r1 r2 r3))
      have hOut : Out (fun i => w.heap.size + 1 ≤ i ∧ i ≠ g) wr w6 := by
        have h1 : Out (fun i => w.heap.size + 1 ≤ i ∧ i ≠ g) wr (w5.alloc (.cells #[encStr sp] 9)) := (Out.of_below HB5.out).alloc _
        refine h1.two (Out.grown r2 (fun j hj => ⟨(World.ownsRow.lt HO5.out j hj).1, HQG.out j hj⟩))
      have hgz : g < w6.heap.size := Nat.lt_of_lt_of_le hgr hOut.size
      refine ⟨⟨k + 1, by simp, by omega, ?_, HOP.out.out hOut (by omega), HPT.out.out hgr hOut (by omega), HB.out.trans (hOut.below HB.out.size (by intro i hi; omega)), hgz, ?_⟩, by simp [intOf]; omega⟩
      · unfold SOw
        rw [HTK.out, ← List.cons_append, HDN.out, List.length_append, List.map_append, HLL.out]
        exact r1
      · intro q hq
        rcases r3 with r3 | r3
        · exact HQG.out q (r3 ▸ hq)
        · rw [r3] at hq
          have h9 : w.heap.size + 1 ≤ w5.heap.size := hs5
          have h10 := HB5.out.size
          cases hq
          simp
          omega
    · have : k = 17 := by omega
      subst this
      have HFL : Hid (wWorld :: ((num17 l).take 17).map Lib.itoa ++ [[48]] = wWorld :: ((num17 l).map Lib.itoa ++ [[48]])) := by show _ = _; rw [List.take_of_length_le (by rw [num17_len]; omega)]; rfl
      have hdl : (wWorld :: ((num17 l).take 17).map Lib.itoa).length = 18 := HLL.out
      have HDN : Hid _ := hdl
      rw [hdl] at hc1 HO HQG
      rw [hdl]
      have HJO := fun (W : World) v h => join_any (w.heap.size + 1) W v (wWorld :: ((num17 l).map Lib.itoa ++ [[48]])) h (by simp [num17_len]) (by have := HLN.out; unfold optsL at this; omega)
      unfold str at HJO
      generalize hdn : wWorld :: ((num17 l).take 17).map Lib.itoa = dn at *
      clear hO hOp hPt hB hqg hdl
      go_wp2_with (first
        | (at_builtin; refine wpList_app tyS rfl _ _ rfl (w.heap.size + 1) (.slice va 18 vc) 18 (dn.map encStr) ⟨wr.heap.size, 0, none⟩ 1 1 [encStr [48]] rfl (World.ownsRow.alloc (by have := HO.out; unfold SOw at this; rwa [HDN.out] at this) _) rfl rfl (news_at wr #[encStr [48]] 9) (fun u hu => by cases List.mem_singleton.1 hu; rfl) (by omega) (by simp; omega) ?_; intro v6 w6 r1 r2 r3; have hS6 : SOw (w.heap.size + 1) w6 v6 (wWorld :: ((num17 l).map Lib.itoa ++ [[48]])) := (by unfold SOw; rw [← HFL.out, List.length_append, List.map_append, HDN.out]; exact r1); obtain ⟨a6, c6, rfl, -, -⟩ := row_shape hS6; have HJ6 := HJO _ _ hS6)
        | (go_at_call 59; refine HJ6.mono ?_; rintro e w7 ⟨rfl, hB7⟩))
      go_ret
      have hB6 : Below w.heap.size w w6 := (HB.out.alloc (by omega) _).grown r2 (by simp; omega) (fun q hq => by have := (World.ownsRow.lt HO.out q hq).1; omega)
      exact ⟨rfl, hB6.trans (hB7.mono hB6.size)⟩
end Go.Proofs.YtbckogojnjmjcaaGreatDoor
