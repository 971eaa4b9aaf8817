/-
  The line of an act that may have one; the form of an act.
-/
import Derived.Test.YtbckogojnjmjcaaGreatDoorB7
import Derived.Test.YtbckogojnjmjcaaGreatDoorB8
namespace Go.Proofs.YtbckogojnjmjcaaGreatDoor
open Go.RowKit Go.Shelf

theorem show_len (p : Pc) (a : Ac) (ha : AcOk a) : (p.show a).length ≤ 4000003 := by
  have hq : ∀ s : Bs, s.length ≤ 1000000 → (quoteL s).length ≤ 4000002 := fun s hs => by
    unfold quoteL
    split
    · omega
    · have := (flat_len s).2; simp; omega
  have hw : ∀ n, (wordOf 1 picksL n).length ≤ 100 := fun n => by
    unfold wordOf
    split
    · have : ∀ i, (picksL.getD i []).length ≤ 100 := fun i => by
        have : i = 0 ∨ i = 1 ∨ i = 2 ∨ i = 3 ∨ i = 4 ∨ i = 5 ∨ i = 6 ∨ i = 7 ∨ i = 8 ∨ 9 ≤ i := by omega
        rcases this with rfl | rfl | rfl | rfl | rfl | rfl | rfl | rfl | rfl | h
        all_goals first
          | decide
          | (rw [List.getD_eq_getElem?_getD, List.getElem?_eq_none (by simpa [picksL] using h)]; simp)
      exact this _
    · decide
  cases p
  · have := itoa_len a.node ha.node.1 ha.node.2; show (Lib.itoa a.node).length ≤ _; omega
  · have := itoa_len a.client ha.client.1 ha.client.2; show (Lib.itoa a.client).length ≤ _; omega
  · have := itoa_len a.n ha.n.1 ha.n.2; show (Lib.itoa a.n).length ≤ _; omega
  · have := itoa_len a.m ha.m.1 ha.m.2; show (Lib.itoa a.m).length ≤ _; omega
  · have := hw a.n; show (wordOf 1 picksL a.n).length ≤ _; omega
  · have := hq a.key ha.key; show (quoteL a.key).length ≤ _; omega
  · have := hq a.val ha.val; show (quoteL a.val).length ≤ _; omega
  · have := hq a.old ha.old; show (quoteL a.old).length ≤ _; omega
theorem line_len (f : Fo) (hl5 : f.pl.length ≤ 5) (hw : f.word.length ≤ 20) (a : Ac) (ha : AcOk a) : (f.line a).length ≤ 1000000000 := by
  unfold Fo.line
  have := join_len (f.word :: f.pl.map (·.show a)) 4000003 (by
    intro x hx
    rcases List.mem_cons.1 hx with rfl | hx
    · omega
    · obtain ⟨p, hp, rfl⟩ := List.mem_map.1 hx
      exact show_len p a ha)
  simp only [List.length_cons, List.length_map] at this
  have h2 : (f.pl.length + 1) * (4000003 + 1) ≤ 6 * (4000003 + 1) := Nat.mul_le_mul_right _ (by omega)
  omega
theorem own_one (w : World) (x : Bs) : SOw w.heap.size (w.alloc (.cells #[encStr x] 9)) (.slice (some ⟨w.heap.size, 0, none⟩) 1 1) [x] := by
  refine ⟨rfl, .inr ⟨w.heap.size, 1, #[encStr x], rfl, Nat.le_refl _, heap_alloc_new w _, by simp, by unfold maxLen; decide, by simp, by simp⟩⟩
set_option maxRecDepth 100000 in
set_option maxHeartbeats 4000000 in
theorem line_any (f : Fo) (hl5 : f.pl.length ≤ 5) (hw20 : f.word.length ≤ 20) (pb : Nat) (a : Ac) (ha : AcOk a) (w : World) (hv : Vars w) (hP : PlAt w pb f.pl) : Calls Tryz.prog 51 #[.agg (f.cs pb), .agg a.cells] w fun e w' => e = .returned (str (f.line a)) ∧ Below w.heap.size w w' := by
  obtain ⟨W2, hW2⟩ : ∃ W2, (w.alloc (.cells (f.cs pb) 107)).alloc (.cells a.cells 34) = W2 := ⟨_, rfl⟩
  have hB2 : Below w.heap.size w W2 := by rw [← hW2]; exact ((Below.refl _ _).alloc (Nat.le_refl _) _).alloc (by simp) _
  have hs2 : W2.heap.size = w.heap.size + 2 := by rw [← hW2]; simp
  have hA2 : AcAt W2 (w.heap.size + 1) a := by
    unfold AcAt
    rw [← hW2]
    have := heap_alloc_new (w.alloc (.cells (f.cs pb) 107)) (.cells a.cells 34)
    rwa [World.size_alloc] at this
  have HW2 : Hid (_ = W2) := hW2
  have HB2 : Hid (Below w.heap.size w W2) := hB2
  have HA2 : Hid (AcAt W2 (w.heap.size + 1) a) := hA2
  have HP2 : Hid (PlAt W2 pb f.pl) := hP.below hB2
  have hpb := hP.lt
  have HSH := fun p W h => show_any p a ha W h
  have HLN : Hid ((f.line a).length ≤ 1000000000) := line_len f hl5 hw20 a ha
  clear hW2 hB2 hA2 hP
  unfold Fo.cs Ac.cells str at HW2
  unfold Fo.cs Ac.cells str
  unfold str at HSH
  generalize hnp : f.pl.length = np at *
  have HNP : Hid (f.pl.length = np) := hnp
  clear hnp
  go_enter Tryz.func51, Tryz.ntmps51
  go_wp2
  go_loopw [5, 14] (fun vw vi wr => ∃ k : Nat, vi = .int .i64 k ∧ k ≤ np ∧ SOw (w.heap.size + 2) wr vw (f.word :: (f.pl.take k).map (·.show a)) ∧ Below (w.heap.size + 2) W2 wr) (fun _ i _ => np - (intOf i).toNat)
  case atStart =>
    rw [HW2.out]
    refine ⟨0, rfl, by omega, ?_, (Below.refl _ _).alloc (by omega) _⟩
    have := own_one W2 f.word
    rw [hs2] at this
    exact this
  case round =>
    obtain ⟨k, rfl, hk, hO, hB⟩ := hrel
    have HO : Hid (SOw (w.heap.size + 2) wr _ _) := hO
    have HB : Hid (Below (w.heap.size + 2) W2 wr) := hB
    have hszr : w.heap.size + 2 ≤ wr.heap.size := by have := hB.size; omega
    have HAr : Hid (AcAt wr (w.heap.size + 1) a) := (hB.block _ (by omega)).trans HA2.out
    have HBW : Hid (Below w.heap.size w wr) := HB2.out.trans (hB.mono (by omega))
    obtain ⟨va, vc, rfl, hc1, hc2⟩ := row_shape hO
    by_cases hlt : k < np
    · obtain ⟨p, hp⟩ : ∃ p, f.pl[k]? = some p := ⟨_, List.getElem?_eq_getElem (by rw [HNP.out]; exact hlt)⟩
      obtain ⟨x0, x1, x2, hx⟩ := p.parts
      have hpr : PlAt wr pb f.pl := (hB.block _ (by omega)).trans HP2.out
      obtain ⟨p0, p1, p2⟩ := hpr.cells hp hx.fns
      have hs0 := hx.s0
      have hs1 := hx.s1
      have hs3 := hx.s2
      have hpbr : pb < wr.heap.size := hpr.lt
      have HTK : Hid ((f.pl.take (k + 1)).map (·.show a) = (f.pl.take k).map (·.show a) ++ [p.show a]) := by
        show _ = _
        rw [List.take_add_one, hp, List.map_append]
        rfl
      have HLL : Hid ((f.word :: (f.pl.take k).map (·.show a)).length = k + 1) := by
        show _ = _
        rw [List.length_cons, List.length_map, List.length_take, HNP.out]
        omega
      obtain ⟨a0, a1, a2, a3, a4, a5, a6, a7, a8⟩ := HAr.out.cells
      obtain ⟨rc2, -⟩ := stays (W := wr) (R := w.heap.size + 1) (by omega)
      have HCA := fun o => HSH p (wr.alloc o) (hv.below (HBW.out.alloc (by omega) o))
      have hfa : p.fns.toArray = #[x0, x1, x2] := by rw [hx.fns]
      rw [hfa] at HCA
      unfold Ac.cells str at HCA
      generalize p.show a = sp at *
      generalize hdn : f.word :: (f.pl.take k).map (·.show a) = dn at *
      have HDN : Hid (f.word :: (f.pl.take k).map (·.show a) = dn) := hdn
      have hdl : dn.length = k + 1 := HLL.out
      rw [hdl] at hc1 HO
      rw [hdl]
      clear hp hx hpr hfa HSH hO hB hdn hdl
      go_wp2_with (first
        | (go_at_call 79; refine (HCA _).mono ?_; rintro e w5 ⟨rfl, hB5⟩; have HB5 : Hid (Below (w.heap.size + 2) W2 w5) := (HB.out.alloc (by omega) _).trans (hB5.mono (by simp; omega)); have HO5 : Hid (SOw (w.heap.size + 2) w5 (.slice va (k + 1) vc) dn) := SOw.below (World.ownsRow.alloc HO.out _) hB5; have hs5 : w.heap.size + 2 ≤ w5.heap.size := (by have := HB5.out.size; omega); clear hB5)
        | (at_builtin; refine wpList_app tyS rfl _ _ rfl (w.heap.size + 2) (.slice va (k + 1) vc) (k + 1) (dn.map encStr) ⟨w5.heap.size, 0, none⟩ 1 1 [encStr sp] rfl (World.ownsRow.alloc (by have := HO5.out; unfold SOw at this; rwa [HLL.out] at this) _) rfl rfl (news_at w5 #[encStr sp] 9) (fun u hu => by cases List.mem_singleton.1 hu; rfl) (by omega) (by simp; omega) ?_; intro v6 w6 r1 r2 r3))
      refine ⟨⟨k + 1, by simp, by omega, ?_, (HB5.out.alloc (by omega) _).grown r2 (by simp; omega) (fun g hg => (World.ownsRow.lt HO5.out g hg).1)⟩, by simp [intOf]; omega⟩
      unfold SOw
      rw [HTK.out, ← List.cons_append, HDN.out, List.length_append, List.map_append, HLL.out]
      exact r1
    · have : k = np := by omega
      subst this
      have hJ := join_any (w.heap.size + 2) wr _ _ hO (by simp; omega) (by rw [List.take_of_length_le (by rw [HNP.out]; omega)]; exact HLN.out)
      rw [List.take_of_length_le (by rw [HNP.out]; omega)] at hJ
      unfold str at hJ
      have hdl : (f.word :: (f.pl.take k).map (·.show a)).length = k + 1 := by rw [List.length_cons, List.length_map, List.length_take, HNP.out]; omega
      have hdl2 : (f.word :: f.pl.map (·.show a)).length = k + 1 := by rw [List.length_cons, List.length_map, HNP.out]
      rw [hdl2] at hJ
      rw [hdl] at hc1
      rw [hdl]
      clear hO hB hdl hdl2 HO
      go_wp2_with (go_at_call 59; refine hJ.mono ?_; rintro e w5 ⟨rfl, hB5⟩)
      go_ret
      exact ⟨rfl, HBW.out.trans (hB5.mono (by omega))⟩
end Go.Proofs.YtbckogojnjmjcaaGreatDoor
