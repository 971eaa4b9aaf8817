/-
  Blanks ahead, behind and between change nothing: the walk.
-/
import Derived.Test.YtbckogojnjmjcabDoorPc
namespace Go.Proofs.YtbckogojnjmjcabDoor
open Go.RowKit Go.Shelf

theorem wide_len (ws : List Bs) (k : Nat) (h : ∀ x ∈ ws, x.length ≤ k) : (wide ws).length ≤ ws.length * (4 * k + 5) := by
  induction ws with
  | nil => simp [wide]
  | cons w ws ih =>
    have h1 := ih (fun x hx => h x (.tail _ hx))
    have h2 := h w (.head _)
    have h3 : (quoteL w).length ≤ 4 * w.length + 2 := by
      unfold quoteL
      split
      · omega
      · have := (flat_len w).2; simp; omega
    simp only [wide, List.length_append, List.length_cons, List.length_nil, Nat.add_mul, Nat.one_mul]
    omega
theorem wide_snoc (ws : List Bs) (w : Bs) : wide (ws ++ [w]) = wide ws ++ ([32, 32, 32] ++ quoteL w) := by
  induction ws with
  | nil => simp [wide]
  | cons x ws ih => rw [List.cons_append, wide, ih, wide]; simp
theorem words_long (s : Bs) (h4 : 4096 < s.length) (hl : s.length ≤ 1000000000000) (w : World) : Calls Tryd.prog 5 #[.string ⟨s.toArray⟩] w fun e w' => e = .returned (.tuple #[.slice none 0 0, .int .i64 3]) ∧ w' = w := by
  have hz : (⟨s.toArray⟩ : ByteArray).size = s.length := by show s.toArray.size = _; simp
  go_enter Tryd.func5, Tryd.ntmps5
  go_wp2
  go_ret2
  exact ⟨rfl, rfl⟩
theorem cat3 (a b c : Bs) : (⟨a.toArray⟩ : ByteArray) ++ ⟨b.toArray⟩ ++ ⟨c.toArray⟩ = ⟨(a ++ b ++ c).toArray⟩ := by
  apply ByteArray.ext
  simp [ByteArray.data_append]
def WsE (v : Value) (k : Int) : Ending := .returned (.tuple #[v, .int .i64 k])
/-- What Words answers, in words that may be read. -/
structure WsA (s : Bs) (v : Value) (k : Nat) (ws : List Bs) (W : World) : Prop where
  rd : SRd W v ws
  len : ws.length ≤ 4096
  what : (k = 0 ∧ Ln s ws) ∨ (k = 4 ∧ ws = [] ∧ ∀ us, ¬ Ln s us)
theorem words_a (s : Bs) (hl : s.length ≤ 4096) (w : World) (hv : Vars w) : Calls Tryd.prog 5 #[.string ⟨s.toArray⟩] w fun e w' => (∃ v k ws, WsA s v k ws w' ∧ e = .returned (.tuple #[v, .int .i64 (k : Int)])) ∧ Below w.heap.size w w' := by
  refine (words_any s (by omega) w hv).mono ?_
  rintro e w' ⟨⟨h1, -⟩ | ⟨-, h2, rfl⟩ | ⟨-, ws, v, h2, h3, hO, rfl⟩, hB⟩
  · omega
  · exact ⟨⟨_, 4, [], ⟨.inl ⟨rfl, _, _, rfl⟩, by simp, .inr ⟨rfl, rfl, h2⟩⟩, rfl⟩, hB⟩
  · exact ⟨⟨v, 0, ws, ⟨hO.rd, by omega, .inl ⟨rfl, h2⟩⟩, rfl⟩, hB⟩
theorem WsA.below {s : Bs} {v : Value} {k : Nat} {ws : List Bs} {W W' : World} (h : WsA s v k ws W) (hB : Below W.heap.size W W') : WsA s v k ws W' := ⟨h.rd.below hB, h.len, h.what⟩
theorem WsA.spread {s : Bs} {v u : Value} {k m : Nat} {ws us : List Bs} {W W' : World} (h : WsA s v k ws W) (h2 : WsA (spread s) u m us W') : k = m ∧ ws = us := by
  rcases h.what with ⟨h3, h4⟩ | ⟨h3, h4, h5⟩ <;> rcases h2.what with ⟨k3, k4⟩ | ⟨k3, k4, k5⟩
  · exact ⟨by omega, h4.uniq _ (Ln.spread.1 k4)⟩
  · exact absurd (Ln.spread.2 h4) (k5 _)
  · exact absurd (Ln.spread.1 k4) (h5 _)
  · exact ⟨by omega, by rw [h4, k4]⟩
set_option maxRecDepth 100000 in
set_option maxHeartbeats 8000000 in
theorem blanks_walk (w : World) (hv : Vars w) (line : Bs) (hl : line.length ≤ maxLen) (z : Int) : Calls Tryd.prog 3 #[str line, .int .i64 z] w fun e w' => e = .returned (.bool true) ∧ Below w.heap.size w w' := by
  have HV : Hid (∀ W, Below w.heap.size w W → Vars W) := fun W h => hv.below h
  have HN := num_any
  have HFI := first_any w hv
  unfold maxLen at hl
  clear hv
  unfold str
  go_enter Tryd.func3, Tryd.ntmps3
  go_wp2_with fail
  refine HFI.mono ?_
  rintro e w1 ⟨rfl, hB1⟩
  have HB1 : Hid (Below w.heap.size w w1) := hB1
  clear hB1 HFI
  by_cases hll : 2000 < line.length
  · go_wp2
    go_ret
    exact ⟨rfl, HB1.out⟩
  have HW1 := words_a line (by omega) w1 (HV.out _ HB1.out)
  go_wp2_with fail
  refine HW1.mono ?_
  rintro e w2 ⟨⟨v, k, ws, hA2, rfl⟩, hB2⟩
  obtain ⟨va, vc, rfl⟩ := hA2.rd.shape
  have HA2 : Hid (WsA line _ k ws w2) := hA2
  have HB2 : Hid (Below w.heap.size w w2) := HB1.out.trans (hB2.mono HB1.out.size)
  clear hA2 hB2 HW1
  have HP2 := parseAct_any line (by omega) w2 (HV.out _ HB2.out)
  unfold str at HP2
  generalize hnw : ws.length = nw at *
  have HNW : Hid (ws.length = nw) := hnw
  have hnw4 : nw ≤ 4096 := by rw [← hnw]; exact HA2.out.len
  clear hnw
  go_wp2_with fail
  refine HP2.mono ?_
  rintro e w3 ⟨⟨r, hr, rfl⟩, hB3⟩
  have HR : Hid (PaR line r) := hr
  have HA3 : Hid (WsA line (.slice va nw vc) k ws w3) := HA2.out.below hB3
  have HB3 : Hid (Below w.heap.size w w3) := HB2.out.trans (hB3.mono HB2.out.size)
  have hz3 := HB3.out.size
  obtain ⟨y, ek, hye⟩ : ∃ (y : Ac) (ek : Nat), PaE r = .returned (.tuple #[.agg y.cells, .int .i64 (ek : Int)]) := by
    cases r with
    | ok y => exact ⟨y, 0, rfl⟩
    | error k => exact ⟨ac0, k, rfl⟩
  have HYE : Hid (PaE r = _) := hye
  rw [hye]
  unfold Ac.cells str
  have HBA3 : Hid (∀ o, Below w.heap.size w (w3.alloc o)) := fun o => HB3.out.alloc hz3 o
  have HAA3 : Hid (∀ o, WsA line (.slice va nw vc) k ws (w3.alloc o)) := fun o => HA3.out.below ((Below.refl _ _).alloc (Nat.le_refl _) _)
  have HX3 : Hid ((w3.alloc (.cells y.cells 28)).heap[w3.heap.size]? = some (.cells y.cells 28 (0, 0))) := heap_alloc_new w3 _
  have HSL : Hid ((spread line).length ≤ 4096) := by show _ ≤ _; unfold spread; simp; omega
  have HW2 := fun o => words_a (spread line) HSL.out (w3.alloc o) (HV.out _ (HBA3.out o))
  have hsp : (⟨#[32]⟩ : ByteArray) ++ ⟨line.toArray⟩ ++ ⟨#[32, 32]⟩ = ⟨(spread line).toArray⟩ := cat3 [32] line [32, 32]
  clear hr hye hB3 HP2 HA2
  unfold Ac.cells str at HX3
  go_wp2_with fail
  refine (HW2 _).mono ?_
  rintro e w4 ⟨⟨v4, k4, ws4, hA4, rfl⟩, hB4⟩
  obtain ⟨rfl, rfl⟩ := (HAA3.out (.cells #[] 0)).spread hA4
  obtain ⟨va4, vc4, rfl⟩ := hA4.rd.shape
  rw [HNW.out] at hA4
  rw [HNW.out]
  have HB4 : Hid (Below w.heap.size w w4) := (HBA3.out _).trans (hB4.mono (by simp; omega))
  have HR4 : Hid (WsA line (.slice va nw vc) k ws w4) := (HAA3.out _).below hB4
  have HS4 : Hid (SRd w4 (.slice va4 nw vc4) ws) := hA4.rd
  have hx4 := (hB4.block w3.heap.size (by simp)).trans HX3.out
  have HX4 : Hid (w4.heap[w3.heap.size]? = _) := hx4
  have hz4 : w3.heap.size < w4.heap.size := by have := hB4.size; simp at this; omega
  have HP4 := parseAct_any (spread line) (by have := HSL.out; omega) w4 (HV.out _ HB4.out)
  unfold str at HP4
  have HPS : Hid (PaR (spread line) r) := HR.out.spread (by omega)
  clear hA4 hB4 hx4 HW2 HAA3 HBA3 HX3
  generalize spread line = sl at *
  go_wp2_with fail
  refine HP4.mono ?_
  rintro e w5 ⟨⟨r5, hr5, rfl⟩, hB5⟩
  have hr5' := hr5.uniq HPS.out
  subst hr5'
  rw [HYE.out]
  unfold Ac.cells str
  have HB5 : Hid (Below w.heap.size w w5) := HB4.out.trans (hB5.mono HB4.out.size)
  have HR5 : Hid (∀ o, WsA line (.slice va nw vc) k ws (w5.alloc o)) := fun o => (HR4.out.below hB5).below ((Below.refl _ _).alloc (Nat.le_refl _) o)
  have HS5 : Hid (∀ o, SRd (w5.alloc o) (.slice va4 nw vc4) ws) := fun o => (HS4.out.below hB5).below ((Below.refl _ _).alloc (Nat.le_refl _) o)
  have hx5 := (hB5.block w3.heap.size (by omega)).trans HX4.out
  have HX5 : Hid (∀ o, (w5.alloc o).heap[w3.heap.size]? = _) := fun o => (Below.heap_alloc _ _ _ (by have := hB5.size; omega)).trans hx5
  have HY5 : Hid ((w5.alloc (.cells y.cells 28)).heap[w5.heap.size]? = some (.cells y.cells 28 (0, 0))) := heap_alloc_new w5 _
  have hz5 : w3.heap.size < w5.heap.size := by have := hB5.size; omega
  have HBA5 : Hid (∀ o, Below w.heap.size w (w5.alloc o)) := fun o => HB5.out.alloc (by omega) o
  have HST := fun o => sameTexts_any (w5.alloc o) _ _ ws ws (HR5.out o).rd (HS5.out o) (by have := HR4.out.len; omega) (by have := HR4.out.len; omega)
  have heq : ∀ W, (Op.equalIn 10000 28 (.agg y.cells) (.agg y.cells)).run Tryd.prog W = .ok true W := fun W => by rw [run_eq_act]; simp
  unfold Ac.cells str at heq HY5
  simp only [decide_true] at HST
  clear hx5 hB5 HP4 hr5 HR4 HS4 HX4 HYE HPS HR
  go_wp2_with fail
  refine (HST _).mono ?_
  rintro e w6 ⟨rfl, hB6⟩
  have HB6 : Hid (Below w.heap.size w w6) := (HBA5.out _).trans (hB6.mono (by simp; omega))
  have HR6 : Hid (WsA line (.slice va nw vc) k ws w6) := (HR5.out _).below hB6
  have hz6 : w5.heap.size < w6.heap.size := by have := hB6.size; simp at this; omega
  obtain ⟨⟨x0, x1, x2, x3, x4, x5, x6, x7, x8⟩, -⟩ := cells9 ((hB6.block w3.heap.size (by simp; omega)).trans (HX5.out _))
  obtain ⟨⟨y0, y1, y2, y3, y4, y5, y6, y7, y8⟩, -⟩ := cells9 ((hB6.block w5.heap.size (by simp)).trans HY5.out)
  clear hB6 HST HR5 HS5 HX5 HY5 HBA5
  rcases HR6.out.what with ⟨hk0, hln⟩ | ⟨hk4, hwn, -⟩
  case inr =>
    subst hk4
    go_wp2_with (go_at_call 8; refine (HN _ _).mono ?_; rintro e w7 ⟨rfl, hw⟩; subst w7)
    go_ret
    exact ⟨rfl, HB6.out⟩
  subst hk0
  have HLN : Hid (Ln line ws) := hln
  have HWL : Hid (∀ x ∈ ws, x.length ≤ 2000) := fun x hx => by have := word_len hln x hx; omega
  clear hln
  go_wp2_with (go_at_call 8; refine (HN _ _).mono ?_; rintro e w7 ⟨rfl, hw⟩; subst w7)
  go_loopw [16, 17] (fun vl i wr => ∃ j : Nat, vl = .string ⟨(wide (ws.take j)).toArray⟩ ∧ i = .int .i64 j ∧ j ≤ nw ∧ Hid (Below w6.heap.size w6 wr)) (fun _ i _ => nw - (intOf i).toNat)
  case atStart => exact ⟨0, rfl, rfl, by omega, Below.refl _ _⟩
  case round =>
    obtain ⟨j, rfl, rfl, hj, HBR⟩ := hrel
    have HBW : Hid (Below w.heap.size w wr) := HB6.out.trans (HBR.out.mono HB6.out.size)
    have HRr : Hid (WsA line (.slice va nw vc) 0 ws wr) := HR6.out.below HBR.out
    have HLB : Hid ((wide (ws.take j)).length ≤ 40000000) := by
      have h1 := wide_len (ws.take j) 2000 (fun x hx => HWL.out x (List.mem_of_mem_take hx))
      have h2 : (ws.take j).length ≤ 4096 := by rw [List.length_take]; omega
      have h3 : (ws.take j).length * (4 * 2000 + 5) ≤ 4096 * (4 * 2000 + 5) := Nat.mul_le_mul_right _ h2
      show _ ≤ _
      omega
    by_cases hlt : j < nw
    · have hrd := HRr.out.rd
      rw [← HNW.out] at hrd
      obtain ⟨b, off, rfl, hb, hc⟩ := hrd.at (k := j) (by rw [HNW.out]; exact hlt)
      unfold str at hc
      have hjw : j < ws.length := by rw [HNW.out]; exact hlt
      have HTK : Hid (wide (ws.take (j + 1)) = wide (ws.take j) ++ [32, 32, 32] ++ quoteL (ws.getD j [])) := by
        show _ = _
        rw [List.take_add_one, List.getElem?_eq_getElem hjw, List.getD_eq_getElem?_getD, List.getElem?_eq_getElem hjw]
        simp only [Option.toList_some, Option.getD_some]
        rw [wide_snoc, List.append_assoc]
      have hxl : (ws.getD j []).length ≤ 2000 := HWL.out _ (by rw [List.getD_eq_getElem?_getD, List.getElem?_eq_getElem hjw]; exact List.getElem_mem hjw)
      have HQ := quote_any (ws.getD j []) (by omega) wr
      unfold str at HQ
      have hql : (quoteL (ws.getD j [])).length ≤ 10000 := by
        unfold quoteL
        split
        · omega
        · have := (flat_len (ws.getD j [])).2
          simp only [List.length_cons, List.length_append, List.length_nil]
          omega
      have hll2 := HLB.out
      clear hrd hjw
      generalize ws.getD j [] = x at *
      generalize quoteL x = qx at *
      generalize wide (ws.take j) = wj at *
      have hcat := cat3 wj [32, 32, 32] qx
      go_wp2_with (go_at_call 9; refine HQ.mono ?_; rintro e w8 ⟨rfl, hB8⟩)
      refine ⟨⟨j + 1, by rw [HTK.out]; simp, by simp, by omega, HBR.out.trans (hB8.mono HBR.out.size)⟩, by simp [intOf]; omega⟩
    · have : j = nw := by omega
      subst this
      rw [List.take_of_length_le (by rw [HNW.out]; omega)] at HLB
      rw [List.take_of_length_le (by rw [HNW.out]; omega)]
      have HWI : Hid (Ln (wide ws) ws) := wide_ln ws
      have hll2 := HLB.out
      have hws4 := HRr.out.len
      generalize wide ws = wd at *
      by_cases h4 : 4096 < wd.length
      · have HWL2 := words_long wd h4 (by omega) wr
        have HST := sameTexts_any wr (.slice none 0 0) (.slice va j vc) [] ws (.inl ⟨rfl, _, _, rfl⟩) HRr.out.rd (by simp) (by omega)
        generalize decide ([] = ws) = bb at *
        go_wp2_with (first
          | (go_at_call 5; refine HWL2.mono ?_; rintro e w8 ⟨rfl, hw⟩; subst w8)
          | (go_at_call 7; refine HST.mono ?_; rintro e w9 ⟨rfl, hB9⟩)
          | (go_at_call 8; refine (HN _ _).mono ?_; rintro e w7 ⟨rfl, hw⟩; subst w7))
        go_ret
        exact ⟨rfl, HBW.out.trans (hB9.mono HBW.out.size)⟩
      · have HWS := words_a wd (by omega) wr (HV.out _ HBW.out)
        go_wp2_with fail
        refine HWS.mono ?_
        rintro e w8 ⟨⟨v8, k8, ws8, hA8, rfl⟩, hB8⟩
        have hk8 : k8 = 0 ∧ ws8 = ws := by
          rcases hA8.what with ⟨h1, h2⟩ | ⟨-, -, h3⟩
          · exact ⟨h1, h2.uniq _ HWI.out⟩
          · exact absurd HWI.out (h3 _)
        obtain ⟨rfl, rfl⟩ := hk8
        obtain ⟨va8, vc8, rfl⟩ := hA8.rd.shape
        have HST := sameTexts_any w8 _ _ ws8 ws8 hA8.rd (HRr.out.below hB8).rd (by omega) (by omega)
        simp only [decide_true] at HST
        rw [HNW.out] at HST
        rw [HNW.out]
        have HB8 : Hid (Below w.heap.size w w8) := HBW.out.trans (hB8.mono HBW.out.size)
        clear hA8 hB8 HWS
        go_wp2_with (first
          | (go_at_call 7; refine HST.mono ?_; rintro e w9 ⟨rfl, hB9⟩)
          | (go_at_call 8; refine (HN _ _).mono ?_; rintro e w7 ⟨rfl, hw⟩; subst w7))
        go_ret
        exact ⟨rfl, HB8.out.trans (hB9.mono HB8.out.size)⟩
end Go.Proofs.YtbckogojnjmjcabDoor
