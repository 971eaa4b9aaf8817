/-
  Options there and back: the walk.
-/
import Derived.Test.YtbckogojnjmjcabGreatDoorQ2
import Derived.Test.YtbckogojnjmjcabGreatDoorQ3
import Derived.Test.YtbckogojnjmjcabGreatDoorQ5
namespace Go.Proofs.YtbckogojnjmjcabGreatDoor
open Go.RowKit Go.Shelf

/-- Numbers that lie in a block. -/
def InAt (W : World) (g : Nat) (l : List Int) : Prop := ∀ k, k < l.length → W.cell? ⟨g, k, none⟩ = some (.int .i64 (l.getD k 0))
theorem wpList_gtake {P : Program} {ops : Array Oper} {rest : List Oper} {o : Oper} {a : Act} {w : World} {Q : Exit → Act → World → Prop} (hw : Region.wanted o (yielded ops a.tmps) = true) (dst : Option Tmp) (hdst : o.dst = dst) (v : Value) (w' : World) (hrun : (execOp a.eval o).run P w = .ok (.value v) w') (h : wpList P ops Q rest (a.put dst v) w') : wpList P ops Q (o :: rest) a w := by
  subst hdst
  rw [wpList, if_pos hw]
  refine .inl ?_
  unfold Oper.wp
  rw [hrun, Oper.upon_value]
  exact h
theorem InAt.below {W W' : World} {g : Nat} {l : List Int} (h : InAt W g l) (hg : g < W.heap.size) (hB : Below W.heap.size W W') : InAt W' g l := fun k hk => (hB.cell (p := ⟨g, k, none⟩) hg).trans (h k hk)
theorem eql_agg {o : Oper} {x y : Operand} {a : Act} {w : World} {T ty : TypeId} {xs ys : Array Value} {b : Bool} (ho : o.op = .binOp .eql T x y ty) (hx : a.eval x = .agg xs) (hy : a.eval y = .agg ys) (hg : Tryz.prog.eqGuardType Tryz.prog.depth T = false) (h : (Op.equalIn 10000 T (.agg xs) (.agg ys)).run Tryz.prog w = .ok b w) : (execOp a.eval o).run Tryz.prog w = .ok (.value (.bool b)) w := by
  unfold execOp
  have h' : (Op.equal T (.agg xs) (.agg ys)).run Tryz.prog w = .ok b w := h
  simp only [ho, hx, hy, eqGuard, binOp, Sem.run_bind, Sem.run_pure]
  simp [go_sem, hg, h']
theorem hg0 : Tryz.prog.eqGuardType Tryz.prog.depth 27 = false := by kernel_rfl
set_option maxRecDepth 100000 in
set_option maxHeartbeats 8000000 in
theorem optsBack_walk (w : World) (hv : Vars w) (l : List Int) (hl : OpIn l) : Calls Tryz.prog 3 #[.agg (intsV l)] w fun e w' => e = .returned (.bool true) ∧ Below w.heap.size w w' := by
  have HV : Hid (∀ W, Below w.heap.size w W → Vars W) := fun W h => hv.below h
  have HN := num_any
  have HSZ : Hid ((intsV l).size = 19) := (intsV_size l).trans hl.len
  have HLE : Hid (l.length = 19) := hl.len
  have HB0 : Hid (Below w.heap.size w (w.alloc (.cells (intsV l) 27))) := (Below.refl _ _).alloc (Nat.le_refl _) _
  have HX0 : Hid (OpAt (w.alloc (.cells (intsV l) 27)) w.heap.size l) := heap_alloc_new w _
  have HFI := first_any (w.alloc (.cells (intsV l) 27)) (HV.out _ HB0.out)
  have HFO := fun W h => formatOpts_any l hl W h
  have HBK : Hid (OpR (optsL (num17 l)) (if (num17 l).all inNum = true then .ok (num17 l) else .error 22)) := opts_back (num17 l) rfl hl.nums
  have HSL : Hid ((optsL (num17 l)).length ≤ 500) := optsL_len _ rfl hl.nums
  have HRG : Hid (∀ n ∈ num17 l, -9223372036854775808 ≤ n ∧ n ≤ 9223372036854775807) := hl.nums
  obtain ⟨iv, hiv⟩ : ∃ iv, intsV l = iv := ⟨_, rfl⟩
  have HIV : Hid (intsV l = iv) := hiv
  rw [hiv] at HSZ HFO
  have HB0' : Hid (Below w.heap.size w (w.alloc (.cells iv 27))) := by rw [← hiv]; exact HB0.out
  have HX0' : Hid (OpAt (w.alloc (.cells iv 27)) w.heap.size l) := by rw [← hiv]; exact HX0.out
  have HFI' := first_any (w.alloc (.cells iv 27)) (HV.out _ HB0'.out)
  rw [hiv]
  clear hl hv hiv HB0 HX0 HFI
  go_enter Tryz.func3, Tryz.ntmps3
  go_wp2_with fail
  refine HFI'.mono ?_
  rintro e w1 ⟨rfl, hB1⟩
  have HX1 : Hid (OpAt w1 w.heap.size l) := HX0'.out.below hB1
  have HB1 : Hid (Below w.heap.size w w1) := HB0'.out.trans (hB1.mono (by simp))
  have hz1 : w.heap.size < w1.heap.size := HX1.out.lt
  clear hB1 HFI' HX0' HB0'
  obtain ⟨c0, c1, c2, c3, c4, c5, c6, c7, c8, c9, c10, c11, c12, c13, c14, c15, c16, c17, c18⟩ := HX1.out.cells HLE.out
  have hNE : num17 l = [l.getD 0 0, l.getD 1 0, l.getD 4 0, l.getD 5 0, l.getD 6 0, l.getD 7 0, l.getD 8 0, l.getD 9 0, l.getD 10 0, l.getD 11 0, l.getD 12 0, l.getD 13 0, l.getD 14 0, l.getD 15 0, l.getD 16 0, l.getD 17 0, l.getD 18 0] := rfl
  have hL8 : ∀ k, k < 8 → k = 0 ∨ k = 1 ∨ k = 2 ∨ k = 3 ∨ k = 4 ∨ k = 5 ∨ k = 6 ∨ k = 7 := fun k hk => by omega
  go_upto_region 2 with fail
  go_cut [4] (fun v wx => v = .pointer (some ⟨w1.heap.size, 0, none⟩) ∧ Hid (∀ k, k < 8 → wx.cell? ⟨w1.heap.size, k, none⟩ = some (.int .i64 (l.getD (k + 2) 0))) ∧ Hid (Below w1.heap.size w1 wx) ∧ Hid (w1.heap.size < wx.heap.size))
  case first =>
    as_aux_lemma =>
      have HGE : Hid (∀ k, k < 8 → ([l.getD 2 0, l.getD 3 0, l.getD 4 0, l.getD 5 0, l.getD 6 0, l.getD 7 0, l.getD 8 0, l.getD 9 0] : List Int).getD k 0 = l.getD (k + 2) 0) := fun k hk => by
        rcases hL8 k hk with rfl | rfl | rfl | rfl | rfl | rfl | rfl | rfl <;> rfl
      clear hNE
      clear c0
      clear c1
      generalize hx2 : l.getD 2 0 = x2 at HGE c2
      clear hx2
      generalize hx3 : l.getD 3 0 = x3 at HGE c3
      clear hx3
      generalize hx4 : l.getD 4 0 = x4 at HGE c4
      clear hx4
      generalize hx5 : l.getD 5 0 = x5 at HGE c5
      clear hx5
      generalize hx6 : l.getD 6 0 = x6 at HGE c6
      clear hx6
      generalize hx7 : l.getD 7 0 = x7 at HGE c7
      clear hx7
      generalize hx8 : l.getD 8 0 = x8 at HGE c8
      clear hx8
      generalize hx9 : l.getD 9 0 = x9 at HGE c9
      clear hx9
      clear c10
      clear c11
      clear c12
      clear c13
      clear c14
      clear c15
      clear c16
      clear c17
      clear c18
      go_wp2
      go_meet
      refine ⟨rfl, fun k hk => ?_, (Below.refl _ _).alloc (Nat.le_refl _) _, by show _ < _; simp⟩
      have hh : ∀ o, (World.alloc w1 o).heap[w1.heap.size]? = some o := fun o => heap_alloc_new w1 o
      rw [← HGE.out k hk]
      simp only [World.cell?, hh]
      rcases hL8 k hk with rfl | rfl | rfl | rfl | rfl | rfl | rfl | rfl <;> rfl
  case rest =>
    obtain ⟨hu, HC8, HB2, HZ2⟩ := hcut
    subst hu
    have HX2 : Hid (OpAt wc w.heap.size l) := HX1.out.below HB2.out
    have HBw2 : Hid (Below w.heap.size w wc) := HB1.out.trans (HB2.out.mono (by omega))
    have HZ : Hid (w1.heap.size < wc.heap.size) := HZ2.out
    clear c0 c1 c2 c3 c4 c5 c6 c7 c8 c9 c10 c11 c12 c13 c14 c15 c16 c17 c18 HX1 HB1 HB2 HZ2
    generalize wc = W2 at *
    clear wc
    obtain ⟨c0, c1, c2, c3, c4, c5, c6, c7, c8, c9, c10, c11, c12, c13, c14, c15, c16, c17, c18⟩ := HX2.out.cells HLE.out
    go_upto_region 3 with fail
    go_cut [5] (fun v wx => v = .slice (some ⟨W2.heap.size, 0, none⟩) 17 17 ∧ Hid (InAt wx W2.heap.size (num17 l)) ∧ Hid (Below W2.heap.size W2 wx) ∧ Hid (W2.heap.size < wx.heap.size))
    case first =>
        have d2 := HC8.out 2 (by omega)
        have d3 := HC8.out 3 (by omega)
        have d4 := HC8.out 4 (by omega)
        have d5 := HC8.out 5 (by omega)
        have d6 := HC8.out 6 (by omega)
        have d7 := HC8.out 7 (by omega)
        have HGE : Hid (∀ k, k < 17 → ([l.getD 0 0, l.getD 1 0, l.getD 4 0, l.getD 5 0, l.getD 6 0, l.getD 7 0, l.getD 8 0, l.getD 9 0, l.getD 10 0, l.getD 11 0, l.getD 12 0, l.getD 13 0, l.getD 14 0, l.getD 15 0, l.getD 16 0, l.getD 17 0, l.getD 18 0] : List Int).getD k 0 = (num17 l).getD k 0) := fun k hk => by rw [hNE]
        have HNLn : Hid ((num17 l).length = 17) := num17_len l
        clear hNE HC8
        simp only [Nat.reduceAdd] at d2 d3 d4 d5 d6 d7
        generalize num17 l = nl at *
        generalize hx0 : l.getD 0 0 = x0 at *
        clear hx0
        generalize hx1 : l.getD 1 0 = x1 at *
        clear hx1
        generalize hx4 : l.getD 4 0 = x4 at *
        clear hx4
        generalize hx5 : l.getD 5 0 = x5 at *
        clear hx5
        generalize hx6 : l.getD 6 0 = x6 at *
        clear hx6
        generalize hx7 : l.getD 7 0 = x7 at *
        clear hx7
        generalize hx8 : l.getD 8 0 = x8 at *
        clear hx8
        generalize hx9 : l.getD 9 0 = x9 at *
        clear hx9
        generalize hx10 : l.getD 10 0 = x10 at *
        clear hx10
        generalize hx11 : l.getD 11 0 = x11 at *
        clear hx11
        generalize hx12 : l.getD 12 0 = x12 at *
        clear hx12
        generalize hx13 : l.getD 13 0 = x13 at *
        clear hx13
        generalize hx14 : l.getD 14 0 = x14 at *
        clear hx14
        generalize hx15 : l.getD 15 0 = x15 at *
        clear hx15
        generalize hx16 : l.getD 16 0 = x16 at *
        clear hx16
        generalize hx17 : l.getD 17 0 = x17 at *
        clear hx17
        generalize hx18 : l.getD 18 0 = x18 at *
        clear hx18
        clear c2 c3
        go_wp2
        go_meet
        refine ⟨rfl, fun k hk => ?_, (Below.refl _ _).alloc (Nat.le_refl _) _, by show _ < _; simp⟩
        have hh : ∀ o, (World.alloc W2 o).heap[W2.heap.size]? = some o := fun o => heap_alloc_new W2 o
        have hk17 : k < 17 := by rw [HNLn.out] at hk; exact hk
        have hgk := HGE.out k hk17
        simp only [World.cell?, hh]
        rw [← hgk]
        have : k = 0 ∨ k = 1 ∨ k = 2 ∨ k = 3 ∨ k = 4 ∨ k = 5 ∨ k = 6 ∨ k = 7 ∨ k = 8 ∨ k = 9 ∨ k = 10 ∨ k = 11 ∨ k = 12 ∨ k = 13 ∨ k = 14 ∨ k = 15 ∨ k = 16 := by omega
        rcases this with rfl | rfl | rfl | rfl | rfl | rfl | rfl | rfl | rfl | rfl | rfl | rfl | rfl | rfl | rfl | rfl | rfl <;> rfl
    case rest =>
      obtain ⟨hu, HIN, HB3, HZ3⟩ := hcut
      subst hu
      have HX3 : Hid (OpAt wc w.heap.size l) := HX2.out.below HB3.out
      have HBw3 : Hid (Below w.heap.size w wc) := HBw2.out.trans (HB3.out.mono (by have := HX2.out.lt; omega))
      have HZg : Hid (W2.heap.size < wc.heap.size) := HZ3.out
      clear c0 c1 c2 c3 c4 c5 c6 c7 c8 c9 c10 c11 c12 c13 c14 c15 c16 c17 c18 HX2 HBw2 HB3 HZ3 HC8 HZ hNE
      generalize wc = W3 at *
      clear wc
      generalize W2.heap.size = g at *
      clear W2
      have HLD : Hid ((loadVar 27 ⟨w.heap.size, 0, none⟩).run Tryz.prog W3 = .ok (.agg iv) W3) := run_loadVar_row (P := Tryz.prog) _ w.heap.size 27 27 _ (0, 0) _ (by have := HX3.out; unfold OpAt at this; rwa [HIV.out] at this) Tryz.underlying27 rfl (by rw [HSZ.out]; kernel_rfl)
      go_upto_region 4 with fail
      apply wp_region_lit
      refine Go.Great.wpList_readTo rfl (some 58) rfl (.agg iv) (load_row rfl (by kernel_rfl) HLD.out) ?_
      go_wp2_with fail
      refine (HFO _ (HV.out _ HBw3.out)).mono ?_
      rintro e w4 ⟨rfl, hB4⟩
      have HX4 : Hid (OpAt w4 w.heap.size l) := HX3.out.below hB4
      have HI4 : Hid (InAt w4 g (num17 l)) := HIN.out.below HZg.out hB4
      have HB4 : Hid (Below w.heap.size w w4) := HBw3.out.trans (hB4.mono HBw3.out.size)
      have hg4 : g < w4.heap.size := Nat.lt_of_lt_of_le HZg.out hB4.size
      have HPO := parseOpts_any (optsL (num17 l)) (by have := HSL.out; omega) w4 (HV.out _ HB4.out)
      clear hB4 HX3 HIN HBw3 HLD HFO HZg
      go_wp2_with fail
      refine HPO.mono ?_
      rintro e w5 ⟨⟨r, hr, rfl⟩, hB5⟩
      have hre := hr.uniq HBK.out
      obtain ⟨ro, er, hPE, hro, hOK, hBAD⟩ : ∃ (ro : List Int) (er : Nat), PoE r = .returned (.tuple #[.agg (intsV ro), .int .i64 (er : Int)]) ∧ ro.length = 19 ∧ ((num17 l).all inNum = true → er = 0 ∧ ro = optsOf (num17 l)) ∧ ((num17 l).all inNum = false → er = 22) := by
        rw [hre]
        cases hall : (num17 l).all inNum with
        | true => exact ⟨optsOf (num17 l), 0, rfl, optsOf_len _, fun _ => ⟨rfl, rfl⟩, fun h => by cases h⟩
        | false => exact ⟨zeros, 22, rfl, rfl, (fun h => by cases h), fun _ => rfl⟩
      rw [hPE]
      have HROK : Hid ((num17 l).all inNum = true → er = 0 ∧ ro = optsOf (num17 l)) := hOK
      have HRBAD : Hid ((num17 l).all inNum = false → er = 22) := hBAD
      have HRO : Hid (ro.length = 19) := hro
      have HX5 : Hid (OpAt w5 w.heap.size l) := HX4.out.below hB5
      have HI5 : Hid (InAt w5 g (num17 l)) := HI4.out.below hg4 hB5
      have HB5 : Hid (Below w.heap.size w w5) := HB4.out.trans (hB5.mono HB4.out.size)
      have hg5 : g < w5.heap.size := Nat.lt_of_lt_of_le hg4 hB5.size
      have hb5 : w.heap.size < w5.heap.size := HX5.out.lt
      clear hre hr hPE hro hOK hBAD hB5 HPO HX4 HI4 HB4 hg4 HSL HBK
      have HRZ : Hid ((intsV ro).size = 19) := (intsV_size ro).trans HRO.out
      have hone : Hid ((intsV ro).all (·.oneCell') = true) := intsV_one _
      obtain ⟨rv, hrv⟩ : ∃ rv, intsV ro = rv := ⟨_, rfl⟩
      have HRV : Hid (intsV ro = rv) := hrv
      rw [hrv] at HRZ hone
      rw [hrv]
      clear hrv
      rename ∀ (a : Act) (w : World), wpList Tryz.prog _ _ _ a w → _ => aK
      refine aK _ _ ?_
      clear aK
      refine Go.Great.wpList_readTo rfl (some 60) rfl (.tuple #[.agg rv, .int .i64 (er : Int)]) (by kernel_rfl) ?_
      refine Go.Great.wpList_readTo rfl (some 63) rfl (.agg rv) (by kernel_rfl) ?_
      refine Go.Great.wpList_readTo rfl (some 64) rfl (.int .i64 (er : Int)) (by kernel_rfl) ?_
      refine Go.Great.wpList_allocTo rfl (some 7) rfl (.pointer (some ⟨w5.heap.size, 0, none⟩)) (.cells #[.int .i64 0, .int .i64 0, .int .i64 0, .int .i64 0, .int .i64 0, .int .i64 0, .int .i64 0, .int .i64 0, .int .i64 0, .int .i64 0, .int .i64 0, .int .i64 0, .int .i64 0, .int .i64 0, .int .i64 0, .int .i64 0, .int .i64 0, .int .i64 0, .int .i64 0] 27) (by kernel_rfl) ?_
      refine wpList_store_rowTo rfl 27 _ _ rfl rfl w5.heap.size rv (by kernel_rfl) (by kernel_rfl) 27 _ (heap_alloc_new w5 _) (by rw [HRZ.out]; kernel_rfl) (by rw [HRZ.out]; rfl) hone.out ?_
      generalize hW6 : World.setRow _ _ _ = W6
      have HA6 : Hid (Below w5.heap.size w5 W6) := by
        show Below _ _ _
        rw [← hW6]
        exact below_setRow ((Below.refl _ _).alloc (Nat.le_refl _) _) (Nat.le_refl _) _
      have HR6 : Hid (OpAt W6 w5.heap.size ro) := by
        show OpAt _ _ _
        unfold OpAt
        rw [← hW6, HRV.out]
        exact setRow_heap _ _ _ _ _ _ (heap_alloc_new w5 _)
      have HX6 : Hid (OpAt W6 w.heap.size l) := HX5.out.below HA6.out
      have HI6 : Hid (InAt W6 g (num17 l)) := HI5.out.below hg5 HA6.out
      have HB6 : Hid (Below w.heap.size w W6) := HB5.out.trans (HA6.out.mono (by omega))
      clear hW6 HA6 HX5 HI5 HB5 hg5
      go_wp2
      go_loopw [9] (fun i wr => ∃ k : Nat, i = .int .i64 k ∧ k ≤ 17 ∧ Hid (wr = W6) ∧ Hid (∀ j, j < k → inNum ((num17 l).getD j 0) = true)) (fun i _ => 17 - (intOf i).toNat)
      case atStart => exact ⟨0, rfl, by omega, rfl, fun j hj => absurd hj (Nat.not_lt_zero j)⟩
      case round =>
        obtain ⟨k, rfl, hk, hW, HIA⟩ := hrel
        have hw : wr = W6 := hW
        subst hw
        clear hW
        have HNN := fun W => HN (er : Int) W
        by_cases hlt : k < 17
        · have hc := HI6.out k (by rw [num17_len]; exact hlt)
          have HBD : Hid (inNum ((num17 l).getD k 0) = false → er = 22) := fun h => HRBAD.out (by
            rw [Bool.eq_false_iff]
            intro ha
            have := List.all_eq_true.1 ha ((num17 l).getD k 0) (by rw [List.getD_eq_getElem?_getD, List.getElem?_eq_getElem (by rw [num17_len]; exact hlt)]; exact List.getElem_mem _)
            rw [this] at h
            cases h)
          have HNX : Hid (inNum ((num17 l).getD k 0) = true → ∀ j, j < k + 1 → inNum ((num17 l).getD j 0) = true) := fun h j hj => by
            by_cases hjk : j = k
            · rw [hjk]; exact h
            · exact HIA.out j (by omega)
          generalize (num17 l).getD k 0 = n at *
          by_cases h1 : 4611686018427387904 < n
          · have he : er = 22 := HBD.out (by rw [Bool.eq_false_iff]; intro h; have := inNum_iff.1 h; omega)
            subst he
            go_wp2_with (go_at_call 7; refine (HN _ _).mono ?_; rintro e w7 ⟨rfl, hw⟩; subst w7)
            go_ret
            exact ⟨rfl, HB6.out⟩
          by_cases h2 : n < -4611686018427387904
          · have he : er = 22 := HBD.out (by rw [Bool.eq_false_iff]; intro h; have := inNum_iff.1 h; omega)
            subst he
            go_wp2_with (go_at_call 7; refine (HN _ _).mono ?_; rintro e w7 ⟨rfl, hw⟩; subst w7)
            go_ret
            exact ⟨rfl, HB6.out⟩
          have HN2 : Hid _ := HNX.out (inNum_iff.2 ⟨by omega, by omega⟩)
          go_wp2
          exact ⟨⟨k + 1, by simp, by omega, by first | exact rfl | exact True.intro, HN2.out⟩, by simp [intOf]; omega⟩
        · have hke : k = 17 := by omega
          have hall : (num17 l).all inNum = true := by
            rw [List.all_eq_true]
            intro x hx
            obtain ⟨j, hj, rfl⟩ := List.getElem_of_mem hx
            have h17 : j < 17 := by rw [num17_len] at hj; exact hj
            have := HIA.out j (by omega)
            rw [List.getD_eq_getElem?_getD, List.getElem?_eq_getElem hj] at this
            exact this
          obtain ⟨he, hro⟩ := HROK.out hall
          have HSET : Hid ((l.set 2 0).set 3 0 = ro) := by
            show _ = _
            rw [hro]
            match l, HLE.out with
            | [x0, x1, x2, x3, x4, x5, x6, x7, x8, x9, x10, x11, x12, x13, x14, x15, x16, x17, x18], _ => show _ = _; kernel_rfl
          subst he
          clear hall hro hke HROK HRBAD HIA
          have c2 := HX6.out.cell (j := 2) (by rw [HLE.out]; omega)
          have c3 := HX6.out.cell (j := 3) (by rw [HLE.out]; omega)
          have fz := HX6.out.frz
          have HX8 : Hid (OpAt ((wr.setCell ⟨w.heap.size, 2, none⟩ (.int .i64 0)).setCell ⟨w.heap.size, 3, none⟩ (.int .i64 0)) w.heap.size ro) := by
            show OpAt _ _ _
            rw [← HSET.out]
            exact (HX6.out.set 2 0).set 3 0
          have HO8 : Hid (Out (fun i => i = w.heap.size) wr ((wr.setCell ⟨w.heap.size, 2, none⟩ (.int .i64 0)).setCell ⟨w.heap.size, 3, none⟩ (.int .i64 0))) := Out.put (Out.put (X := fun i => i = w.heap.size) (Out.refl _ _) rfl) rfl
          have HR8 : Hid (OpAt ((wr.setCell ⟨w.heap.size, 2, none⟩ (.int .i64 0)).setCell ⟨w.heap.size, 3, none⟩ (.int .i64 0)) w5.heap.size ro) := HR6.out.out HO8.out (by omega)
          have HB8 : Hid (Below w.heap.size w ((wr.setCell ⟨w.heap.size, 2, none⟩ (.int .i64 0)).setCell ⟨w.heap.size, 3, none⟩ (.int .i64 0))) := HB6.out.trans (HO8.out.below HB6.out.size (by intro i hi; omega))
          generalize l.getD 2 0 = y2 at *
          generalize l.getD 3 0 = y3 at *
          go_upto_region 13 with fail
          clear c2 c3 fz HO8 HX6 HR6 HI6 HB6
          generalize World.setCell (World.setCell wr ⟨w.heap.size, 2, none⟩ (.int .i64 0)) ⟨w.heap.size, 3, none⟩ (.int .i64 0) = W8 at *
          have HL1 : Hid ((loadVar 27 ⟨w5.heap.size, 0, none⟩).run Tryz.prog W8 = .ok (.agg rv) W8) := run_loadVar_row (P := Tryz.prog) _ w5.heap.size 27 27 _ (0, 0) _ (by have := HR8.out; unfold OpAt at this; rwa [HRV.out] at this) Tryz.underlying27 rfl (by rw [HRZ.out]; kernel_rfl)
          have HL2 : Hid ((loadVar 27 ⟨w.heap.size, 0, none⟩).run Tryz.prog W8 = .ok (.agg rv) W8) := run_loadVar_row (P := Tryz.prog) _ w.heap.size 27 27 _ (0, 0) _ (by have := HX8.out; unfold OpAt at this; rwa [HRV.out] at this) Tryz.underlying27 rfl (by rw [HRZ.out]; kernel_rfl)
          have heq : (Op.equalIn 10000 27 (.agg rv) (.agg rv)).run Tryz.prog W8 = .ok true W8 := by
            rw [← HRV.out]
            match ro, HRO.out with
            | [x0, x1, x2, x3, x4, x5, x6, x7, x8, x9, x10, x11, x12, x13, x14, x15, x16, x17, x18], _ => exact eq_opts x0 x1 x2 x3 x4 x5 x6 x7 x8 x9 x10 x11 x12 x13 x14 x15 x16 x17 x18 W8
          apply wp_region_lit
          refine Go.Great.wpList_readTo rfl (some 95) rfl (.bool true) (by kernel_rfl) ?_
          refine Go.Great.wpList_readTo rfl (some 96) rfl (.bool true) (by kernel_rfl) ?_
          refine wpList_gtake (by kernel_rfl) (some 97) rfl (.agg rv) W8 (load_row rfl (by kernel_rfl) HL1.out) ?_
          refine wpList_gtake (by kernel_rfl) (some 98) rfl (.agg rv) W8 (load_row rfl (by kernel_rfl) HL2.out) ?_
          refine wpList_gtake (by kernel_rfl) (some 99) rfl (.bool true) W8 (eql_agg rfl (by kernel_rfl) (by kernel_rfl) hg0 heq) ?_
          clear heq HL1 HL2
          go_wp2_with (go_at_call 7; refine (HN _ _).mono ?_; rintro e w7 ⟨rfl, hw⟩; subst w7)
          go_ret
          exact ⟨rfl, HB8.out⟩
end Go.Proofs.YtbckogojnjmjcabGreatDoor
