/-
  What is wrong with an act that is to have a line.
-/
import Derived.Test.YtbckogojnjmjcaaGreatDoorB7
import Derived.Test.YtbckogojnjmjcaaGreatDoorB8
import Derived.Test.YtbckogojnjmjcaaGreatDoorB9
import Derived.Deep.DeepCutAuto
import Derived.Deep.CutBlock
namespace Go.Proofs.YtbckogojnjmjcaaGreatDoor
open Go.RowKit Go.Shelf

/-- Two boxes: a form's and an act's. -/
structure Bxs (w W : World) (f : Fo) (pb : Nat) (a : Ac) : Prop where
  bel : Below w.heap.size w W
  sz : w.heap.size + 2 ≤ W.heap.size
  fo : W.heap[w.heap.size]? = some (.cells (f.cs pb) 107 (0, 0))
  ac : AcAt W (w.heap.size + 1) a
theorem Bxs.start (w : World) (f : Fo) (pb : Nat) (a : Ac) : Bxs w ((w.alloc (.cells (f.cs pb) 107)).alloc (.cells a.cells 34)) f pb a := by
  refine ⟨((Below.refl _ _).alloc (Nat.le_refl _) _).alloc (by simp) _, by simp, ?_, ?_⟩
  · rw [Below.heap_alloc _ _ _ (by simp)]; exact heap_alloc_new w _
  · have := heap_alloc_new (w.alloc (.cells (f.cs pb) 107)) (.cells a.cells 34)
    rwa [World.size_alloc] at this
theorem Bxs.below {w W W' : World} {f : Fo} {pb : Nat} {a : Ac} (h : Bxs w W f pb a) (hB : Below W.heap.size W W') : Bxs w W' f pb a :=
  ⟨h.bel.trans (hB.mono h.bel.size), Nat.le_trans h.sz hB.size, (hB.block _ (by have := h.sz; omega)).trans h.fo, h.ac.below hB⟩
theorem drewB (W : World) (n : Nat) : Below W.heap.size W (W.drewN n) := Out.drew (X := fun _ => False) W n |>.below (Nat.le_refl _) (fun _ h => h.elim)

set_option maxRecDepth 100000 in
set_option maxHeartbeats 4000000 in
theorem check_any (f : Fo) (hl5 : f.pl.length ≤ 5) (pb : Nat) (a : Ac) (w : World) (hP : PlAt w pb f.pl) : Calls Tryz.prog 50 #[.agg (f.cs pb), .agg a.cells] w fun e w' => e = .returned (.int .i64 (f.chk a)) ∧ Below w.heap.size w w' := by
  obtain ⟨W2, hW2⟩ : ∃ W2, (w.alloc (.cells (f.cs pb) 107)).alloc (.cells a.cells 34) = W2 := ⟨_, rfl⟩
  have hX2 : Bxs w W2 f pb a := by rw [← hW2]; exact Bxs.start w f pb a
  have HX2 : Hid (Bxs w W2 f pb a) := hX2
  have HW2 : Hid (_ = W2) := hW2
  have HP2 : Hid (PlAt W2 pb f.pl) := hP.below hX2.bel
  have hpb := hP.lt
  have HRS : Hid (∀ n, Calls Tryz.prog 76 #[.agg (f.cs pb), .agg a.cells] (W2.drewN n) fun e w' => e = .returned (.agg (f.rest a).cells) ∧ Hid (Bxs w w' f pb a) ∧ Hid (PlAt w' pb f.pl)) := fun n =>
    (rest_any f hl5 pb a (W2.drewN n) (HP2.out.below (drewB W2 n))).mono fun e w' ⟨h1, h2⟩ => ⟨h1, HX2.out.below ((drewB W2 n).trans h2), HP2.out.below ((drewB W2 n).trans h2)⟩
  obtain ⟨q, HQ⟩ : ∃ q : Bool, Hid (q = decide (f.rest a = f.says)) := ⟨_, rfl⟩
  have HEQ : Hid (∀ W, (Op.equalIn 10000 34 (.agg (f.rest a).cells) (.agg f.says.cells)).run Tryz.prog W = .ok q W) := fun W => by rw [HQ.out]; exact run_eq_act _ _ W
  have hsz2 := hX2.sz
  have HCH : Hid (f.chk a = if f.rest a ≠ f.says then 4 else if a.kind = 2 ∧ ¬ (1 ≤ a.n ∧ a.n ≤ 9) then 20 else if a.kind = 8 ∧ a.m ≠ f.m then 1 else if numsOk f.pl a = true then 0 else 1) := rfl
  clear hX2 hW2 hP
  unfold Fo.cs Ac.cells str at HW2
  unfold Fo.cs Ac.cells str
  unfold Ac.cells Fo.cs str at HRS
  unfold Ac.cells Fo.says str at HEQ
  generalize hra : f.rest a = ra at *
  go_enter Tryz.func50, Tryz.ntmps50
  go_upto_region 1 with fail
  rw [HW2.out]
  go_cut [7] (fun v wx => v = .bool (!q) ∧ Bxs w wx f pb a ∧ PlAt wx pb f.pl)
  case first =>
    have heq := HEQ.out
    obtain ⟨⟨⟨f0, f1, f2, f3, f4, f5, f6, f7, f8, f9, f10⟩, -⟩, a0, a1, a2, a3, a4, a5, a6, a7, a8⟩ := And.intro (cells11 HX2.out.fo) HX2.out.ac.cells
    cases q
    all_goals (
      go_region_held3 (fun V => (V.cell? ⟨w.heap.size, 0, none⟩ = some (.string ⟨f.word.toArray⟩) ∧ V.cell? ⟨w.heap.size, 1, none⟩ = some (.int .i64 f.kind) ∧ V.cell? ⟨w.heap.size, 2, none⟩ = some (.int .i64 0) ∧ V.cell? ⟨w.heap.size, 3, none⟩ = some (.int .i64 0) ∧ V.cell? ⟨w.heap.size, 4, none⟩ = some (.int .i64 0) ∧ V.cell? ⟨w.heap.size, 5, none⟩ = some (.int .i64 f.m) ∧ V.cell? ⟨w.heap.size, 6, none⟩ = some (.int .i64 f.op) ∧ V.cell? ⟨w.heap.size, 7, none⟩ = some (.string ⟨#[]⟩) ∧ V.cell? ⟨w.heap.size, 8, none⟩ = some (.string ⟨#[]⟩) ∧ V.cell? ⟨w.heap.size, 9, none⟩ = some (.string ⟨#[]⟩) ∧ V.cell? ⟨w.heap.size, 10, none⟩ = some (.slice (some ⟨pb, 0, none⟩) f.pl.length f.pl.length)) ∧ (V.cell? ⟨w.heap.size + 1, 0, none⟩ = some (.int .i64 a.kind) ∧ V.cell? ⟨w.heap.size + 1, 1, none⟩ = some (.int .i64 a.node) ∧ V.cell? ⟨w.heap.size + 1, 2, none⟩ = some (.int .i64 a.client) ∧ V.cell? ⟨w.heap.size + 1, 3, none⟩ = some (.int .i64 a.n) ∧ V.cell? ⟨w.heap.size + 1, 4, none⟩ = some (.int .i64 a.m) ∧ V.cell? ⟨w.heap.size + 1, 5, none⟩ = some (.int .i64 a.op) ∧ V.cell? ⟨w.heap.size + 1, 6, none⟩ = some (.string ⟨a.key.toArray⟩) ∧ V.cell? ⟨w.heap.size + 1, 7, none⟩ = some (.string ⟨a.val.toArray⟩) ∧ V.cell? ⟨w.heap.size + 1, 8, none⟩ = some (.string ⟨a.old.toArray⟩))) (go_keep) (first | (go_at_call 76; refine (HRS.out _).mono ?_; rintro e w3 ⟨rfl, HX3, HP3⟩; obtain ⟨⟨⟨f0, f1, f2, f3, f4, f5, f6, f7, f8, f9, f10⟩, -⟩, a0, a1, a2, a3, a4, a5, a6, a7, a8⟩ := And.intro (cells11 HX3.out.fo) HX3.out.ac.cells) | fail)
      all_goals (
        go_wp2
        go_meet
        exact ⟨rfl, HX3.out, HP3.out⟩))
  case rest =>
    obtain ⟨hu, hX3, hP3⟩ := hcut
    subst hu
    generalize wc = W3 at *
    have HX3 : Hid (Bxs w W3 f pb a) := hX3
    have HP3 : Hid (PlAt W3 pb f.pl) := hP3
    clear hX3 hP3 HW2 HX2 HP2 HRS HEQ
    cases q with
    | false =>
      have HR : Hid (f.chk a = 4) := by show _ = _; rw [HCH.out, if_pos (by have := HQ.out; simpa using this)]
      clear HCH HQ
      go_wp2
      go_ret
      exact ⟨by rw [HR.out]; rfl, HX3.out.bel⟩
    | true =>
    have HCH2 : Hid (f.chk a = if a.kind = 2 ∧ ¬ (1 ≤ a.n ∧ a.n ≤ 9) then 20 else if a.kind = 8 ∧ a.m ≠ f.m then 1 else if numsOk f.pl a = true then 0 else 1) := by show _ = _; rw [HCH.out, if_neg (by have := HQ.out; simpa using this)]
    clear HCH HQ
    go_upto_region 3 with fail
    have HKP : Hid (∀ w', Below W3.heap.size W3 w' → Bxs w w' f pb a ∧ PlAt w' pb f.pl) := fun w' h => ⟨HX3.out.below h, HP3.out.below h⟩
    obtain ⟨⟨⟨f0, f1, f2, f3, f4, f5, f6, f7, f8, f9, f10⟩, -⟩, a0, a1, a2, a3, a4, a5, a6, a7, a8⟩ := And.intro (cells11 HX3.out.fo) HX3.out.ac.cells
    go_cut [14] (fun v wx => v = .bool (decide (a.kind = 2) && !hasB 1 9 a.n) ∧ Bxs w wx f pb a ∧ PlAt wx pb f.pl)
    case first =>
      by_cases h2 : a.kind = 2
      · have HN : Hid (∀ W g, Below W3.heap.size W3 W → Calls Tryz.prog 77 #[.agg #[.int .i64 1, .slice (some ⟨g, 0, none⟩) 9 9], .int .i64 a.n] W fun e w' => e = .returned (.bool (hasB 1 9 a.n)) ∧ Hid (Below W3.heap.size W3 w') ∧ w'.cell? ⟨w.heap.size + 1, 0, none⟩ = some (.int .i64 2) ∧ w'.cell? ⟨w.heap.size + 1, 3, none⟩ = some (.int .i64 a.n)) := fun W g hW => (names_has W 1 (by decide) (some ⟨g, 0, none⟩) 9 9 (by decide) a.n).mono fun e w' ⟨h1, h5⟩ => by
          have hb := hW.trans (h5.mono hW.size)
          have := (HKP.out w' hb).1.ac.cells
          exact ⟨h1, hb, by rw [← h2]; exact this.1, this.2.2.2.1⟩
        have HPK : Hid (∀ n, Calls Tryz.prog 72 #[] (W3.drewN n) fun e w' => (∃ g, e = .returned (.agg #[.int .i64 1, .slice (some ⟨g, 0, none⟩) 9 9]) ∧ Hid (Below W3.heap.size W3 w')) ∧ w'.cell? ⟨w.heap.size + 1, 0, none⟩ = some (.int .i64 2) ∧ w'.cell? ⟨w.heap.size + 1, 3, none⟩ = some (.int .i64 a.n)) := fun n => (picks_at (W3.drewN n)).mono fun e w' ⟨g, h1, _, _, h4⟩ => by
          have hb := (drewB W3 n).trans h4
          have := (HKP.out w' hb).1.ac.cells
          exact ⟨⟨g, h1, hb⟩, by rw [← h2]; exact this.1, this.2.2.2.1⟩
        have HD : Hid ((decide (a.kind = 2) && !hasB 1 9 a.n) = !hasB 1 9 a.n) := by show _ = _; simp [h2]
        rw [h2] at a0
        generalize hasB 1 9 a.n = hb at *
        clear h2 f0 f1 f2 f3 f4 f5 f6 f7 f8 f9 f10 a1 a2 a4 a5 a6 a7 a8
        go_region_held3 (fun V => V.cell? ⟨w.heap.size + 1, 0, none⟩ = some (.int .i64 2) ∧ V.cell? ⟨w.heap.size + 1, 3, none⟩ = some (.int .i64 a.n)) (go_keep)
          (first
            | (go_at_call 72; refine (HPK.out _).mono ?_; rintro e w4 ⟨⟨g, rfl, HB4⟩, a0, a3⟩)
            | (go_at_call 77; refine (HN.out _ g HB4.out).mono ?_; rintro e w5 ⟨rfl, HB5, a0, a3⟩)
            | fail)
        all_goals (
          go_wp2
          go_meet
          exact ⟨by rw [HD.out], HKP.out _ HB5.out⟩)
      · have h2b : (a.kind == 2) = false := by simpa using h2
        have HD : Hid ((decide (a.kind = 2) && !hasB 1 9 a.n) = false) := by show _ = _; simp [h2]
        have HKD : Hid (∀ n, Bxs w (W3.drewN n) f pb a ∧ PlAt (W3.drewN n) pb f.pl) := fun n => HKP.out _ (drewB W3 n)
        clear f0 f1 f2 f3 f4 f5 f6 f7 f8 f9 f10 a1 a2 a4 a5 a6 a7 a8 h2
        go_region
        all_goals (
          go_wp2
          go_meet
          exact ⟨by rw [HD.out], HKD.out _⟩)
    case rest =>
      obtain ⟨hu, hX4, hP4⟩ := hcut
      subst hu
      generalize wc = W4 at *
      have HX4 : Hid (Bxs w W4 f pb a) := hX4
      have HP4 : Hid (PlAt W4 pb f.pl) := hP4
      clear hX4 hP4 HX3 HP3 HKP f0 f1 f2 f3 f4 f5 f6 f7 f8 f9 f10 a0 a1 a2 a3 a4 a5 a6 a7 a8
      obtain ⟨q4, HQ4⟩ : ∃ q4 : Bool, Hid (q4 = (decide (a.kind = 2) && !hasB 1 9 a.n)) := ⟨_, rfl⟩
      rw [← HQ4.out]
      cases q4 with
      | true =>
        have HR : Hid (f.chk a = 20) := by
          show _ = _
          rw [HCH2.out, if_pos]
          have := HQ4.out
          unfold hasB at this
          simp only [eq_comm (a := true), Bool.and_eq_true, decide_eq_true_eq, Bool.not_eq_true', Bool.and_eq_false_iff, decide_eq_false_iff_not] at this
          omega
        clear HCH2 HQ4
        go_wp2
        go_ret
        exact ⟨by rw [HR.out]; rfl, HX4.out.bel⟩
      | false =>
      have HCH3 : Hid (f.chk a = if a.kind = 8 ∧ a.m ≠ f.m then 1 else if numsOk f.pl a = true then 0 else 1) := by
        show _ = _
        rw [HCH2.out, if_neg]
        have := HQ4.out
        unfold hasB at this
        rintro ⟨h1, h2⟩
        simp only [h1, decide_true, Bool.true_and, eq_comm (a := false), Bool.not_eq_false', Bool.and_eq_true, decide_eq_true_eq] at this
        omega
      clear HCH2 HQ4
      go_upto_region 5 with fail
      obtain ⟨⟨⟨f0, f1, f2, f3, f4, f5, f6, f7, f8, f9, f10⟩, -⟩, a0, a1, a2, a3, a4, a5, a6, a7, a8⟩ := And.intro (cells11 HX4.out.fo) HX4.out.ac.cells
      clear f0 f1 f2 f3 f4 f6 f7 f8 f9 a1 a2 a3 a5 a6 a7 a8
      go_cut [25] (fun v wx => v = .bool (decide (a.kind = 8) && decide (a.m ≠ f.m)) ∧ wx = W4)
      case first =>
        by_cases h8 : a.kind = 8
        · have HD : Hid ((decide (a.kind = 8) && decide (a.m ≠ f.m)) = (a.m != f.m)) := by
            show _ = _
            rw [h8, Bool.eq_iff_iff]
            simp
          rw [h8] at a0
          clear h8
          go_wp2
          go_meet
          exact ⟨by rw [HD.out], rfl⟩
        · have h8b : (a.kind == 8) = false := by simpa using h8
          have HD : Hid ((decide (a.kind = 8) && decide (a.m ≠ f.m)) = false) := by show _ = _; simp [h8]
          clear h8
          go_wp2
          go_meet
          exact ⟨by rw [HD.out], rfl⟩
      case rest =>
        obtain ⟨hu, hw4⟩ := hcut
        subst hu hw4
        obtain ⟨q5, HQ5⟩ : ∃ q5 : Bool, Hid (q5 = (decide (a.kind = 8) && decide (a.m ≠ f.m))) := ⟨_, rfl⟩
        rw [← HQ5.out]
        cases q5 with
        | true =>
          have HR : Hid (f.chk a = 1) := by
            show _ = _
            rw [HCH3.out, if_pos]
            have := HQ5.out
            simpa using this.symm
          clear HCH3 HQ5
          go_wp2
          go_ret
          exact ⟨by rw [HR.out]; rfl, HX4.out.bel⟩
        | false =>
        have HCH4 : Hid (f.chk a = if numsOk f.pl a = true then 0 else 1) := by
          show _ = _
          rw [HCH3.out, if_neg]
          have := HQ5.out
          rintro ⟨h1, h2⟩
          simp [h1, h2] at this
        clear HCH3 HQ5
        generalize hnp : f.pl.length = np at *
        have HNP : Hid (f.pl.length = np) := hnp
        clear hnp
        go_wp2
        go_loopw [40] (fun i wr => ∃ (k : Nat), i = .int .i64 k ∧ k ≤ np ∧ Hid (numsOk f.pl a = numsOk (f.pl.drop k) a) ∧ Hid (Bxs w wr f pb a) ∧ Hid (PlAt wr pb f.pl)) (fun i _ => np - (intOf i).toNat)
        case atStart => exact ⟨0, rfl, by omega, by show _ = _; rw [List.drop_zero], HX4.out, HP4.out⟩
        case round =>
          obtain ⟨k, rfl, hk, HNI, HXR, HPR⟩ := hrel
          have hszr := HXR.out.sz
          by_cases hlt : k < np
          · obtain ⟨p, hp⟩ : ∃ p, f.pl[k]? = some p := ⟨_, List.getElem?_eq_getElem (by rw [HNP.out]; exact hlt)⟩
            obtain ⟨x0, x1, x2, hx⟩ := p.parts
            obtain ⟨p0, p1, p2⟩ := HPR.out.cells hp hx.fns
            have hs0 := hx.s0
            have hs1 := hx.s1
            have hs2 := hx.s2
            have hpbr : pb < wr.heap.size := HPR.out.lt
            have HST : Hid (numsOk f.pl a = ((!p.isNum || inNum (p.int a)) && numsOk (f.pl.drop (k + 1)) a)) := by
              show _ = _
              obtain ⟨h1, h2⟩ := List.getElem?_eq_some_iff.1 hp
              rw [HNI.out, List.drop_eq_getElem_cons h1, h2]
              rfl
            have HXA : Hid (∀ o, Bxs w (wr.alloc o) f pb a ∧ PlAt (wr.alloc o) pb f.pl) := fun o => ⟨HXR.out.below ((Below.refl _ _).alloc (Nat.le_refl _) _), HPR.out.below ((Below.refl _ _).alloc (Nat.le_refl _) _)⟩
            have hn3 := neqI1
            have hn4 := neqI0
            cases hpn : p.isNum with
            | false =>
              have hx0 : x0 = .nilFunc := by have := hx.fns; cases p <;> simp [Pc.isNum] at hpn <;> simp [Pc.fns] at this <;> exact this.1.symm
              subst hx0
              have HST2 : Hid (numsOk f.pl a = numsOk (f.pl.drop (k + 1)) a) := by show _ = _; rw [HST.out, hpn]; rfl
              clear hp hx hpn HST
              go_wp2
              go_roundw
              case rel => exact ⟨k + 1, by simp, by omega, HST2.out, (HXA.out _).1, (HXA.out _).2⟩
              case measure => simp [intOf]; omega
            | true =>
              have HIS := isNumber_any
              obtain ⟨rc2, -⟩ := stays (W := wr) (R := w.heap.size + 1) (by omega)
              cases p
              case node =>
                have hx0 : x0 = .func (.func 90) #[] #[] := by have := hx.fns; simp [Pc.fns] at this; exact this.1.symm
                subst hx0
                have HF : ∀ W, Calls Tryz.prog 90 #[.pointer (some ⟨w.heap.size + 1, 0, none⟩)] W fun e w' => e = .returned (.pointer (some ⟨w.heap.size + 1, 1, none⟩)) ∧ w' = W := fun W => fn_any .node (w.heap.size + 1) W
                have hci : wr.cell? ⟨w.heap.size + 1, 1, none⟩ = some (.int .i64 a.node) := HXR.out.ac.cell 1
                have HST1 : Hid (numsOk f.pl a = (inNum a.node && numsOk (f.pl.drop (k + 1)) a)) := HST.out
                clear hp hx HST hpn
                generalize a.node = pn at *
                cases hb : inNum pn with
                | false =>
                  have HR : Hid (f.chk a = 1) := by show _ = _; rw [HCH4.out, if_neg]; rw [HST1.out, hb]; simp
                  have hb' : isNumB pn = false := hb
                  clear HST1 hb HCH4
                  go_wp2_with (first
                    | (go_at_call 78; refine (HIS _ _).mono ?_; rw [hb']; rintro e w6 ⟨rfl, hw⟩; subst w6)
                    | (go_at_call 90; refine (HF _).mono ?_; rintro e w5 ⟨rfl, hw⟩; subst w5))
                  go_ret
                  exact ⟨by rw [HR.out]; rfl, (HXA.out _).1.bel⟩
                | true =>
                  have HST2 : Hid (numsOk f.pl a = numsOk (f.pl.drop (k + 1)) a) := by show _ = _; rw [HST1.out, hb]; rfl
                  have hb' : isNumB pn = true := hb
                  clear HST1 hb
                  go_wp2_with (first
                    | (go_at_call 78; refine (HIS _ _).mono ?_; rw [hb']; rintro e w6 ⟨rfl, hw⟩; subst w6)
                    | (go_at_call 90; refine (HF _).mono ?_; rintro e w5 ⟨rfl, hw⟩; subst w5))
                  go_roundw
                  case rel =>
                    refine ⟨_, _, _, _, _, _, _, _, _, _, _, _, _, _, _, _, _, _, _, ⟨k + 1, ?_, by omega, HST2.out, (HXA.out _).1, (HXA.out _).2⟩, rfl⟩
                    simp
                  case measure => simp [intOf]; omega
              case client =>
                have hx0 : x0 = .func (.func 91) #[] #[] := by have := hx.fns; simp [Pc.fns] at this; exact this.1.symm
                subst hx0
                have HF : ∀ W, Calls Tryz.prog 91 #[.pointer (some ⟨w.heap.size + 1, 0, none⟩)] W fun e w' => e = .returned (.pointer (some ⟨w.heap.size + 1, 2, none⟩)) ∧ w' = W := fun W => fn_any .client (w.heap.size + 1) W
                have hci : wr.cell? ⟨w.heap.size + 1, 2, none⟩ = some (.int .i64 a.client) := HXR.out.ac.cell 2
                have HST1 : Hid (numsOk f.pl a = (inNum a.client && numsOk (f.pl.drop (k + 1)) a)) := HST.out
                clear hp hx HST hpn
                generalize a.client = pn at *
                cases hb : inNum pn with
                | false =>
                  have HR : Hid (f.chk a = 1) := by show _ = _; rw [HCH4.out, if_neg]; rw [HST1.out, hb]; simp
                  have hb' : isNumB pn = false := hb
                  clear HST1 hb HCH4
                  go_wp2_with (first
                    | (go_at_call 78; refine (HIS _ _).mono ?_; rw [hb']; rintro e w6 ⟨rfl, hw⟩; subst w6)
                    | (go_at_call 91; refine (HF _).mono ?_; rintro e w5 ⟨rfl, hw⟩; subst w5))
                  go_ret
                  exact ⟨by rw [HR.out]; rfl, (HXA.out _).1.bel⟩
                | true =>
                  have HST2 : Hid (numsOk f.pl a = numsOk (f.pl.drop (k + 1)) a) := by show _ = _; rw [HST1.out, hb]; rfl
                  have hb' : isNumB pn = true := hb
                  clear HST1 hb
                  go_wp2_with (first
                    | (go_at_call 78; refine (HIS _ _).mono ?_; rw [hb']; rintro e w6 ⟨rfl, hw⟩; subst w6)
                    | (go_at_call 91; refine (HF _).mono ?_; rintro e w5 ⟨rfl, hw⟩; subst w5))
                  go_roundw
                  case rel =>
                    refine ⟨_, _, _, _, _, _, _, _, _, _, _, _, _, _, _, _, _, _, _, ⟨k + 1, ?_, by omega, HST2.out, (HXA.out _).1, (HXA.out _).2⟩, rfl⟩
                    simp
                  case measure => simp [intOf]; omega
              case n =>
                have hx0 : x0 = .func (.func 92) #[] #[] := by have := hx.fns; simp [Pc.fns] at this; exact this.1.symm
                subst hx0
                have HF : ∀ W, Calls Tryz.prog 92 #[.pointer (some ⟨w.heap.size + 1, 0, none⟩)] W fun e w' => e = .returned (.pointer (some ⟨w.heap.size + 1, 3, none⟩)) ∧ w' = W := fun W => fn_any .n (w.heap.size + 1) W
                have hci : wr.cell? ⟨w.heap.size + 1, 3, none⟩ = some (.int .i64 a.n) := HXR.out.ac.cell 3
                have HST1 : Hid (numsOk f.pl a = (inNum a.n && numsOk (f.pl.drop (k + 1)) a)) := HST.out
                clear hp hx HST hpn
                generalize a.n = pn at *
                cases hb : inNum pn with
                | false =>
                  have HR : Hid (f.chk a = 1) := by show _ = _; rw [HCH4.out, if_neg]; rw [HST1.out, hb]; simp
                  have hb' : isNumB pn = false := hb
                  clear HST1 hb HCH4
                  go_wp2_with (first
                    | (go_at_call 78; refine (HIS _ _).mono ?_; rw [hb']; rintro e w6 ⟨rfl, hw⟩; subst w6)
                    | (go_at_call 92; refine (HF _).mono ?_; rintro e w5 ⟨rfl, hw⟩; subst w5))
                  go_ret
                  exact ⟨by rw [HR.out]; rfl, (HXA.out _).1.bel⟩
                | true =>
                  have HST2 : Hid (numsOk f.pl a = numsOk (f.pl.drop (k + 1)) a) := by show _ = _; rw [HST1.out, hb]; rfl
                  have hb' : isNumB pn = true := hb
                  clear HST1 hb
                  go_wp2_with (first
                    | (go_at_call 78; refine (HIS _ _).mono ?_; rw [hb']; rintro e w6 ⟨rfl, hw⟩; subst w6)
                    | (go_at_call 92; refine (HF _).mono ?_; rintro e w5 ⟨rfl, hw⟩; subst w5))
                  go_roundw
                  case rel =>
                    refine ⟨_, _, _, _, _, _, _, _, _, _, _, _, _, _, _, _, _, _, _, ⟨k + 1, ?_, by omega, HST2.out, (HXA.out _).1, (HXA.out _).2⟩, rfl⟩
                    simp
                  case measure => simp [intOf]; omega
              case m =>
                have hx0 : x0 = .func (.func 93) #[] #[] := by have := hx.fns; simp [Pc.fns] at this; exact this.1.symm
                subst hx0
                have HF : ∀ W, Calls Tryz.prog 93 #[.pointer (some ⟨w.heap.size + 1, 0, none⟩)] W fun e w' => e = .returned (.pointer (some ⟨w.heap.size + 1, 4, none⟩)) ∧ w' = W := fun W => fn_any .m (w.heap.size + 1) W
                have hci : wr.cell? ⟨w.heap.size + 1, 4, none⟩ = some (.int .i64 a.m) := HXR.out.ac.cell 4
                have HST1 : Hid (numsOk f.pl a = (inNum a.m && numsOk (f.pl.drop (k + 1)) a)) := HST.out
                clear hp hx HST hpn
                generalize a.m = pn at *
                cases hb : inNum pn with
                | false =>
                  have HR : Hid (f.chk a = 1) := by show _ = _; rw [HCH4.out, if_neg]; rw [HST1.out, hb]; simp
                  have hb' : isNumB pn = false := hb
                  clear HST1 hb HCH4
                  go_wp2_with (first
                    | (go_at_call 78; refine (HIS _ _).mono ?_; rw [hb']; rintro e w6 ⟨rfl, hw⟩; subst w6)
                    | (go_at_call 93; refine (HF _).mono ?_; rintro e w5 ⟨rfl, hw⟩; subst w5))
                  go_ret
                  exact ⟨by rw [HR.out]; rfl, (HXA.out _).1.bel⟩
                | true =>
                  have HST2 : Hid (numsOk f.pl a = numsOk (f.pl.drop (k + 1)) a) := by show _ = _; rw [HST1.out, hb]; rfl
                  have hb' : isNumB pn = true := hb
                  clear HST1 hb
                  go_wp2_with (first
                    | (go_at_call 78; refine (HIS _ _).mono ?_; rw [hb']; rintro e w6 ⟨rfl, hw⟩; subst w6)
                    | (go_at_call 93; refine (HF _).mono ?_; rintro e w5 ⟨rfl, hw⟩; subst w5))
                  go_roundw
                  case rel =>
                    refine ⟨_, _, _, _, _, _, _, _, _, _, _, _, _, _, _, _, _, _, _, ⟨k + 1, ?_, by omega, HST2.out, (HXA.out _).1, (HXA.out _).2⟩, rfl⟩
                    simp
                  case measure => simp [intOf]; omega
              case pick => exact absurd hpn (by decide)
              case key => exact absurd hpn (by decide)
              case val => exact absurd hpn (by decide)
              case old => exact absurd hpn (by decide)
          · have : k = np := by omega
            subst this
            have HR : Hid (f.chk a = 0) := by
              show _ = _
              rw [HCH4.out, HNI.out, List.drop_of_length_le (by rw [HNP.out]; omega)]
              rfl
            go_wp2
            go_ret
            exact ⟨by rw [HR.out]; rfl, HXR.out.bel⟩
end Go.Proofs.YtbckogojnjmjcaaGreatDoor
