/-
  Checks of a batch. Gaps of a batch. A batch is checked.
-/
import Derived.Test.YtnahghldlkjleaaGreatDoorXj
import Derived.Test.YtnahghldlkjleaaGreatDoorCe
namespace Go.Proofs.YtnahghldlkjleaaGreatDoor
open Go.RowKit
set_option linter.unusedVariables false

/-- May a batch have this mark? -/
def isMk (i t : Int) : Bool := decide (0 ≤ i ∧ i ≤ 4611686018427387904 ∧ 0 ≤ t ∧ t ≤ 4611686018427387904) && ((i == 0) == (t == 0))
set_option maxRecDepth 100000 in
set_option maxHeartbeats 1000000 in
theorem isMark_any (i t : Int) (w : World) : Calls Tryz.prog 115 #[.int .i64 i, .int .i64 t] w fun e w' => e = .returned (.bool (isMk i t)) ∧ w' = w := by
  by_cases h1 : 0 ≤ i
  · have d1 : decide (i ≥ 0) = true := by simpa using h1
    by_cases h2 : i ≤ 4611686018427387904
    · have d2 : decide (i ≤ 4611686018427387904) = true := by simpa using h2
      by_cases h3 : 0 ≤ t
      · have d3 : decide (t ≥ 0) = true := by simpa using h3
        by_cases h4 : t ≤ 4611686018427387904
        · have d4 : decide (t ≤ 4611686018427387904) = true := by simpa using h4
          have hm : isMk i t = ((i == 0) == (t == 0)) := by unfold isMk; simp [h1, h2, h3, h4]
          rw [hm]
          clear hm h1 h2 h3 h4
          go_enter Tryz.func115, Tryz.ntmps115
          go_wp2
          go_ret
          exact ⟨by simp, rfl⟩
        · have d4 : decide (t ≤ 4611686018427387904) = false := by simpa using h4
          have hm : isMk i t = false := by unfold isMk; simp [h4]
          rw [hm]
          clear hm h1 h2 h3 h4
          go_enter Tryz.func115, Tryz.ntmps115
          go_wp2
          go_ret
          exact ⟨by simp, rfl⟩
      · have d3 : decide (t ≥ 0) = false := by simpa using h3
        have hm : isMk i t = false := by unfold isMk; simp [h3]
        rw [hm]
        clear hm h1 h2 h3
        go_enter Tryz.func115, Tryz.ntmps115
        go_wp2
        go_ret
        exact ⟨by simp, rfl⟩
    · have d2 : decide (i ≤ 4611686018427387904) = false := by simpa using h2
      have hm : isMk i t = false := by unfold isMk; simp [h2]
      rw [hm]
      clear hm h1 h2
      go_enter Tryz.func115, Tryz.ntmps115
      go_wp2
      go_ret
      exact ⟨by simp, rfl⟩
  · have d1 : decide (i ≥ 0) = false := by simpa using h1
    have hm : isMk i t = false := by unfold isMk; simp [h1]
    rw [hm]
    clear hm h1
    go_enter Tryz.func115, Tryz.ntmps115
    go_wp2
    go_ret
    exact ⟨by simp, rfl⟩

/-- Are entries none of them a gap? -/
def gapsL : Int → Int → List En → Bool
  | _, _, [] => true
  | b, l, e :: q => (wth b l (eI e)).1 && gapsL (wth b l (eI e)).2.1 (wth b l (eI e)).2.2 q
/-- The reach behind the first entries; false: one of them was a gap. -/
def gapsAt : Int → Int → List En → Bool × Int × Int
  | b, l, [] => (true, b, l)
  | b, l, e :: q => if (wth b l (eI e)).1 = true then gapsAt (wth b l (eI e)).2.1 (wth b l (eI e)).2.2 q else (false, (wth b l (eI e)).2.1, (wth b l (eI e)).2.2)
theorem gapsAt_eq : ∀ (b l : Int) (q : List En), (gapsAt b l q).1 = gapsL b l q
  | _, _, [] => rfl
  | b, l, e :: q => by
    unfold gapsAt gapsL
    cases h : (wth b l (eI e)).1 with
    | true => simp [gapsAt_eq]
    | false => simp
theorem gapsAt_snoc (b l : Int) (q : List En) (e : En) (h : (gapsAt b l q).1 = true) : gapsAt b l (q ++ [e]) = wth (gapsAt b l q).2.1 (gapsAt b l q).2.2 (eI e) := by
  induction q generalizing b l with
  | nil =>
    show (if (wth b l (eI e)).1 = true then (true, (wth b l (eI e)).2.1, (wth b l (eI e)).2.2) else (false, (wth b l (eI e)).2.1, (wth b l (eI e)).2.2)) = wth b l (eI e)
    cases h1 : (wth b l (eI e)).1 with
    | true => rw [if_pos rfl]; exact Prod.ext h1.symm rfl
    | false => rw [if_neg (by decide)]; exact Prod.ext h1.symm rfl
  | cons x q ih =>
    unfold gapsAt at h
    show gapsAt b l (x :: (q ++ [e])) = _
    cases h1 : (wth b l (eI x)).1 with
    | true =>
      rw [if_pos h1] at h
      have e1 : gapsAt b l (x :: (q ++ [e])) = gapsAt (wth b l (eI x)).2.1 (wth b l (eI x)).2.2 (q ++ [e]) := by conv => lhs; unfold gapsAt; rw [if_pos h1]
      have e2 : gapsAt b l (x :: q) = gapsAt (wth b l (eI x)).2.1 (wth b l (eI x)).2.2 q := by conv => lhs; unfold gapsAt; rw [if_pos h1]
      rw [e1, e2]
      exact ih _ _ h
    | false => rw [if_neg (by rw [h1]; decide)] at h; cases h
theorem gapsL_front : ∀ (b l : Int) (q r : List En), gapsL b l (q ++ r) = true → gapsL b l q = true
  | _, _, [], _, _ => rfl
  | b, l, e :: q, r, h => by
    simp only [List.cons_append, gapsL, Bool.and_eq_true] at h ⊢
    exact ⟨h.1, gapsL_front _ _ q r h.2⟩
/-- A reach within the numbers. -/
theorem wth_rng {b l i : Int} (hl : Rng l) (hb : Rng b) (hi : i ≤ 4611686018427387904) : Rng (wth b l i).2.2 ∧ Rng (wth b l i).2.1 := by
  unfold wth
  unfold Rng at *
  split
  · exact ⟨hl, hb⟩
  · split
    · exact ⟨⟨by dsimp only; omega, by dsimp only; omega⟩, hb⟩
    · exact ⟨⟨by dsimp only; omega, by dsimp only; omega⟩, ⟨by dsimp only; omega, by dsimp only; omega⟩⟩
theorem gaps_rng : ∀ (b l : Int) (q : List En), Rng l → Rng b → (∀ e ∈ q, eI e ≤ 4611686018427387904) → Rng (gapsAt b l q).2.2 ∧ Rng (gapsAt b l q).2.1
  | b, l, [], hl, hb, _ => ⟨hl, hb⟩
  | b, l, e :: q, hl, hb, hq => by
    obtain ⟨h1, h2⟩ := wth_rng (i := eI e) hl hb (hq e (List.mem_cons_self ..))
    unfold gapsAt
    split
    · exact gaps_rng _ _ q h1 h2 (fun x hx => hq x (List.mem_cons_of_mem _ hx))
    · exact ⟨h1, h2⟩
/-- The first error of some entries. -/
def firstE : List En → Nat
  | [] => 0
  | e :: q => if eCk e = 0 then firstE q else eCk e
/-- The first error of a batch. -/
def Bt.chk (B : Bt) (P : LP) : Nat :=
  if B.has = true ∧ Cd.ckState B.t B.v B.c ≠ 0 then Cd.ckState B.t B.v B.c
  else if isMk B.i B.tm = false then 1
  else if firstE (B.es.map Ent.says) ≠ 0 then firstE (B.es.map Ent.says)
  else if gapsL (if P.news B.i B.tm then B.i else P.bi) (if P.news B.i B.tm then B.i else P.li) (B.es.map Ent.says) then 0 else 13
end Go.Proofs.YtnahghldlkjleaaGreatDoor
namespace Go.Proofs.YtnahghldlkjleaaGreatDoor
open Go.RowKit
set_option linter.unusedVariables false

set_option maxRecDepth 100000 in
set_option maxHeartbeats 2000000 in
theorem checkGaps_any {A : Nat → Prop} {w : World} {wb d : Nat} {X : WS} (h : Wl A w wb d X) (B : Bt) (hes : EntsAt w.heap.size w B.a B.es) (hcp : B.es.length ≤ B.cp ∧ B.cp ≤ maxLen) (hix : ∀ e ∈ B.es, e.i ≤ 4611686018427387904) (hmk : isMk B.i B.tm = true) (hlen : B.es.length ≤ 1000000000) :
    Calls Tryz.prog 117 #[.pointer (some ⟨wb, 0, none⟩), B.val] w fun e w' => e = .returned (.int .i64 ((if gapsL (if X.J.news B.i B.tm then B.i else X.J.bi) (if X.J.news B.i B.tm then B.i else X.J.li) (B.es.map Ent.says) then 0 else 13 : Nat) : Int)) ∧ Below w.heap.size w w' := by
  have hX := h
  obtain ⟨S, L, b, sv, k, h⟩ := h
  have hok := h.hj.ok
  have HRI : Hid (Rng B.i) := by unfold isMk at hmk; simp only [Bool.and_eq_true, decide_eq_true_eq] at hmk; exact ⟨hmk.1.1, hmk.1.2.1⟩
  obtain ⟨W0, hW0⟩ : ∃ W0, w.alloc (.cells #[.bool B.has, .int .i64 B.t, .int .i64 B.v, .int .i64 B.c, .int .i64 B.i, .int .i64 B.tm, .slice B.a B.es.length B.cp] 39) = W0 := ⟨_, rfl⟩
  have HW : Hid (_ = W0) := hW0
  have hB0 : Below w.heap.size w W0 := by rw [← hW0]; exact (Below.refl _ w).alloc (Nat.le_refl _) _
  have hR : W0.heap[w.heap.size]? = some (.cells #[.bool B.has, .int .i64 B.t, .int .i64 B.v, .int .i64 B.c, .int .i64 B.i, .int .i64 B.tm, .slice B.a B.es.length B.cp] 39 (0, 0)) := by rw [← hW0]; exact heap_alloc_new w _
  have h1 := h.below hB0
  obtain ⟨⟨w0, w1, w2, w3, w4⟩, -⟩ := cells5w h1.hw
  have HQ : Hid (∀ V, Below W0.heap.size W0 V → V.cell? ⟨w.heap.size, 0, none⟩ = some (.bool B.has) ∧ V.cell? ⟨w.heap.size, 1, none⟩ = some (.int .i64 B.t) ∧ V.cell? ⟨w.heap.size, 2, none⟩ = some (.int .i64 B.v) ∧ V.cell? ⟨w.heap.size, 3, none⟩ = some (.int .i64 B.c) ∧ V.cell? ⟨w.heap.size, 4, none⟩ = some (.int .i64 B.i) ∧ V.cell? ⟨w.heap.size, 5, none⟩ = some (.int .i64 B.tm) ∧ V.cell? ⟨w.heap.size, 6, none⟩ = some (.slice B.a B.es.length B.cp)) := fun V hB => (cells7 (bel_heap hB hR)).1
  have HRC : Hid (Calls Tryz.prog 169 #[.pointer (some ⟨b, 0, none⟩)] W0 fun e w' => e = .returned (.agg #[.int .i64 X.J.bi, .int .i64 X.J.li]) ∧ Hid (Below W0.heap.size W0 w')) := reach_any h1.hj
  have HNW : Hid (∀ W, Below W0.heap.size W0 W → Calls Tryz.prog 170 #[.pointer (some ⟨wb, 0, none⟩), .agg #[.bool B.has, .int .i64 B.t, .int .i64 B.v, .int .i64 B.c, .int .i64 B.i, .int .i64 B.tm, .slice B.a B.es.length B.cp]] W fun e w' => e = .returned (.bool (X.J.news B.i B.tm)) ∧ Below W.heap.size W w') := fun W hB => isNews_any (hX.below (hB0.trans (hB.mono hB0.size))) B
  have HES : Hid (∀ W, Below W0.heap.size W0 W → EntsAt w.heap.size W B.a B.es) := fun W hB => hes.below (hB0.trans (hB.mono hB0.size))
  have HIX : Hid (∀ e ∈ B.es.map Ent.says, eI e ≤ 4611686018427387904) := fun e he => by
    obtain ⟨x, hx, rfl⟩ := List.mem_map.1 he
    exact hix x hx
  have HB0 : Hid (Below w.heap.size w W0) := hB0
  have HOK : Hid (Rng X.J.li ∧ Rng X.J.bi) := ⟨hok.lim, hok.b0⟩
  obtain ⟨f0, f1, f2, f3, f4, f5, f6⟩ := HQ.out W0 (Below.refl _ _)
  obtain ⟨hcp1, hcp2⟩ := hcp
  unfold maxLen at hcp2
  obtain ⟨ba, hba⟩ : ∃ ba, B.a = ba := ⟨_, rfl⟩
  obtain ⟨nw, hnw⟩ : ∃ nw, X.J.news B.i B.tm = nw := ⟨_, rfl⟩
  obtain ⟨bi, hbi⟩ : ∃ bi, X.J.bi = bi := ⟨_, rfl⟩
  obtain ⟨li, hli⟩ : ∃ li, X.J.li = li := ⟨_, rfl⟩
  rw [hnw] at HNW ⊢
  rw [hbi, hli] at HRC HOK ⊢
  unfold Bt.val
  rw [hba] at HQ HNW HES HW f6 ⊢
  obtain ⟨b0, hb0⟩ : ∃ b0, (if nw = true then B.i else bi) = b0 := ⟨_, rfl⟩
  obtain ⟨l0, hl0⟩ : ∃ l0, (if nw = true then B.i else li) = l0 := ⟨_, rfl⟩
  have HL0 : Hid ((if nw = true then B.i else bi) = b0 ∧ (if nw = true then B.i else li) = l0) := ⟨hb0, hl0⟩
  have HR0 : Hid (Rng l0 ∧ Rng b0) := by
    rw [← hb0, ← hl0]
    cases nw with
    | true => exact ⟨HRI.out, HRI.out⟩
    | false => exact HOK.out
  rw [hb0, hl0]
  obtain ⟨res, hres⟩ : ∃ res, (if gapsL b0 l0 (B.es.map Ent.says) = true then (0 : Nat) else 13) = res := ⟨_, rfl⟩
  have HRES : Hid ((if gapsL b0 l0 (B.es.map Ent.says) = true then (0 : Nat) else 13) = res) := hres
  rw [hres]
  clear hX h hok hW0 hB0 hR h1 w0 w1 w2 w4 hes hix hmk hba hnw hbi hli hb0 hl0 hres
  go_enter Tryz.func117, Tryz.ntmps117
  go_upto_region 1 with fail
  rw [HW.out]
  go_cut [5, 6] (fun v5 v6 wx => v6 = .bool true ∧ ∃ R, v5 = .pointer (some ⟨R, 0, none⟩) ∧ W0.heap.size ≤ R ∧ Hid (wx.heap[R]? = some (.cells #[.int .i64 bi, .int .i64 li] 222 (0, 0))) ∧ Hid (Below W0.heap.size W0 wx))
  case first =>
    clear HNW HES HIX HQ
    go_wp2_with (go_at_call 169; refine HRC.out.mono ?_; rintro e w1 ⟨rfl, HB1⟩)
    go_meet
    exact ⟨rfl, _, rfl, HB1.out.size, heap_alloc_new _ _, bel_alloc' HB1.out _⟩
  case rest =>
    obtain ⟨hu6, R, hu5, hRz, HRh, HB1⟩ := hcut
    subst hu6 hu5
    generalize wc = W1 at *
    clear wc f0 f1 f2 f3 f4 f5 f6
    obtain ⟨f0, f1, f2, f3, f4, f5, f6⟩ := HQ.out W1 HB1.out
    have HN1 : Hid (Calls Tryz.prog 170 #[.pointer (some ⟨wb, 0, none⟩), .agg #[.bool B.has, .int .i64 B.t, .int .i64 B.v, .int .i64 B.c, .int .i64 B.i, .int .i64 B.tm, .slice ba B.es.length B.cp]] W1 fun e w' => e = .returned (.bool nw) ∧ Hid (Below W0.heap.size W0 w') ∧ Hid (w'.heap[R]? = some (.cells #[.int .i64 bi, .int .i64 li] 222 (0, 0))) ∧ w'.cell? ⟨w.heap.size, 4, none⟩ = some (.int .i64 B.i)) :=
      (HNW.out W1 HB1.out).mono fun e w' ⟨he, hB⟩ => by
        have hb := HB1.out.trans (hB.mono HB1.out.size)
        exact ⟨he, hb, bel_heap hB HRh.out, (HQ.out w' hb).2.2.2.2.1⟩
    go_upto_if 16 with (go_at_call 170; refine HN1.out.mono ?_; rintro e w2 ⟨rfl, HB2, HR2, k4⟩)
    go_cut [] (fun wx => Hid (wx.heap[R]? = some (.cells #[.int .i64 b0, .int .i64 l0] 222 (0, 0))) ∧ Hid (Below W0.heap.size W0 wx))
    case first =>
      cases nw with
      | false =>
        have hb : bi = b0 := HL0.out.1
        have hl : li = l0 := HL0.out.2
        subst hb hl
        clear HN1 HNW HES HIX HQ
        go_wp2
        go_meet
        exact ⟨HR2, HB2⟩
      | true =>
        have HBb : Hid (B.i = b0) := HL0.out.1
        have HLl : Hid (B.i = l0) := HL0.out.2
        obtain ⟨⟨c0, c1⟩, cf⟩ := cells2' HR2.out
        clear HN1 HNW HES HIX HQ
        go_wp2
        go_meet
        refine ⟨?_, bel_set' (bel_set' HB2.out hRz) hRz⟩
        have := set2' HR2.out (.int .i64 B.i) (.int .i64 B.i)
        show _ = _
        rw [this, ← HBb.out, ← HLl.out]
    case rest =>
      obtain ⟨HR3, HB3⟩ := hcut
      generalize wc = W3 at *
      clear wc f0 f1 f2 f3 f4 f5 f6 HN1 HNW HR2 HB2 k4 HRC HB1 HRh HL0 HOK HRI
      obtain ⟨f0, f1, f2, f3, f4, f5, f6⟩ := HQ.out W3 HB3.out
      go_wp2_with fail
      go_loopw [6, 25] (fun v6 v25 wr => v6 = .bool true ∧ ∃ k : Nat, v25 = .int .i64 (k : Int) ∧ k ≤ B.es.length ∧ Hid ((gapsAt b0 l0 ((B.es.take k).map Ent.says)).1 = true) ∧ Hid (wr.heap[R]? = some (.cells #[.int .i64 (gapsAt b0 l0 ((B.es.take k).map Ent.says)).2.1, .int .i64 (gapsAt b0 l0 ((B.es.take k).map Ent.says)).2.2] 222 (0, 0))) ∧ Hid (Below W0.heap.size W0 wr)) (fun _ i _ => B.es.length - (intOf i).toNat)
      case atStart => exact ⟨rfl, 0, rfl, Nat.zero_le _, rfl, HR3.out, HB3.out⟩
      case round =>
        obtain ⟨rfl, k, rfl, hk, HG, HRr, HB⟩ := hrel
        by_cases hlt : k < B.es.length
        · obtain ⟨be, off, hba, hbe, hE⟩ := (HES.out wr HB.out).at hlt
          have HTK : Hid ((B.es.take (k + 1)).map Ent.says = (B.es.take k).map Ent.says ++ [(B.es.getD k nilEnt).says]) := by
            show _ = _
            rw [take_succ' hlt, List.map_append]; rfl
          have hmem : (B.es.getD k nilEnt).says ∈ B.es.map Ent.says := List.mem_map_of_mem (by rw [List.getD_eq_getElem?_getD, List.getElem?_eq_getElem hlt]; exact List.getElem_mem hlt)
          have hei := HIX.out _ hmem
          have hrg := gaps_rng b0 l0 ((B.es.take k).map Ent.says) HR0.out.1 HR0.out.2 (fun x hx => HIX.out x (by rw [List.map_take] at hx; exact List.mem_of_mem_take hx))
          have hsn := gapsAt_snoc b0 l0 ((B.es.take k).map Ent.says) (B.es.getD k nilEnt).says HG.out
          rw [← HTK.out] at hsn
          have HDR : Hid (∀ q, gapsL b0 l0 (B.es.map Ent.says) = q → ∀ b', (gapsAt b0 l0 ((B.es.take (k + 1)).map Ent.says)).1 = b' → b' = false → q = false) := fun q hq b' hb' hf => by
            cases q with
            | false => rfl
            | true =>
              have h9 : gapsL b0 l0 ((B.es.take (k + 1)).map Ent.says ++ (B.es.drop (k + 1)).map Ent.says) = true := by rw [← List.map_append, List.take_append_drop]; exact hq
              have := gapsL_front _ _ _ _ h9
              rw [← gapsAt_eq, hb', hf] at this
              cases this
          obtain ⟨e, he⟩ : ∃ e, B.es.getD k nilEnt = e := ⟨_, rfl⟩
          rw [he] at hE hei hsn
          clear HTK hmem
          obtain ⟨bk, hbk⟩ : ∃ bk, (gapsAt b0 l0 ((B.es.take k).map Ent.says)).2.1 = bk := ⟨_, rfl⟩
          obtain ⟨lk, hlk⟩ : ∃ lk, (gapsAt b0 l0 ((B.es.take k).map Ent.says)).2.2 = lk := ⟨_, rfl⟩
          rw [hbk, hlk] at HRr hsn hrg
          obtain ⟨ok, b', l', hw⟩ : ∃ ok b' l', wth bk lk e.i = (ok, b', l') := ⟨_, _, _, rfl⟩
          have hw' : wth bk lk (eI e.says) = (ok, b', l') := hw
          rw [hw'] at hsn
          have HWI : Hid (∀ W, Calls Tryz.prog 171 #[.agg #[.int .i64 bk, .int .i64 lk], .int .i64 e.i] W fun r w' => r = .returned (.tuple #[.agg #[.int .i64 b', .int .i64 l'], .bool ok]) ∧ Below W.heap.size W w') := fun W => by
            have := with_any bk lk e.i W hrg.1
            rw [hw] at this
            exact this
          have HSN : Hid (gapsAt b0 l0 ((B.es.take (k + 1)).map Ent.says) = (ok, b', l')) := hsn
          subst hba
          obtain ⟨k0, k1, k2, k3, -⟩ := hE
          unfold Ent.x at k3
          obtain ⟨⟨c0, c1⟩, cf⟩ := cells2' HRr.out
          have hRl : R < wr.heap.size := (Array.getElem?_eq_some_iff.1 HRr.out).1
          have hRn : R ≠ wr.heap.size := Nat.ne_of_lt hRl
          have HRk : Hid (∀ W, Below wr.heap.size wr W → W.heap[R]? = some (.cells #[.int .i64 bk, .int .i64 lk] 222 (0, 0))) := fun W hB => bel_heap hB HRr.out
          clear he hbk hlk hsn hrg hw hw' hei HQ HES HG hbe f0 f1 f2 f3 f4 f5 f6 HRr
          cases ok with
          | true =>
            go_wp2_with (go_at_call 171; refine (HWI.out _).mono ?_; rintro r w2 ⟨rfl, hB2⟩; have HB2 : Hid (Below wr.heap.size wr w2) := (bel_alloc' (Below.refl _ _) _).trans (hB2.mono (by simp)); have hx := HRk.out w2 HB2.out; obtain ⟨⟨g0, g1⟩, gf⟩ := cells2' hx; have HX : Hid _ := hx; clear hx hB2)
            refine ⟨⟨rfl, k + 1, by go_num, by omega, ?_, ?_, ?_⟩, by simp [intOf]; omega⟩
            · show _ = _; rw [HSN.out]
            · show _ = _
              rw [set2' HX.out, HSN.out]
            · exact bel_set' (bel_set' (HB.out.trans (HB2.out.mono HB.out.size)) hRz) hRz
          | false =>
            have HE : Hid (res = 13) := by
              show _ = _
              rw [← HRES.out, HDR.out _ rfl false (by rw [HSN.out]) rfl]; rfl
            go_wp2_with (go_at_call 171; refine (HWI.out _).mono ?_; rintro r w2 ⟨rfl, hB2⟩; have HB2 : Hid (Below wr.heap.size wr w2) := (bel_alloc' (Below.refl _ _) _).trans (hB2.mono (by simp)); have hx := HRk.out w2 HB2.out; obtain ⟨⟨g0, g1⟩, gf⟩ := cells2' hx; have HX : Hid _ := hx; clear hx hB2)
            go_ret
            refine ⟨by rw [HE.out]; rfl, ?_⟩
            have h1 : Below W0.heap.size W0 w2 := HB.out.trans (HB2.out.mono HB.out.size)
            exact HB0.out.trans ((bel_set' (bel_set' h1 hRz) hRz).mono HB0.out.size)
        · have hke : B.es.take k = B.es := List.take_of_length_le (by omega)
          have HE : Hid (res = 0) := by
            show _ = _
            rw [← HRES.out, ← gapsAt_eq, ← hke, if_pos HG.out]
          have HBz : Hid (Below w.heap.size w wr) := HB0.out.trans (HB.out.mono HB0.out.size)
          clear HQ HES HIX HRES HG HRr
          go_wp2
          go_ret
          exact ⟨by rw [HE.out]; rfl, HBz.out⟩
end Go.Proofs.YtnahghldlkjleaaGreatDoor
namespace Go.Proofs.YtnahghldlkjleaaGreatDoor
open Go.RowKit
set_option linter.unusedVariables false

theorem firstE_app : ∀ (l r : List En), firstE l = 0 → firstE (l ++ r) = firstE r
  | [], _, _ => rfl
  | e :: q, r, h => by
    unfold firstE at h
    split at h
    · rename_i h0
      rw [show firstE (e :: q ++ r) = (if eCk e = 0 then firstE (q ++ r) else eCk e) from rfl, if_pos h0]
      exact firstE_app q r h
    · rename_i h0; exact absurd h h0
theorem firstE_all : ∀ (l : List En), firstE l = 0 → ∀ e ∈ l, eCk e = 0
  | [], _, e, he => by cases he
  | x :: q, h, e, he => by
    unfold firstE at h
    split at h
    · rename_i h0
      rcases List.mem_cons.1 he with rfl | he
      · exact h0
      · exact firstE_all q h e he
    · rename_i h0; exact absurd h h0

set_option maxRecDepth 100000 in
set_option maxHeartbeats 2000000 in
theorem check_any {A : Nat → Prop} {w : World} {wb d : Nat} {X : WS} (h : Wl A w wb d X) (B : Bt) (hes : EntsAt w.heap.size w B.a B.es) (hcp : B.es.length ≤ B.cp ∧ B.cp ≤ maxLen) (hlen : B.es.length ≤ 1000000000) :
    Calls Tryz.prog 79 #[.pointer (some ⟨wb, 0, none⟩), B.val] w fun e w' => e = .returned (.int .i64 ((B.chk X.J : Nat) : Int)) ∧ Below w.heap.size w w' := by
  obtain ⟨W0, hW0⟩ : ∃ W0, w.alloc (.cells #[.bool B.has, .int .i64 B.t, .int .i64 B.v, .int .i64 B.c, .int .i64 B.i, .int .i64 B.tm, .slice B.a B.es.length B.cp] 39) = W0 := ⟨_, rfl⟩
  have HW : Hid (_ = W0) := hW0
  have hB0 : Below w.heap.size w W0 := by rw [← hW0]; exact (Below.refl _ w).alloc (Nat.le_refl _) _
  have hR : W0.heap[w.heap.size]? = some (.cells #[.bool B.has, .int .i64 B.t, .int .i64 B.v, .int .i64 B.c, .int .i64 B.i, .int .i64 B.tm, .slice B.a B.es.length B.cp] 39 (0, 0)) := by rw [← hW0]; exact heap_alloc_new w _
  have HQ : Hid (∀ V, Below W0.heap.size W0 V → V.cell? ⟨w.heap.size, 0, none⟩ = some (.bool B.has) ∧ V.cell? ⟨w.heap.size, 1, none⟩ = some (.int .i64 B.t) ∧ V.cell? ⟨w.heap.size, 2, none⟩ = some (.int .i64 B.v) ∧ V.cell? ⟨w.heap.size, 3, none⟩ = some (.int .i64 B.c) ∧ V.cell? ⟨w.heap.size, 4, none⟩ = some (.int .i64 B.i) ∧ V.cell? ⟨w.heap.size, 5, none⟩ = some (.int .i64 B.tm) ∧ V.cell? ⟨w.heap.size, 6, none⟩ = some (.slice B.a B.es.length B.cp)) := fun V hB => (cells7 (bel_heap hB hR)).1
  have HES : Hid (∀ W, Below W0.heap.size W0 W → EntsAt w.heap.size W B.a B.es) := fun W hB => hes.below (hB0.trans (hB.mono hB0.size))
  have HGP : Hid (firstE (B.es.map Ent.says) = 0 → isMk B.i B.tm = true → ∀ W, Below W0.heap.size W0 W → Calls Tryz.prog 117 #[.pointer (some ⟨wb, 0, none⟩), .agg #[.bool B.has, .int .i64 B.t, .int .i64 B.v, .int .i64 B.c, .int .i64 B.i, .int .i64 B.tm, .slice B.a B.es.length B.cp]] W fun e w' => e = .returned (.int .i64 ((if gapsL (if X.J.news B.i B.tm then B.i else X.J.bi) (if X.J.news B.i B.tm then B.i else X.J.li) (B.es.map Ent.says) then 0 else 13 : Nat) : Int)) ∧ Hid (Below w.heap.size w w')) := fun hf hmk W hB => by
    have hbw := hB0.trans (hB.mono hB0.size)
    refine (checkGaps_any (h.below hbw) B ((hes.below hbw).mono hbw.size) hcp (fun e he => ?_) hmk hlen).mono fun e w' ⟨he, h2⟩ => ⟨he, hbw.trans (h2.mono hbw.size)⟩
    have := eCk_ok (firstE_all _ hf e.says (List.mem_map_of_mem he))
    exact this.2.2.2.1
  have HB0 : Hid (Below w.heap.size w W0) := hB0
  obtain ⟨f0, f1, f2, f3, f4, f5, f6⟩ := HQ.out W0 (Below.refl _ _)
  obtain ⟨hcp1, hcp2⟩ := hcp
  unfold maxLen at hcp2
  obtain ⟨cs, hcs⟩ : ∃ cs, Cd.ckState B.t B.v B.c = cs := ⟨_, rfl⟩
  have HST : Hid (∀ W, Calls Tryz.prog 114 #[.agg #[], .agg #[.int .i64 B.t, .int .i64 B.v, .int .i64 B.c]] W fun e w' => e = .returned (.int .i64 (cs : Int)) ∧ Below W.heap.size W w') := fun W => by
    have := Cd.ckState_any B.t B.v B.c W
    rw [hcs] at this
    exact this
  obtain ⟨mk, hmk⟩ : ∃ mk, isMk B.i B.tm = mk := ⟨_, rfl⟩
  have HMK : Hid (∀ W, Calls Tryz.prog 115 #[.int .i64 B.i, .int .i64 B.tm] W fun e w' => e = .returned (.bool mk) ∧ w' = W) := fun W => by
    have := isMark_any B.i B.tm W
    rw [hmk] at this
    exact this
  obtain ⟨gp, hgp⟩ : ∃ gp, (if gapsL (if X.J.news B.i B.tm then B.i else X.J.bi) (if X.J.news B.i B.tm then B.i else X.J.li) (B.es.map Ent.says) then 0 else 13 : Nat) = gp := ⟨_, rfl⟩
  rw [hgp] at HGP
  rw [hmk] at HGP
  obtain ⟨bh, hbh⟩ : ∃ bh, B.has = bh := ⟨_, rfl⟩
  obtain ⟨ba, hba⟩ : ∃ ba, B.a = ba := ⟨_, rfl⟩
  have HCK : Hid (B.chk X.J = if bh = true ∧ cs ≠ 0 then cs else if mk = false then 1 else if firstE (B.es.map Ent.says) ≠ 0 then firstE (B.es.map Ent.says) else gp) := by
    show _ = _
    unfold Bt.chk
    rw [hcs, hmk, hgp, hbh]
  obtain ⟨res, hres⟩ : ∃ res, B.chk X.J = res := ⟨_, rfl⟩
  rw [hres] at HCK ⊢
  unfold Bt.val
  rw [hba] at HQ HES HGP HW f6 ⊢
  rw [hbh] at HQ HGP HW f0 ⊢
  clear h hW0 hB0 hR hes hcs hmk hgp hbh hba hres
  by_cases hbad : bh = true ∧ cs ≠ 0
  · obtain ⟨hb1, hc1⟩ := hbad
    have HR : Hid (res = cs) := by show _ = _; rw [HCK.out, if_pos ⟨hb1, hc1⟩]
    subst hb1
    have hc2 : ((cs : Int) != 0) = true := by simp; omega
    clear HQ HES HGP HMK HCK hc1
    go_enter Tryz.func79, Tryz.ntmps79
    go_upto_region 1 with fail
    rw [HW.out]
    go_wp2_with (go_at_call 114; refine (HST.out _).mono ?_; rintro e w1 ⟨rfl, hB1⟩)
    go_ret
    exact ⟨by rw [HR.out]; rfl, HB0.out.trans (hB1.mono HB0.out.size)⟩
  · have HC2 : Hid (res = if mk = false then 1 else if firstE (B.es.map Ent.says) ≠ 0 then firstE (B.es.map Ent.says) else gp) := by show _ = _; rw [HCK.out, if_neg hbad]
    have HGO : Hid (bh = true → cs = 0) := fun hb => by
      by_cases hc : cs = 0
      · exact hc
      · exact absurd ⟨hb, hc⟩ hbad
    clear hbad HCK
    go_enter Tryz.func79, Tryz.ntmps79
    go_upto_region 1 with fail
    rw [HW.out]
    go_upto_if 10 with fail
    go_cut [] (fun wx => Hid (Below W0.heap.size W0 wx))
    case first =>
      cases bh with
      | false =>
        clear HQ HES HGP HMK HST
        go_wp2
        go_meet
        exact Below.refl _ _
      | true =>
        have hc0 : cs = 0 := HGO.out rfl
        subst hc0
        clear HQ HES HGP HMK
        go_wp2_with (go_at_call 114; refine (HST.out _).mono ?_; rintro e w1 ⟨rfl, hB1⟩; have HB1 : Hid _ := hB1; clear hB1)
        go_meet
        exact HB1.out
    case rest =>
      have HB1 : Hid (Below W0.heap.size W0 wc) := hcut
      generalize wc = W1 at *
      clear wc hcut f0 f1 f2 f3 f4 f5 f6 HST HGO
      obtain ⟨f0, f1, f2, f3, f4, f5, f6⟩ := HQ.out W1 HB1.out
      cases mk with
      | false =>
        have HR : Hid (res = 1) := by show _ = _; rw [HC2.out]; rfl
        have HBz : Hid (Below w.heap.size w W1) := HB0.out.trans (HB1.out.mono HB0.out.size)
        clear HQ HES HGP
        go_wp2_with (go_at_call 115; refine (HMK.out _).mono ?_; rintro e w2 ⟨rfl, hw2⟩; subst w2)
        go_ret
        exact ⟨by rw [HR.out]; rfl, HBz.out⟩
      | true =>
        have HR : Hid (res = if firstE (B.es.map Ent.says) ≠ 0 then firstE (B.es.map Ent.says) else gp) := by show _ = _; rw [HC2.out]; rfl
        have HG1 : Hid (firstE (B.es.map Ent.says) = 0 → ∀ W, Below W0.heap.size W0 W → Calls Tryz.prog 117 #[.pointer (some ⟨wb, 0, none⟩), .agg #[.bool bh, .int .i64 B.t, .int .i64 B.v, .int .i64 B.c, .int .i64 B.i, .int .i64 B.tm, .slice ba B.es.length B.cp]] W fun e w' => e = .returned (.int .i64 (gp : Int)) ∧ Hid (Below w.heap.size w w')) := fun hf W hB => HGP.out hf rfl W hB
        clear HGP HC2
        go_wp2_with (go_at_call 115; refine (HMK.out _).mono ?_; rintro e w2 ⟨rfl, hw2⟩; subst w2)
        go_loopw [27] (fun v27 wr => ∃ k : Nat, v27 = .int .i64 (k : Int) ∧ k ≤ B.es.length ∧ Hid (firstE ((B.es.take k).map Ent.says) = 0) ∧ Hid (Below W0.heap.size W0 wr)) (fun i _ => B.es.length - (intOf i).toNat)
        case atStart => exact ⟨0, rfl, Nat.zero_le _, rfl, HB1.out⟩
        case round =>
          obtain ⟨k, rfl, hk, HF, HB⟩ := hrel
          by_cases hlt : k < B.es.length
          · obtain ⟨be, off, hba, hbe, hE⟩ := (HES.out wr HB.out).at hlt
            have HTK : Hid ((B.es.take (k + 1)).map Ent.says = (B.es.take k).map Ent.says ++ [(B.es.getD k nilEnt).says]) := by
              show _ = _
              rw [take_succ' hlt, List.map_append]; rfl
            have HAL : Hid (firstE (B.es.map Ent.says) = firstE ((B.es.getD k nilEnt).says :: (B.es.drop (k + 1)).map Ent.says)) := by
              show _ = _
              have e1 : B.es.map Ent.says = (B.es.take k).map Ent.says ++ (B.es.drop k).map Ent.says := by rw [← List.map_append, List.take_append_drop]
              rw [e1, firstE_app _ _ HF.out, drop_at hlt, List.map_cons]
            obtain ⟨e, he⟩ : ∃ e, B.es.getD k nilEnt = e := ⟨_, rfl⟩
            rw [he] at hE HTK HAL
            obtain ⟨ce, hce⟩ : ∃ ce, eCk e.says = ce := ⟨_, rfl⟩
            have HCE : Hid (∀ W, Calls Tryz.prog 116 #[.agg #[], .agg #[.int .i64 e.t, .int .i64 e.i, .int .i64 e.k, .slice e.a e.d.length e.c]] W fun r w' => r = .returned (.int .i64 (ce : Int)) ∧ Below W.heap.size W w') := fun W => by
              have := Cd.ckEntry_any e.t e.i e.k e.a e.d.length e.c W
              rw [show Cd.ckEntry e.t e.i e.k e.d.length = ce from hce] at this
              exact this
            have HFC : Hid (eCk e.says = ce) := hce
            subst hba
            obtain ⟨k0, k1, k2, k3, -⟩ := hE
            unfold Ent.x at k3
            clear he hce HQ HES hbe f0 f1 f2 f3 f4 f5 f6
            by_cases hc : ce = 0
            · have hc2 : ((ce : Int) != 0) = false := by simp; omega
              have HN : Hid (firstE ((B.es.take (k + 1)).map Ent.says) = 0) := by
                show _ = _
                rw [HTK.out, firstE_app _ _ HF.out]
                unfold firstE
                rw [if_pos (HFC.out.trans hc)]; rfl
              clear HG1 HMK HAL HTK
              go_wp2_with (go_at_call 116; refine (HCE.out _).mono ?_; rintro r w2 ⟨rfl, hB2⟩; have HB2 : Hid (Below wr.heap.size wr w2) := (bel_alloc' (Below.refl _ _) _).trans (hB2.mono (by simp)); clear hB2)
              exact ⟨⟨k + 1, by go_num, by omega, HN, HB.out.trans (HB2.out.mono HB.out.size)⟩, by simp [intOf]; omega⟩
            · have hc2 : ((ce : Int) != 0) = true := by simp; omega
              have HE : Hid (res = ce) := by
                have e1 : firstE (B.es.map Ent.says) = ce := by
                  rw [HAL.out]
                  unfold firstE
                  rw [if_neg (by rw [HFC.out]; exact hc)]
                  exact HFC.out
                show _ = _
                rw [HR.out, e1, if_pos hc]
              clear HG1 HMK HAL HTK hc
              go_wp2_with (go_at_call 116; refine (HCE.out _).mono ?_; rintro r w2 ⟨rfl, hB2⟩; have HB2 : Hid (Below wr.heap.size wr w2) := (bel_alloc' (Below.refl _ _) _).trans (hB2.mono (by simp)); clear hB2)
              go_ret
              exact ⟨by rw [HE.out]; rfl, HB0.out.trans ((HB.out.trans (HB2.out.mono HB.out.size)).mono HB0.out.size)⟩
          · have hke : B.es.take k = B.es := List.take_of_length_le (by omega)
            rw [hke] at HF
            have HE : Hid (res = gp) := by show _ = _; rw [HR.out, if_neg (by rw [HF.out]; simp)]
            have HG2 := HG1.out HF.out wr HB.out
            clear f0 f1 f2 f3 f4 f5 f6
            obtain ⟨f0, f1, f2, f3, f4, f5, f6⟩ := HQ.out wr HB.out
            clear HQ HES HG1 HMK
            go_wp2_with (go_at_call 117; refine HG2.mono ?_; rintro r w2 ⟨rfl, HBz⟩)
            go_ret
            exact ⟨by rw [HE.out]; rfl, HBz.out⟩
end Go.Proofs.YtnahghldlkjleaaGreatDoor
