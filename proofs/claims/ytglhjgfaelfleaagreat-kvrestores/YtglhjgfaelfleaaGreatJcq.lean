/-
  The document's Copy. Copy: another store of the same.
-/
import Derived.Test.YtglhjgfaelfleaaGreatRh
import Derived.Deep.RegionHeld3
import Derived.Test.YtglhjgfaelfleaaGreatDw
namespace Go.Proofs.YtglhjgfaelfleaaGreat
open Go.RowKit Go.Shelf
set_option linter.unusedVariables false

theorem grown_same (w : World) (row : Option Nat) : w.grownBy w row := ⟨rfl, rfl, rfl, Nat.le_refl _, fun _ _ _ => rfl⟩
/-- A row of the call's own takes another row's things. -/
theorem run_append_rr {α : Type} (R : RK α) (ty : TypeId) (w : World) (N M : Nat) (v xv : Value) (xs ys : List α) (hv : Ro R N w v xs) (hx : Ro R M w xv ys) (hlen : xs.length + ys.length ≤ 1000000000) (hN : N ≤ w.heap.size) :
    ∃ v' w', (Builtin.append_ #[R.S, R.S] ty #[v, xv]).run Tryz.prog w = .ok v' w' ∧ Ro R N w' v' (xs ++ ys) ∧ w.grownBy w' v.ownBlock ∧ (v'.ownBlock = v.ownBlock ∨ v'.ownBlock = some w.heap.size) := by
  rcases hx.2 with ⟨rfl, h2⟩ | ⟨g, cap, cur, rfl, hM, hb, h3, h4, h5, h6⟩
  · obtain rfl : ys = [] := List.eq_nil_of_length_eq_zero h2
    obtain ⟨i0, hi, hz0, hz1, hz2⟩ := info_parts R.info
    refine ⟨v, w, ?_, by simpa using hv, grown_same w _, .inl rfl⟩
    rcases hv.2 with ⟨rfl, _⟩ | ⟨g, cap', cur, rfl, _, _, hnc, _⟩
    · simp [Builtin.append_, run_underlying R.und, sizeOf, typeInfo, hi, Builtin.lenOf, Builtin.firstCells]
    · simp [Builtin.append_, run_underlying R.und, sizeOf, typeInfo, hi, Builtin.lenOf, Builtin.firstCells, hnc, storeCells]
  · refine run_append_rs R ty w N v xs ys hv ⟨g, 0, none⟩ cap rfl (fun j u hj => ?_) hlen hN
    have hj' : j < ys.length * R.k := by rw [← flat_len R ys]; exact (List.getElem?_eq_some_iff.1 hj).1
    rw [← h6, List.getElem?_take_of_lt hj'] at hj
    simp only [World.cell?, hb]
    simpa using hj
theorem step_append_rr {α : Type} (R : RK α) {ops : Array Oper} {o : Oper} {a : Act} {w : World} {K : Act → World → Prop} {Q : Exit → Act → World → Prop} {E : Prop} (hg : o.guard = none) (s y : Operand)
    (hop : o.op = .call { callee := .builtin .append, args := #[s, y], argTypes := #[R.S, R.S] })
    (N M : Nat) (v xv : Value) (xs ys : List α) (hs : a.eval s = v) (hv : Ro R N w v xs) (hy : a.eval y = xv) (hx : Ro R M w xv ys) (hlen : xs.length + ys.length ≤ 1000000000) (hN : N ≤ w.heap.size)
    (hK : ∀ v' w', Ro R N w' v' (xs ++ ys) → w.grownBy w' v.ownBlock → K (a.put o.dst v') w') :
    if Region.wanted o (yielded ops a.tmps) = true then Oper.wp Tryz.prog o a w K Q else E := by
  have hw : Region.wanted o (yielded ops a.tmps) = true := by simp [Region.wanted, hg]
  rw [if_pos hw]
  obtain ⟨v', w', hr, h2, h3, h4⟩ := run_append_rr R o.type w N M v xv xs ys hv hx hlen hN
  unfold Oper.wp execOp
  simp only [hop, resolve, invoke, builtin, Sem.run_bind, Sem.run_pure, Result.andThen_ok, List.map_toArray, List.map_cons, List.map_nil, hs, hy, hr]
  exact hK v' w' h2 h3
theorem Ro.new0 {α : Type} (R : RK α) {N : Nat} {V : World} (hN : N ≤ V.heap.size) {B : Nat} (hB : B = V.heap.size) : Ro R N (V.alloc (.cells #[] R.E)) (.slice (some ⟨B, 0, none⟩) 0 0) [] := by
  subst hB
  exact ⟨by simp, .inr ⟨V.heap.size, 0, #[], rfl, hN, heap_alloc_new V _, by simp, by unfold maxLen; omega, by simp, by simp⟩⟩

/-- Rows of pairs and of sessions, made behind W. -/
structure M2 (W V : World) (p : Option (Value × List (Bs × Bs))) (s : Option (Value × List Se)) : Prop where
  bel : Below W.heap.size W V
  hp : ∀ v l, p = some (v, l) → Ro RQ W.heap.size V v l
  hs : ∀ v l, s = some (v, l) → Ro RT W.heap.size V v l
theorem M2.start {W V : World} (h : Below W.heap.size W V) : M2 W V none none := ⟨h, (fun _ _ e => by cases e), (fun _ _ e => by cases e)⟩
theorem M2.newP {W V : World} {s : Option (Value × List Se)} (h : M2 W V none s) {B : Nat} (hB : B = V.heap.size) : M2 W (V.alloc (.cells #[] 68)) (some (.slice (some ⟨B, 0, none⟩) 0 0, [])) s :=
  ⟨h.bel.alloc h.bel.size _, (fun v l e => by cases e; exact Ro.new0 RQ h.bel.size hB), fun v l e => (h.hs v l e).alloc _⟩
theorem M2.newS {W V : World} {p : Option (Value × List (Bs × Bs))} (h : M2 W V p none) {B : Nat} (hB : B = V.heap.size) : M2 W (V.alloc (.cells #[] 70)) p (some (.slice (some ⟨B, 0, none⟩) 0 0, [])) :=
  ⟨h.bel.alloc h.bel.size _, fun v l e => (h.hp v l e).alloc _, fun v l e => by cases e; exact Ro.new0 RT h.bel.size hB⟩
theorem rows_ne {N M : Nat} {w : World} {v u : Value} {xs : List (Bs × Bs)} {ys : List Se} (h : Ro RQ N w v xs) (k : Ro RT M w u ys) : u.ownBlock = none ∨ u.ownBlock ≠ v.ownBlock := by
  rcases h.2 with ⟨rfl, _⟩ | ⟨g, cap, cur, rfl, _, hb, _⟩
  · cases u.ownBlock <;> simp [Value.ownBlock]
  · exact .inr (k.apart hb (by decide))
theorem rows_ne' {N M : Nat} {w : World} {v u : Value} {xs : List (Bs × Bs)} {ys : List Se} (h : Ro RQ N w v xs) (k : Ro RT M w u ys) : v.ownBlock = none ∨ v.ownBlock ≠ u.ownBlock := by
  rcases k.2 with ⟨rfl, _⟩ | ⟨g, cap, cur, rfl, _, hb, _⟩
  · cases v.ownBlock <;> simp [Value.ownBlock]
  · exact .inr (h.apart hb (by decide))
theorem M2.appP {W V V' : World} {v v' : Value} {l l' : List (Bs × Bs)} {s : Option (Value × List Se)} (h : M2 W V (some (v, l)) s) (g1 : Ro RQ W.heap.size V' v' l') (g2 : V.grownBy V' v.ownBlock) : M2 W V' (some (v', l')) s :=
  ⟨h.bel.grown g2 h.bel.size (fun k e => ((h.hp v l rfl).lt e).1), (fun u m e => by cases e; exact g1), fun u m e => (h.hs u m e).kept g2 (rows_ne (h.hp v l rfl) (h.hs u m e))⟩
theorem M2.appS {W V V' : World} {v v' : Value} {l l' : List Se} {p : Option (Value × List (Bs × Bs))} (h : M2 W V p (some (v, l))) (g1 : Ro RT W.heap.size V' v' l') (g2 : V.grownBy V' v.ownBlock) : M2 W V' p (some (v', l')) :=
  ⟨h.bel.grown g2 h.bel.size (fun k e => ((h.hs v l rfl).lt e).1), fun u m e => (h.hp u m e).kept g2 (rows_ne' (h.hp u m e) (h.hs v l rfl)), fun u m e => by cases e; exact g1⟩

/-- A copy. -/
def CpR (W : World) (K : KV) (e : Ending) (w' : World) : Prop := ∃ d vp vs, e = .returned (.pointer (some ⟨d, 0, none⟩)) ∧ DS W.heap.size w' d vp vs K ∧ Below W.heap.size W w'

theorem cp_made {W V : World} {vp vs : Value} {K : KV} (h : M2 W V (some (vp, K.ps)) (some (vs, K.ss))) (h1 : Ris kP K.ps) (h2 : Ris kS K.ss) (h3 : K.Ok) {e : Ending} (he : e = .returned (.pointer (some ⟨V.heap.size, 0, none⟩)) := by rfl) : CpR W K e (V.alloc (.cells #[vp, vs] 63)) :=
  ⟨_, vp, vs, he, ⟨heap_alloc_new V _, (h.hp _ _ rfl).alloc _, (h.hs _ _ rfl).alloc _, h.bel.size, h1, h2, h3⟩, h.bel.alloc h.bel.size _⟩

set_option maxRecDepth 100000 in
set_option maxHeartbeats 4000000 in
theorem rcopy_any {N : Nat} {W : World} {d : Nat} {vp vs : Value} {K : KV} (h : DS N W d vp vs K) :
    Calls Tryz.prog 12 #[.pointer (some ⟨d, 0, none⟩)] W fun e w' => CpR W K e w' := by
  have HSRC : Hid (∀ V, Below W.heap.size W V → Ro RQ N V vp K.ps ∧ Ro RT N V vs K.ss) := fun V hB => ⟨(h.below hB).rp, (h.below hB).rs⟩
  have HC : Hid (∀ V, Below W.heap.size W V → V.cell? ⟨d, 0, none⟩ = some vp ∧ V.cell? ⟨d, 1, none⟩ = some vs) := fun V hB => (h.below hB).cells
  have HLP : Hid (([] : List (Bs × Bs)).length + K.ps.length ≤ 1000000000) := by have := h.ok.few; show 0 + K.ps.length ≤ 1000000000; omega
  have HLS : Hid (([] : List Se).length + K.ss.length ≤ 1000000000) := by have := h.ok.fewS; show 0 + K.ss.length ≤ 1000000000; omega
  have HOK : Hid (Ris kP K.ps ∧ Ris kS K.ss ∧ K.Ok) := ⟨h.ris, h.rise, h.ok⟩
  have hdl : d < W.heap.size := (Array.getElem?_eq_some_iff.1 h.hd).1
  obtain ⟨c0, c1⟩ := h.cells
  obtain ⟨pa, pc, rfl, -, -⟩ := h.rp.shape
  obtain ⟨sa, sc, rfl, -, -⟩ := h.rs.shape
  have HM0 : Hid (M2 W W.drew none none) := M2.start (Below.drew' (Below.refl _ _))
  clear h
  go_enter Tryz.func12, Tryz.ntmps12
  go_wp2_with fail
  go_region_held3 (fun V => V.cell? ⟨d, 0, none⟩ = some (.slice pa K.ps.length pc) ∧ V.cell? ⟨d, 1, none⟩ = some (.slice sa K.ss.length sc)) (go_keep)
    (first
      | (have hm : M2 W (W.drew.alloc (.cells #[] 68)) (some (.slice (some ⟨W.heap.size, 0, none⟩) 0 0, [])) none := (HM0.out.newP (B := W.heap.size) (by first | rfl | (rw [World.size_alloc]; rfl))); refine step_append_rr RQ rfl (.tmp 3) (.tmp 7) rfl W.heap.size N (.slice (some ⟨W.heap.size, 0, none⟩) 0 0) (.slice pa K.ps.length pc) [] K.ps rfl (hm.hp _ _ rfl) rfl (HSRC.out _ hm.bel).1 HLP.out hm.bel.size ?_; intro v_Aa w_Aa g1 g2; rw [List.nil_append] at g1; obtain ⟨a_Aa, c_Aa, rfl, -, -⟩ := g1.shape; have HM_Aa : Hid (M2 W w_Aa (some (.slice a_Aa K.ps.length c_Aa, K.ps)) none) := hm.appP g1 g2; have d_Aa := HC.out w_Aa HM_Aa.out.bel; have z_Aa := HM_Aa.out.bel.size; have y_Aa := Nat.lt_of_lt_of_le hdl z_Aa; clear hm g1 g2 HM0)
      | (have hm : M2 W (w_Aa.alloc (.cells #[] 70)) (some (.slice a_Aa K.ps.length c_Aa, K.ps)) (some (.slice (some ⟨w_Aa.heap.size, 0, none⟩) 0 0, [])) := (HM_Aa.out.newS (B := w_Aa.heap.size) (by first | rfl | (rw [World.size_alloc]; rfl))); refine step_append_rr RT rfl (.tmp 9) (.tmp 13) rfl W.heap.size N (.slice (some ⟨w_Aa.heap.size, 0, none⟩) 0 0) (.slice sa K.ss.length sc) [] K.ss rfl (hm.hs _ _ rfl) rfl (HSRC.out _ hm.bel).2 HLS.out hm.bel.size ?_; intro v_Aa_Bb w_Aa_Bb g1 g2; rw [List.nil_append] at g1; obtain ⟨a_Aa_Bb, c_Aa_Bb, rfl, -, -⟩ := g1.shape; have HMF : Hid (M2 W w_Aa_Bb (some (.slice a_Aa K.ps.length c_Aa, K.ps)) (some (.slice a_Aa_Bb K.ss.length c_Aa_Bb, K.ss))) := hm.appS g1 g2; have d_Aa_Bb := HC.out w_Aa_Bb HMF.out.bel; have z_Aa_Bb := HMF.out.bel.size; have y_Aa_Bb := Nat.lt_of_lt_of_le hdl z_Aa_Bb; clear hm g1 g2 HM_Aa)
      | (have hm : M2 W ((W.drew.alloc (.cells #[] 68)).alloc (.cells #[] 70)) (some (.slice (some ⟨W.heap.size, 0, none⟩) 0 0, [])) (some (.slice (some ⟨W.heap.size + 1, 0, none⟩) 0 0, [])) := ((HM0.out.newP (B := W.heap.size) (by first | rfl | (rw [World.size_alloc]; rfl))).newS (B := W.heap.size + 1) (by first | rfl | (rw [World.size_alloc]; rfl))); refine step_append_rr RQ rfl (.tmp 3) (.tmp 7) rfl W.heap.size N (.slice (some ⟨W.heap.size, 0, none⟩) 0 0) (.slice pa K.ps.length pc) [] K.ps rfl (hm.hp _ _ rfl) rfl (HSRC.out _ hm.bel).1 HLP.out hm.bel.size ?_; intro v_Aab w_Aab g1 g2; rw [List.nil_append] at g1; obtain ⟨a_Aab, c_Aab, rfl, -, -⟩ := g1.shape; have HM_Aab : Hid (M2 W w_Aab (some (.slice a_Aab K.ps.length c_Aab, K.ps)) (some (.slice (some ⟨W.heap.size + 1, 0, none⟩) 0 0, []))) := hm.appP g1 g2; have d_Aab := HC.out w_Aab HM_Aab.out.bel; have z_Aab := HM_Aab.out.bel.size; have y_Aab := Nat.lt_of_lt_of_le hdl z_Aab; clear hm g1 g2 HM0)
      | (have hm : M2 W w_Aab (some (.slice a_Aab K.ps.length c_Aab, K.ps)) (some (.slice (some ⟨W.heap.size + 1, 0, none⟩) 0 0, [])) := HM_Aab.out; refine step_append_rr RT rfl (.tmp 9) (.tmp 13) rfl W.heap.size N (.slice (some ⟨W.heap.size + 1, 0, none⟩) 0 0) (.slice sa K.ss.length sc) [] K.ss rfl (hm.hs _ _ rfl) rfl (HSRC.out _ hm.bel).2 HLS.out hm.bel.size ?_; intro v_Aab_B w_Aab_B g1 g2; rw [List.nil_append] at g1; obtain ⟨a_Aab_B, c_Aab_B, rfl, -, -⟩ := g1.shape; have HMF : Hid (M2 W w_Aab_B (some (.slice a_Aab K.ps.length c_Aab, K.ps)) (some (.slice a_Aab_B K.ss.length c_Aab_B, K.ss))) := hm.appS g1 g2; have d_Aab_B := HC.out w_Aab_B HMF.out.bel; have z_Aab_B := HMF.out.bel.size; have y_Aab_B := Nat.lt_of_lt_of_le hdl z_Aab_B; clear hm g1 g2 HM_Aab)
      | (have hm : M2 W ((W.drew.alloc (.cells #[] 68)).alloc (.cells #[] 70)) (some (.slice (some ⟨W.heap.size, 0, none⟩) 0 0, [])) (some (.slice (some ⟨W.heap.size + 1, 0, none⟩) 0 0, [])) := ((HM0.out.newP (B := W.heap.size) (by first | rfl | (rw [World.size_alloc]; rfl))).newS (B := W.heap.size + 1) (by first | rfl | (rw [World.size_alloc]; rfl))); refine step_append_rr RT rfl (.tmp 9) (.tmp 13) rfl W.heap.size N (.slice (some ⟨W.heap.size + 1, 0, none⟩) 0 0) (.slice sa K.ss.length sc) [] K.ss rfl (hm.hs _ _ rfl) rfl (HSRC.out _ hm.bel).2 HLS.out hm.bel.size ?_; intro v_Bab w_Bab g1 g2; rw [List.nil_append] at g1; obtain ⟨a_Bab, c_Bab, rfl, -, -⟩ := g1.shape; have HM_Bab : Hid (M2 W w_Bab (some (.slice (some ⟨W.heap.size, 0, none⟩) 0 0, [])) (some (.slice a_Bab K.ss.length c_Bab, K.ss))) := hm.appS g1 g2; have d_Bab := HC.out w_Bab HM_Bab.out.bel; have z_Bab := HM_Bab.out.bel.size; have y_Bab := Nat.lt_of_lt_of_le hdl z_Bab; clear hm g1 g2 HM0)
      | (have hm : M2 W w_Bab (some (.slice (some ⟨W.heap.size, 0, none⟩) 0 0, [])) (some (.slice a_Bab K.ss.length c_Bab, K.ss)) := HM_Bab.out; refine step_append_rr RQ rfl (.tmp 3) (.tmp 7) rfl W.heap.size N (.slice (some ⟨W.heap.size, 0, none⟩) 0 0) (.slice pa K.ps.length pc) [] K.ps rfl (hm.hp _ _ rfl) rfl (HSRC.out _ hm.bel).1 HLP.out hm.bel.size ?_; intro v_Bab_A w_Bab_A g1 g2; rw [List.nil_append] at g1; obtain ⟨a_Bab_A, c_Bab_A, rfl, -, -⟩ := g1.shape; have HMF : Hid (M2 W w_Bab_A (some (.slice a_Bab_A K.ps.length c_Bab_A, K.ps)) (some (.slice a_Bab K.ss.length c_Bab, K.ss))) := hm.appP g1 g2; have d_Bab_A := HC.out w_Bab_A HMF.out.bel; have z_Bab_A := HMF.out.bel.size; have y_Bab_A := Nat.lt_of_lt_of_le hdl z_Bab_A; clear hm g1 g2 HM_Bab)
      | (have hm : M2 W ((W.drew.alloc (.cells #[] 70)).alloc (.cells #[] 68)) (some (.slice (some ⟨W.heap.size + 1, 0, none⟩) 0 0, [])) (some (.slice (some ⟨W.heap.size, 0, none⟩) 0 0, [])) := ((HM0.out.newS (B := W.heap.size) (by first | rfl | (rw [World.size_alloc]; rfl))).newP (B := W.heap.size + 1) (by first | rfl | (rw [World.size_alloc]; rfl))); refine step_append_rr RQ rfl (.tmp 3) (.tmp 7) rfl W.heap.size N (.slice (some ⟨W.heap.size + 1, 0, none⟩) 0 0) (.slice pa K.ps.length pc) [] K.ps rfl (hm.hp _ _ rfl) rfl (HSRC.out _ hm.bel).1 HLP.out hm.bel.size ?_; intro v_Aba w_Aba g1 g2; rw [List.nil_append] at g1; obtain ⟨a_Aba, c_Aba, rfl, -, -⟩ := g1.shape; have HM_Aba : Hid (M2 W w_Aba (some (.slice a_Aba K.ps.length c_Aba, K.ps)) (some (.slice (some ⟨W.heap.size, 0, none⟩) 0 0, []))) := hm.appP g1 g2; have d_Aba := HC.out w_Aba HM_Aba.out.bel; have z_Aba := HM_Aba.out.bel.size; have y_Aba := Nat.lt_of_lt_of_le hdl z_Aba; clear hm g1 g2 HM0)
      | (have hm : M2 W w_Aba (some (.slice a_Aba K.ps.length c_Aba, K.ps)) (some (.slice (some ⟨W.heap.size, 0, none⟩) 0 0, [])) := HM_Aba.out; refine step_append_rr RT rfl (.tmp 9) (.tmp 13) rfl W.heap.size N (.slice (some ⟨W.heap.size, 0, none⟩) 0 0) (.slice sa K.ss.length sc) [] K.ss rfl (hm.hs _ _ rfl) rfl (HSRC.out _ hm.bel).2 HLS.out hm.bel.size ?_; intro v_Aba_B w_Aba_B g1 g2; rw [List.nil_append] at g1; obtain ⟨a_Aba_B, c_Aba_B, rfl, -, -⟩ := g1.shape; have HMF : Hid (M2 W w_Aba_B (some (.slice a_Aba K.ps.length c_Aba, K.ps)) (some (.slice a_Aba_B K.ss.length c_Aba_B, K.ss))) := hm.appS g1 g2; have d_Aba_B := HC.out w_Aba_B HMF.out.bel; have z_Aba_B := HMF.out.bel.size; have y_Aba_B := Nat.lt_of_lt_of_le hdl z_Aba_B; clear hm g1 g2 HM_Aba)
      | (have hm : M2 W ((W.drew.alloc (.cells #[] 70)).alloc (.cells #[] 68)) (some (.slice (some ⟨W.heap.size + 1, 0, none⟩) 0 0, [])) (some (.slice (some ⟨W.heap.size, 0, none⟩) 0 0, [])) := ((HM0.out.newS (B := W.heap.size) (by first | rfl | (rw [World.size_alloc]; rfl))).newP (B := W.heap.size + 1) (by first | rfl | (rw [World.size_alloc]; rfl))); refine step_append_rr RT rfl (.tmp 9) (.tmp 13) rfl W.heap.size N (.slice (some ⟨W.heap.size, 0, none⟩) 0 0) (.slice sa K.ss.length sc) [] K.ss rfl (hm.hs _ _ rfl) rfl (HSRC.out _ hm.bel).2 HLS.out hm.bel.size ?_; intro v_Bba w_Bba g1 g2; rw [List.nil_append] at g1; obtain ⟨a_Bba, c_Bba, rfl, -, -⟩ := g1.shape; have HM_Bba : Hid (M2 W w_Bba (some (.slice (some ⟨W.heap.size + 1, 0, none⟩) 0 0, [])) (some (.slice a_Bba K.ss.length c_Bba, K.ss))) := hm.appS g1 g2; have d_Bba := HC.out w_Bba HM_Bba.out.bel; have z_Bba := HM_Bba.out.bel.size; have y_Bba := Nat.lt_of_lt_of_le hdl z_Bba; clear hm g1 g2 HM0)
      | (have hm : M2 W w_Bba (some (.slice (some ⟨W.heap.size + 1, 0, none⟩) 0 0, [])) (some (.slice a_Bba K.ss.length c_Bba, K.ss)) := HM_Bba.out; refine step_append_rr RQ rfl (.tmp 3) (.tmp 7) rfl W.heap.size N (.slice (some ⟨W.heap.size + 1, 0, none⟩) 0 0) (.slice pa K.ps.length pc) [] K.ps rfl (hm.hp _ _ rfl) rfl (HSRC.out _ hm.bel).1 HLP.out hm.bel.size ?_; intro v_Bba_A w_Bba_A g1 g2; rw [List.nil_append] at g1; obtain ⟨a_Bba_A, c_Bba_A, rfl, -, -⟩ := g1.shape; have HMF : Hid (M2 W w_Bba_A (some (.slice a_Bba_A K.ps.length c_Bba_A, K.ps)) (some (.slice a_Bba K.ss.length c_Bba, K.ss))) := hm.appP g1 g2; have d_Bba_A := HC.out w_Bba_A HMF.out.bel; have z_Bba_A := HMF.out.bel.size; have y_Bba_A := Nat.lt_of_lt_of_le hdl z_Bba_A; clear hm g1 g2 HM_Bba)
      | (have hm : M2 W (W.drew.alloc (.cells #[] 70)) none (some (.slice (some ⟨W.heap.size, 0, none⟩) 0 0, [])) := (HM0.out.newS (B := W.heap.size) (by first | rfl | (rw [World.size_alloc]; rfl))); refine step_append_rr RT rfl (.tmp 9) (.tmp 13) rfl W.heap.size N (.slice (some ⟨W.heap.size, 0, none⟩) 0 0) (.slice sa K.ss.length sc) [] K.ss rfl (hm.hs _ _ rfl) rfl (HSRC.out _ hm.bel).2 HLS.out hm.bel.size ?_; intro v_Bb w_Bb g1 g2; rw [List.nil_append] at g1; obtain ⟨a_Bb, c_Bb, rfl, -, -⟩ := g1.shape; have HM_Bb : Hid (M2 W w_Bb none (some (.slice a_Bb K.ss.length c_Bb, K.ss))) := hm.appS g1 g2; have d_Bb := HC.out w_Bb HM_Bb.out.bel; have z_Bb := HM_Bb.out.bel.size; have y_Bb := Nat.lt_of_lt_of_le hdl z_Bb; clear hm g1 g2 HM0)
      | (have hm : M2 W (w_Bb.alloc (.cells #[] 68)) (some (.slice (some ⟨w_Bb.heap.size, 0, none⟩) 0 0, [])) (some (.slice a_Bb K.ss.length c_Bb, K.ss)) := (HM_Bb.out.newP (B := w_Bb.heap.size) (by first | rfl | (rw [World.size_alloc]; rfl))); refine step_append_rr RQ rfl (.tmp 3) (.tmp 7) rfl W.heap.size N (.slice (some ⟨w_Bb.heap.size, 0, none⟩) 0 0) (.slice pa K.ps.length pc) [] K.ps rfl (hm.hp _ _ rfl) rfl (HSRC.out _ hm.bel).1 HLP.out hm.bel.size ?_; intro v_Bb_Aa w_Bb_Aa g1 g2; rw [List.nil_append] at g1; obtain ⟨a_Bb_Aa, c_Bb_Aa, rfl, -, -⟩ := g1.shape; have HMF : Hid (M2 W w_Bb_Aa (some (.slice a_Bb_Aa K.ps.length c_Bb_Aa, K.ps)) (some (.slice a_Bb K.ss.length c_Bb, K.ss))) := hm.appP g1 g2; have d_Bb_Aa := HC.out w_Bb_Aa HMF.out.bel; have z_Bb_Aa := HMF.out.bel.size; have y_Bb_Aa := Nat.lt_of_lt_of_le hdl z_Bb_Aa; clear hm g1 g2 HM_Bb)
      | fail)
  all_goals
    go_wp2
    go_ret
    exact cp_made HMF.out HOK.out.1 HOK.out.2.1 HOK.out.2.2
end Go.Proofs.YtglhjgfaelfleaaGreat
namespace Go.Proofs.YtglhjgfaelfleaaGreat
open Go.RowKit Go.Shelf
set_option linter.unusedVariables false

theorem cloneP_any {Wx : World} {mp n : Nat} {D : DataW Value} (h : Wx.ownsMap Tryz.prog 9 rdV mp n D) :
    Calls Tryz.prog 30 #[.map (some mp)] Wx fun e w' => ∃ m, e = .returned (.map (some m)) ∧ w'.ownsMap Tryz.prog 9 rdV m n D ∧ Wx.heap.size ≤ m ∧ Below Wx.heap.size Wx w' := by
  have hcon := AnyW.maps_Clone_owns Tryz.cloneP 9 rdV mp n D Wx h
  exact Calls.mono hcon fun e w' ⟨h1, h2, _, h4⟩ => ⟨_, h1, h2, Nat.le_refl _, h4⟩
theorem cloneS_any {Wx : World} {ms n : Nat} {D : DataW Value} (h : Wx.ownsMap Tryz.prog 3 rdV ms n D) :
    Calls Tryz.prog 31 #[.map (some ms)] Wx fun e w' => ∃ m, e = .returned (.map (some m)) ∧ w'.ownsMap Tryz.prog 3 rdV m n D ∧ Wx.heap.size ≤ m ∧ Below Wx.heap.size Wx w' := by
  have hcon := AnyW.maps_Clone_owns Tryz.cloneS 3 rdV ms n D Wx h
  exact Calls.mono hcon fun e w' ⟨h1, h2, _, h4⟩ => ⟨_, h1, h2, Nat.le_refl _, h4⟩

theorem own_below {w w' : World} {k : TypeId} {m n : Nat} {D : DataW Value} (h : w.ownsMap Tryz.prog k rdV m n D) (hB : Below w.heap.size w w') : w'.ownsMap Tryz.prog k rdV m n D := ownsMap_out (X := fun _ => False) h (Out.of_below hB) id

/-- A copy, made of two clones. -/
theorem copy_st {W w1 w2 : World} {mp ms : Nat} {K : KV} (hp : w2.ownsMap Tryz.prog 9 rdV mp K.ps.length (entsL kP pairV K.ps)) (hs : w2.ownsMap Tryz.prog 3 rdV ms K.ss.length (entsL kS Se.v K.ss)) (hne : mp ≠ ms) (hok : K.Ok) :
    St (w2.alloc (.cells #[.map (some mp), .map (some ms)] 77)) w2.heap.size mp ms K :=
  ⟨heap_alloc_new w2 _, hp.alloc _, hs.alloc _, hne, hok⟩

set_option maxRecDepth 100000 in
set_option maxHeartbeats 4000000 in
theorem copy_any {W : World} {b mp ms : Nat} {K : KV} (h : St W b mp ms K) :
    Calls Tryz.prog 11 #[.pointer (some ⟨b, 0, none⟩)] W fun e w' => ∃ b' mp' ms', e = .returned (.pointer (some ⟨b', 0, none⟩)) ∧ St w' b' mp' ms' K ∧ Below W.heap.size W w' ∧ W.heap.size ≤ mp' ∧ W.heap.size ≤ ms' := by
  have CP : Hid (∀ Wx, Below W.heap.size W Wx → Calls Tryz.prog 30 #[.map (some mp)] Wx fun e w' => ∃ m, e = .returned (.map (some m)) ∧ w'.ownsMap Tryz.prog 9 rdV m K.ps.length (entsL kP pairV K.ps) ∧ W.heap.size ≤ m ∧ Wx.heap.size ≤ m ∧ Below Wx.heap.size Wx w' ∧ Below W.heap.size W w' ∧ w'.cell? ⟨b, 0, none⟩ = some (.map (some mp)) ∧ w'.cell? ⟨b, 1, none⟩ = some (.map (some ms))) := fun Wx hB =>
    (cloneP_any (h.below hB).hp).mono fun e w' ⟨m, h1, h2, h3, h4⟩ => ⟨m, h1, h2, Nat.le_trans hB.size h3, h3, h4, hB.trans (h4.mono hB.size), (h.below (hB.trans (h4.mono hB.size))).cells.1, (h.below (hB.trans (h4.mono hB.size))).cells.2⟩
  have CS : Hid (∀ Wx, Below W.heap.size W Wx → Calls Tryz.prog 31 #[.map (some ms)] Wx fun e w' => ∃ m, e = .returned (.map (some m)) ∧ w'.ownsMap Tryz.prog 3 rdV m K.ss.length (entsL kS Se.v K.ss) ∧ W.heap.size ≤ m ∧ Wx.heap.size ≤ m ∧ Below Wx.heap.size Wx w' ∧ Below W.heap.size W w' ∧ w'.cell? ⟨b, 0, none⟩ = some (.map (some mp)) ∧ w'.cell? ⟨b, 1, none⟩ = some (.map (some ms))) := fun Wx hB =>
    (cloneS_any (h.below hB).hs).mono fun e w' ⟨m, h1, h2, h3, h4⟩ => ⟨m, h1, h2, Nat.le_trans hB.size h3, h3, h4, hB.trans (h4.mono hB.size), (h.below (hB.trans (h4.mono hB.size))).cells.1, (h.below (hB.trans (h4.mono hB.size))).cells.2⟩
  obtain ⟨c0, c1⟩ := h.cells
  have HOK : Hid K.Ok := h.ok
  clear h
  go_enter Tryz.func11, Tryz.ntmps11
  go_wp2_with fail
  go_region_held3 (fun V => V.cell? ⟨b, 0, none⟩ = some (.map (some mp)) ∧ V.cell? ⟨b, 1, none⟩ = some (.map (some ms))) (go_keep)
    (first
      | (go_at_call 30; refine (CP.out W.drew (Below.drew' (Below.refl _ _))).mono ?_; rintro e w1 ⟨m1, rfl, g1, l1, k1, B1, D1, q0, q1⟩; have HG1 : Hid (w1.ownsMap Tryz.prog 9 rdV m1 K.ps.length (entsL kP pairV K.ps)) := g1; have HD1 : Hid (Below W.heap.size W w1) := D1; have CSS := CS.out w1 D1; have HSS : Hid (Calls _ _ _ _ _) := CSS; clear CSS g1 B1 D1 CP CS)
      | (go_at_call 31; refine HSS.out.mono ?_; rintro e w2 ⟨m2, rfl, g2, l2, k2, B2, D2, r0, r1⟩; have HG2 : Hid (w2.ownsMap Tryz.prog 3 rdV m2 K.ss.length (entsL kS Se.v K.ss)) := g2; have HG1' : Hid (w2.ownsMap Tryz.prog 9 rdV m1 K.ps.length (entsL kP pairV K.ps)) := own_below HG1.out B2; have HNE : Hid (m1 ≠ m2) := Nat.ne_of_lt (Nat.lt_of_lt_of_le HG1.out.lt k2); have HD2 : Hid (Below W.heap.size W w2) := D2; clear HSS g2 B2 D2)
      | (go_at_call 31; refine (CS.out W.drew (Below.drew' (Below.refl _ _))).mono ?_; rintro e w1 ⟨m2, rfl, g1, l2, k1, B1, D1, q0, q1⟩; have HG1 : Hid (w1.ownsMap Tryz.prog 3 rdV m2 K.ss.length (entsL kS Se.v K.ss)) := g1; have HD1 : Hid (Below W.heap.size W w1) := D1; have CPP := CP.out w1 D1; have HPP : Hid (Calls _ _ _ _ _) := CPP; clear CPP g1 B1 D1 CP CS)
      | (go_at_call 30; refine HPP.out.mono ?_; rintro e w2 ⟨m1, rfl, g2, l1, k2, B2, D2, r0, r1⟩; have HG1' : Hid (w2.ownsMap Tryz.prog 9 rdV m1 K.ps.length (entsL kP pairV K.ps)) := g2; have HG2 : Hid (w2.ownsMap Tryz.prog 3 rdV m2 K.ss.length (entsL kS Se.v K.ss)) := own_below HG1.out B2; have HNE : Hid (m1 ≠ m2) := Nat.ne_of_gt (Nat.lt_of_lt_of_le HG1.out.lt k2); have HD2 : Hid (Below W.heap.size W w2) := D2; clear HPP g2 B2 D2)
      | fail)
  all_goals
    go_wp2
    go_ret
    exact ⟨_, _, _, rfl, copy_st (W := W) (w1 := w1) HG1'.out HG2.out HNE.out HOK.out, Below.alloc' HD2.out _, l1, l2⟩
end Go.Proofs.YtglhjgfaelfleaaGreat
