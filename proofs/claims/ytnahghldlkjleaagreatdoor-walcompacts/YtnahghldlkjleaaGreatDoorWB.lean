/-
  A ledger: has, reach, with. A ledger that turns: keep, anew. A ledger that turns: anew, enter.
-/
import Derived.Test.YtnahghldlkjleaaGreatDoorWA
import Derived.Deep.DeepCutAuto
import Derived.Deep.CutBlock
namespace Go.Proofs.YtnahghldlkjleaaGreatDoor
open Go.RowKit
set_option linter.unusedVariables false

set_option maxRecDepth 100000 in
set_option maxHeartbeats 1000000 in
/-- has. -/
theorem has_any' {L : Nat → Prop} {w : World} {b : Nat} {P : LP} (h : Lj L w b P) (i t : Int) :
    Calls Tryz.prog 159 #[.pointer (some ⟨b, 0, none⟩), .int .i64 i, .int .i64 t] w fun e w' => e = .returned (.bool (P.has i t)) ∧ ∃ n, w' = w.drewN n := by
  obtain ⟨va, vc, sa, sc, es, mb, c, hb, ho, hs, hl, hvc, hvm, -⟩ := h.cells
  obtain ⟨⟨-, -, -, c3, c4, c5, -, -⟩, -⟩ := cells8 hb
  have HL : Hid (Calls _ _ _ _ _) := last_any h
  have HC : Hid (∀ w1, (∃ n, w1 = w.drewN n) → (w1.cell? ⟨b, 3, none⟩ = some (.int .i64 P.bi) ∧ w1.cell? ⟨b, 4, none⟩ = some (.int .i64 P.bt) ∧ w1.cell? ⟨b, 5, none⟩ = some (.slice va P.E.length vc))) := by
    rintro w1 ⟨n, rfl⟩
    exact ⟨c3, c4, c5⟩
  have hb0 := h.ok.b0
  have hlim := h.ok.lim
  unfold Rng at hb0 hlim
  by_cases h1 : i = P.bi
  · have HE : P.has i t = (t == P.bt) := by unfold LP.has; rw [if_pos h1]
    rw [HE]
    subst h1
    clear h hb ho hs hl hvc hvm HE c3 c4 c5
    generalize P.li = li at *
    generalize P.lt = lt at *
    go_enter Tryz.func159, Tryz.ntmps159
    go_wp2_with (go_at_call 52; refine HL.out.mono ?_; rintro e w1 ⟨rfl, hw1⟩; obtain ⟨k3, k4, k5⟩ := HC.out w1 hw1)
    go_ret
    exact ⟨rfl, hw1⟩
  · have h1' : (i == P.bi) = false := by simpa using h1
    by_cases h2 : i < P.bi ∨ P.li < i
    · have HE : P.has i t = false := by unfold LP.has; rw [if_neg h1, if_pos h2]
      rw [HE]
      by_cases h3 : i < P.bi
      · have d1 : decide (i < P.bi) = true := by simpa using h3
        clear h hb ho hs hl hvc hvm HE c3 c4 c5 h2 h1
        generalize P.li = li at *
        generalize P.lt = lt at *
        go_enter Tryz.func159, Tryz.ntmps159
        go_wp2_with (go_at_call 52; refine HL.out.mono ?_; rintro e w1 ⟨rfl, hw1⟩; obtain ⟨k3, k4, k5⟩ := HC.out w1 hw1)
        go_ret
        exact ⟨rfl, hw1⟩
      · have d1 : decide (i < P.bi) = false := by simpa using h3
        have d2 : decide (i > P.li) = true := by simp; omega
        clear h hb ho hs hl hvc hvm HE c3 c4 c5 h2 h1
        generalize P.li = li at *
        generalize P.lt = lt at *
        go_enter Tryz.func159, Tryz.ntmps159
        go_wp2_with (go_at_call 52; refine HL.out.mono ?_; rintro e w1 ⟨rfl, hw1⟩; obtain ⟨k3, k4, k5⟩ := HC.out w1 hw1)
        go_ret
        exact ⟨rfl, hw1⟩
    · have HE : P.has i t = (t == P.tm i) := by unfold LP.has; rw [if_neg h1, if_neg h2]
      rw [HE]
      have d1 : decide (i < P.bi) = false := by simp; omega
      have d2 : decide (i > P.li) = false := by simp; omega
      obtain ⟨n, hn⟩ : ∃ n : Nat, i = P.bi + 1 + (n : Int) := ⟨(i - P.bi - 1).toNat, by omega⟩
      have hnl : n < P.E.length := by unfold LP.li at h2; omega
      have e2 : P.tm i = eT (P.E.getD n nilEn) := by rw [hn, LP.tm_ent]
      rw [e2]
      have hat := EntsOw.at (es := es) (by rw [hl]; exact ho)
      obtain ⟨g, off, rfl, hg, e0, -⟩ := hat.at (i := n) (by omega)
      obtain ⟨s1, -⟩ := ent_says hs n
      rw [s1] at e0
      have HC2 : Hid (∀ w1, (∃ n, w1 = w.drewN n) → w1.cell? ⟨g, off + n * 4, none⟩ = some (.int .i64 (eT (P.E.getD n nilEn)))) := by
        rintro w1 ⟨n, rfl⟩
        exact e0
      have hw0 : IntKind.i64.wrap (i - P.bi) = i - P.bi := by rw [IntKind.wrap_i64]; omega
      have hw1 : IntKind.i64.wrap (i - P.bi - 1) = (n : Int) := by rw [IntKind.wrap_i64]; omega
      have i0 : (0 : Int) ≤ (n : Int) := by omega
      have i1 : (n : Int) < (P.E.length : Int) := by omega
      clear e0 hn e2 h2 h1 s1 hat ho hs hl hb h HE c3 c4 c5 hb0 hlim
      generalize eT (P.E.getD n nilEn) = tn at *
      generalize P.E.length = m at *
      generalize P.li = li at *
      generalize P.lt = lt at *
      generalize P.bi = bi at *
      generalize P.bt = bt at *
      clear P
      go_enter Tryz.func159, Tryz.ntmps159
      go_wp2_with (go_at_call 52; refine HL.out.mono ?_; rintro e w1 ⟨rfl, hw2⟩; obtain ⟨k3, k4, k5⟩ := HC.out w1 hw2; have ke := HC2.out w1 hw2; have HW2 : Hid _ := hw2; clear hw2)
      go_quiet (fail)
      go_wp2
      go_ret
      obtain ⟨q, rfl⟩ := HW2.out
      exact ⟨rfl, _, World.drewN_drewN _ _ _⟩

theorem cells2' {w : World} {b : Nat} {t : TypeId} {v0 v1 : Value} (h : w.heap[b]? = some (.cells #[v0, v1] t (0, 0))) :
    (w.cell? ⟨b, 0, none⟩ = some v0 ∧ w.cell? ⟨b, 1, none⟩ = some v1) ∧ ∀ o, w.frozen? ⟨b, o, none⟩ = false := by
  refine ⟨⟨?_, ?_⟩, ?_⟩
  all_goals (first | (simp only [World.cell?, h]; rfl) | skip)
  intro o
  simp [World.frozen?, h]
theorem set2' {w : World} {B : Nat} {x0 x1 : Value} {t : TypeId} (h : w.heap[B]? = some (.cells #[x0, x1] t (0, 0))) (y0 y1 : Value) :
    ((w.setCell ⟨B, 0, none⟩ y0).setCell ⟨B, 1, none⟩ y1).heap[B]? = some (.cells #[y0, y1] t (0, 0)) := by
  rw [heap_set (heap_set h 0 y0) 1 y1]; rfl
theorem results_R {fn : Func} {t : Tmp} (h : fn.results = #[.cell t 222]) (tmps : Array Value) (w : World) (B : Nat) {x0 x1 : Value} (ht : tmps.getD t undef = .pointer (some ⟨B, 0, none⟩)) (hb : w.heap[B]? = some (.cells #[x0, x1] 222 (0, 0))) :
    (results fn tmps).run Tryz.prog w = .ok (.agg #[x0, x1]) w := by
  obtain ⟨⟨c0, c1⟩, -⟩ := cells2' hb
  have ht' : tmps[t]?.getD undef = .pointer (some ⟨B, 0, none⟩) := by rw [← Array.getD_eq_getD_getElem?]; exact ht
  simp [results, h, ht', asAddr, loadVar, c0, c1, go_sem]
theorem results_Rb {fn : Func} {t t2 : Tmp} (h : fn.results = #[.cell t 222, .tmp t2]) (tmps : Array Value) (w : World) (B : Nat) {x0 x1 y : Value} (ht : tmps.getD t undef = .pointer (some ⟨B, 0, none⟩)) (h2 : tmps.getD t2 undef = y) (hb : w.heap[B]? = some (.cells #[x0, x1] 222 (0, 0))) :
    (results fn tmps).run Tryz.prog w = .ok (.tuple #[.agg #[x0, x1], y]) w := by
  obtain ⟨⟨c0, c1⟩, -⟩ := cells2' hb
  have ht' : tmps[t]?.getD undef = .pointer (some ⟨B, 0, none⟩) := by rw [← Array.getD_eq_getD_getElem?]; exact ht
  have ht2 : tmps[t2]?.getD undef = y := by rw [← Array.getD_eq_getD_getElem?]; exact h2
  simp [results, h, ht', ht2, asAddr, loadVar, c0, c1, go_sem]

set_option maxRecDepth 100000 in
/-- Where a view begins and ends. -/
theorem reach_any {L : Nat → Prop} {w : World} {b : Nat} {P : LP} (h : Lj L w b P) :
    Calls Tryz.prog 169 #[.pointer (some ⟨b, 0, none⟩)] w fun e w' => e = .returned (.agg #[.int .i64 P.bi, .int .i64 P.li]) ∧ Below w.heap.size w w' := by
  have hlw := h.inn _ h.Lb
  have hB : Below w.heap.size w (w.alloc (.cells #[.int .i64 0, .int .i64 0] 222)) := (Below.refl _ w).alloc (Nat.le_refl _) _
  have HL : Hid (Calls _ _ _ _ _) := last_any (h.below hB)
  obtain ⟨va, vc, sa, sc, es, mb, c, hb, -⟩ := h.cells
  obtain ⟨⟨-, -, -, c3, -⟩, -⟩ := cells8 hb
  have HC : Hid (∀ w1, (∃ n, w1 = (w.alloc (.cells #[.int .i64 0, .int .i64 0] 222)).drewN n) → (w1.cell? ⟨b, 3, none⟩ = some (.int .i64 P.bi) ∧ w1.heap[w.heap.size]? = some (.cells #[.int .i64 0, .int .i64 0] 222) ∧ Below w.heap.size w w1)) := by
    rintro w1 ⟨n, rfl⟩
    exact ⟨(hB.cell (p := ⟨b, 3, none⟩) hlw).trans c3, heap_alloc_new _ _, below_drewN hB _⟩
  clear h hb c3
  generalize P.li = li at *
  generalize P.lt = lt at *
  generalize P.bi = bi at *
  go_enter Tryz.func169, Tryz.ntmps169
  go_wp2_with (go_at_call 52; refine HL.out.mono ?_; rintro e w1 ⟨rfl, hw2⟩; obtain ⟨k3, k4, k5⟩ := HC.out w1 hw2; have HW2 : Hid _ := hw2; clear hw2; obtain ⟨⟨d0, d1⟩, df⟩ := cells2' k4)
  refine bodyPost_ret (results_R rfl _ _ w.heap.size rfl (set2' k4 _ _)) rfl ?_
  exact ⟨rfl, (k5.setCell (p := ⟨_, _, _⟩) (Nat.le_refl _) _).setCell (p := ⟨_, _, _⟩) (Nat.le_refl _) _⟩

/-- What a reach is behind an entry of an index. -/
def wth (b l i : Int) : Bool × Int × Int := if i < 1 ∨ l + 1 < i then (false, b, l) else if b < i then (true, b, i) else (true, i - 1, i)
set_option maxRecDepth 100000 in
set_option maxHeartbeats 1000000 in
theorem with_any (b l i : Int) (w : World) (hl : Rng l) :
    Calls Tryz.prog 171 #[.agg #[.int .i64 b, .int .i64 l], .int .i64 i] w fun e w' => e = .returned (.tuple #[.agg #[.int .i64 (wth b l i).2.1, .int .i64 (wth b l i).2.2], .bool (wth b l i).1]) ∧ Below w.heap.size w w' := by
  obtain ⟨W2, hW2⟩ : ∃ W2, (w.alloc (.cells #[.int .i64 b, .int .i64 l] 222)).alloc (.cells #[.int .i64 0, .int .i64 0] 222) = W2 := ⟨_, rfl⟩
  have HW2 : Hid ((w.alloc (.cells #[.int .i64 b, .int .i64 l] 222)).alloc (.cells #[.int .i64 0, .int .i64 0] 222) = W2) := hW2
  have HZ : Hid (W2.heap.size = w.heap.size + 2) := by show W2.heap.size = _; rw [← hW2]; simp
  have HB : Hid (Below w.heap.size w W2) := by show Below _ _ _; rw [← hW2]; exact ((Below.refl _ w).alloc (by simp) _).alloc (by simp) _
  have hx0 : W2.heap[w.heap.size]? = some (.cells #[.int .i64 b, .int .i64 l] 222 (0, 0)) := by
    rw [← hW2]
    exact (heap_alloc_old _ _ (by simp)).trans (heap_alloc_new w _)
  have hx1 : W2.heap[w.heap.size + 1]? = some (.cells #[.int .i64 0, .int .i64 0] 222 (0, 0)) := by
    rw [← hW2]
    have := heap_alloc_new (w.alloc (.cells #[.int .i64 b, .int .i64 l] 222)) (.cells #[.int .i64 0, .int .i64 0] 222)
    rw [World.size_alloc] at this
    exact this
  obtain ⟨⟨c0, c1⟩, -⟩ := cells2' hx0
  obtain ⟨⟨d0, d1⟩, df⟩ := cells2' hx1
  unfold Rng at hl
  have hwl : IntKind.i64.wrap (l + 1) = l + 1 := by rw [IntKind.wrap_i64]; omega
  have HX1 : Hid (W2.heap[w.heap.size + 1]? = some (.cells #[.int .i64 0, .int .i64 0] 222 (0, 0))) := hx1
  have HFB : Hid (∀ x y, Below w.heap.size w ((W2.setCell ⟨w.heap.size + 1, 0, none⟩ x).setCell ⟨w.heap.size + 1, 1, none⟩ y)) := fun x y => (HB.out.setCell (p := ⟨_, _, _⟩) (by simp) _).setCell (p := ⟨_, _, _⟩) (by simp) _
  clear hx0 hx1 hW2
  by_cases h1 : i < 1
  · have HR : wth b l i = (false, b, l) := by unfold wth; rw [if_pos (.inl h1)]
    rw [HR]
    have e1 : decide (i < 1) = true := by simpa using h1
    clear hl HR
    go_enter Tryz.func171, Tryz.ntmps171
    go_upto_region 1 with fail
    rw [HW2.out]
    go_wp2
    refine bodyPost_ret (results_Rb rfl _ _ (w.heap.size + 1) rfl rfl (set2' HX1.out _ _)) rfl ?_
    exact ⟨rfl, HFB.out _ _⟩
  · have e1 : decide (i < 1) = false := by simp; omega
    by_cases h2 : l + 1 < i
    · have HR : wth b l i = (false, b, l) := by unfold wth; rw [if_pos (.inr h2)]
      rw [HR]
      have e2 : decide (i > l + 1) = true := by simp; omega
      clear hl HR
      go_enter Tryz.func171, Tryz.ntmps171
      go_upto_region 1 with fail
      rw [HW2.out]
      go_wp2
      refine bodyPost_ret (results_Rb rfl _ _ (w.heap.size + 1) rfl rfl (set2' HX1.out _ _)) rfl ?_
      exact ⟨rfl, HFB.out _ _⟩
    · have e2 : decide (i > l + 1) = false := by simp; omega
      by_cases h3 : b < i
      · have HR : wth b l i = (true, b, i) := by unfold wth; rw [if_neg (by omega), if_pos h3]
        rw [HR]
        have e3 : decide (i > b) = true := by simp; omega
        clear hl HR
        go_enter Tryz.func171, Tryz.ntmps171
        go_upto_region 1 with fail
        rw [HW2.out]
        go_wp2
        refine bodyPost_ret (results_Rb rfl _ _ (w.heap.size + 1) rfl rfl (set2' HX1.out _ _)) rfl ?_
        exact ⟨rfl, HFB.out _ _⟩
      · have HR : wth b l i = (true, i - 1, i) := by unfold wth; rw [if_neg (by omega), if_neg h3]
        rw [HR]
        have e3 : decide (i > b) = false := by simp; omega
        have hwi : IntKind.i64.wrap (i - 1) = i - 1 := by rw [IntKind.wrap_i64]; omega
        clear hl HR
        go_enter Tryz.func171, Tryz.ntmps171
        go_upto_region 1 with fail
        rw [HW2.out]
        go_wp2
        refine bodyPost_ret (results_Rb rfl _ _ (w.heap.size + 1) rfl rfl (set2' HX1.out _ _)) rfl ?_
        exact ⟨rfl, HFB.out _ _⟩
end Go.Proofs.YtnahghldlkjleaaGreatDoor
namespace Go.Proofs.YtnahghldlkjleaaGreatDoor
open Go.RowKit
set_option linter.unusedVariables false

theorem Ro.not_at {α : Type} {R : RK α} {N : Nat} {w : World} {v : Value} {xs : List α} (h : Ro R N w v xs) {B : Nat} {o : Obj} (hB : w.heap[B]? = some o) (ho : ∀ c z, o ≠ .cells c R.E z) : v.ownBlock ≠ some B := by
  rcases h.2 with ⟨rfl, h2⟩ | ⟨g, cap, cur, rfl, _, hb, _⟩
  · intro e; cases e
  · intro e
    have e' : g = B := Option.some.inj e
    subst e'
    rw [hb] at hB
    exact ho _ _ (Option.some.inj hB).symm
theorem EntsOw.not_at' {N : Nat} {w : World} {v : Value} {es : List Ent} (h : EntsOw N w v es) {B : Nat} {o : Obj} (hB : w.heap[B]? = some o) (ho : ∀ c z, o ≠ .cells c 88 z) : v.ownBlock ≠ some B := by
  rcases h.row.2 with ⟨rfl, h2⟩ | ⟨g, cap, cur, rfl, _, hb, _⟩
  · intro e; cases e
  · intro e
    have e' : g = B := Option.some.inj e
    subst e'
    rw [hb] at hB
    exact ho _ _ (Option.some.inj hB).symm
theorem Ow.not_at' {N : Nat} {w : World} {v : Value} {l : List UInt8} (h : Ow N w v l) {B : Nat} {o : Obj} (hB : w.heap[B]? = some o) (ho : ∀ c z, o ≠ .cells c 5 z) : v.ownBlock ≠ some B := by
  rcases h.2 with ⟨rfl, h2⟩ | ⟨g, cap, cur, rfl, _, hb, _⟩
  · intro e; cases e
  · intro e
    have e' : g = B := Option.some.inj e
    subst e'
    rw [hb] at hB
    exact ho _ _ (Option.some.inj hB).symm
/-- The block of a row: what it holds. -/
theorem Ro.obj {α : Type} {R : RK α} {N : Nat} {w : World} {v : Value} {xs : List α} (h : Ro R N w v xs) {g : Nat} (hg : v.ownBlock = some g) : ∃ cur, w.heap[g]? = some (.cells cur R.E (0, 0)) := by
  rcases h.2 with ⟨rfl, h2⟩ | ⟨g', cap, cur, rfl, _, hb, _⟩
  · cases hg
  · cases hg; exact ⟨_, hb⟩
theorem EntsOw.obj {N : Nat} {w : World} {v : Value} {es : List Ent} (h : EntsOw N w v es) {g : Nat} (hg : v.ownBlock = some g) : ∃ cur, w.heap[g]? = some (.cells cur 88 (0, 0)) := by
  rcases h.row.2 with ⟨rfl, h2⟩ | ⟨g', cap, cur, rfl, _, hb, _⟩
  · cases hg
  · cases hg; exact ⟨_, hb⟩
theorem Ow.obj {N : Nat} {w : World} {v : Value} {l : List UInt8} (h : Ow N w v l) {g : Nat} (hg : v.ownBlock = some g) : ∃ cur, w.heap[g]? = some (.cells cur 5 (0, 0)) := by
  rcases h.2 with ⟨rfl, h2⟩ | ⟨g', cap, cur, rfl, _, hb, _⟩
  · cases hg
  · cases hg; exact ⟨_, hb⟩
theorem map_obj {w : World} {k : TypeId} {b n : Nat} {D : DataW Value} (h : w.ownsMap Tryz.prog k rdF b n D) : ∃ es c, w.heap[b]? = some (.map es c) := by
  obtain ⟨es, clock, hb, r⟩ := h
  exact ⟨_, _, hb⟩
/-- The blocks of a ledger that its methods turn. -/
def Jx (b : Nat) (ev sv : Value) : Nat → Prop := fun i => i = b ∨ ev.ownBlock = some i ∨ sv.ownBlock = some i
/-- The map of closures, their box and the entries' data are none of them. -/
structure Jfar (w : World) (b : Nat) (ev sv : Value) (es : List Ent) (mb c : Nat) : Prop where
  m : ¬ Jx b ev sv mb
  c : ¬ Jx b ev sv c
  d : ∀ e ∈ es, ∀ g, e.x.ownBlock = some g → ¬ Jx b ev sv g
  be : ev.ownBlock ≠ some b
  bs : sv.ownBlock ≠ some b
  es : ∀ g, ev.ownBlock = some g → sv.ownBlock ≠ some g
  b5 : ∀ (i : Nat) (c : Array Value) (z : Nat × Nat), w.heap[i]? = some (.cells c 5 z) → ¬ Jx b ev sv i
theorem jfar {w : World} {b : Nat} {cs : Array Value} {ev sv : Value} {es : List Ent} {S : List Nat} {mb c : Nat} {D : DataW Value} (hb : w.heap[b]? = some (.cells cs 132 (0, 0))) (ho : EntsOw 0 w ev es) (hr : Ro RI 0 w sv S) (hm : w.ownsMap Tryz.prog 3 rdF mb 4 D) (hc : Bxd w c b) : Jfar w b ev sv es mb c := by
  obtain ⟨ms, mc, hmo⟩ := map_obj hm
  obtain ⟨z, hco⟩ := hc
  refine ⟨?_, ?_, ?_, ho.not_at' hb (fun c z e => by cases e), hr.not_at hb (fun c z e => by cases e), ?_, ?_⟩
  · rintro (rfl | h | h)
    · rw [hb] at hmo; cases hmo
    · exact ho.not_at' hmo (fun c z e => by cases e) h
    · exact hr.not_at hmo (fun c z e => by cases e) h
  · rintro (rfl | h | h)
    · rw [hb] at hco; cases hco
    · exact ho.not_at' hco (fun c z e => by cases e) h
    · exact hr.not_at hco (fun c z e => by cases e) h
  · rintro e he g hg (rfl | h | h)
    · exact (ho.dat e he).not_at' hb (fun c z e => by cases e) hg
    · obtain ⟨cur, hq⟩ := ho.obj h
      exact (ho.dat e he).not_at' hq (fun c z e => by cases e) hg
    · obtain ⟨cur, hq⟩ := hr.obj h
      exact (ho.dat e he).not_at' hq (fun c z e => by cases e) hg
  · intro g hg
    obtain ⟨cur, hq⟩ := ho.obj hg
    exact hr.not_at hq (fun c z e => by cases e)
  · rintro i c z hi (rfl | h | h)
    · rw [hb] at hi; cases hi
    · exact ho.not_at' hi (fun c z e => by cases e) h
    · exact hr.not_at hi (fun c z e => by cases e) h
/-- A ledger that has turned. -/
theorem Lj.turn {L : Nat → Prop} {w W : World} {b : Nat} {P P' : LP} (h : Lj L w b P) {ev sv : Value} {mb c : Nat} (hm : w.ownsMap Tryz.prog 3 rdF mb 4 (chD c b)) (hc : Bxd w c b) (lm : L mb) (lc : L c) (fm : ¬ Jx b ev sv mb) (fc : ¬ Jx b ev sv c) (fb : ∀ (i : Nat) (c : Array Value) (z : Nat × Nat), w.heap[i]? = some (.cells c 5 z) → ¬ Jx b ev sv i) (le : ∀ g, ev.ownBlock = some g → L g) (ls : ∀ g, sv.ownBlock = some g → L g)
    (hO : Out (Jx b ev sv) w W) {ev' sv' : Value} {es' : List Ent} (hb : W.heap[b]? = some (.cells #[.int .i64 P'.t, .int .i64 P'.v, .int .i64 P'.c, .int .i64 P'.bi, .int .i64 P'.bt, ev', sv', .map (some mb)] 132 (0, 0))) (ho : EntsOw 0 W ev' es') (hs : es'.map Ent.says = P'.E) (hr : Ro RI 0 W sv' P'.S)
    (hv : ∀ g, ev'.ownBlock = some g → L g ∨ w.heap.size ≤ g) (hd : ∀ e ∈ es', ∀ g, e.x.ownBlock = some g → L g ∨ w.heap.size ≤ g) (hsv : ∀ g, sv'.ownBlock = some g → L g ∨ w.heap.size ≤ g) (hok : P'.Ok) : JTh L w W b P' := by
  have hO' : Out L w W := hO.mono (fun i hi => by rcases hi with rfl | hi | hi; exact h.Lb; exact le i hi; exact ls i hi)
  refine ⟨⟨⟨ev', es', sv', mb, c, hb, ho, hs, hr, ownsMap_outF hm hO fm, hc.out hO fc, .inl lm, .inl lc, fun g hg => (hv g hg).imp id (fun h => ⟨h, (ho.lt hg).2⟩), fun e he g hg => (hd e he g hg).imp id (fun h => ⟨h, ((ho.dat e he).lt hg).2⟩), fun g hg => (hsv g hg).imp id (fun h => ⟨h, (hr.lt hg).2⟩)⟩, hok, .inl h.Lb, ?_⟩, hO', fun i c z hi => (hO.block i (Array.getElem?_eq_some_iff.1 hi).1 (fb i c z hi)).trans hi⟩
  rintro i (hi | hi)
  · exact Nat.lt_of_lt_of_le (h.inn i hi) hO.size
  · exact hi.2
theorem own_len (a : Option Addr) (n m : Nat) {c : Nat} : (Value.slice a n c).ownBlock = (Value.slice a m c).ownBlock := by
  cases a with
  | none => rfl
  | some a => rfl
theorem set8_56 {w : World} {B : Nat} {x0 x1 x2 x3 x4 x5 x6 x7 : Value} {t : TypeId} (h : w.heap[B]? = some (.cells #[x0, x1, x2, x3, x4, x5, x6, x7] t (0, 0))) (y5 : Value) :
    (w.setCell ⟨B, 5, none⟩ y5).heap[B]? = some (.cells #[x0, x1, x2, x3, x4, y5, x6, x7] t (0, 0)) := by
  rw [heap_set h 5 y5]; rfl
theorem set8_6 {w : World} {B : Nat} {x0 x1 x2 x3 x4 x5 x6 x7 : Value} {t : TypeId} (h : w.heap[B]? = some (.cells #[x0, x1, x2, x3, x4, x5, x6, x7] t (0, 0))) (y6 : Value) :
    (w.setCell ⟨B, 6, none⟩ y6).heap[B]? = some (.cells #[x0, x1, x2, x3, x4, x5, y6, x7] t (0, 0)) := by
  rw [heap_set h 6 y6]; rfl
/-- The first n entries. -/
def LP.front (P : LP) (n : Nat) : LP := { P with E := P.E.take n, S := P.S.take n }
theorem LP.Ok.front {P : LP} (h : P.Ok) (n : Nat) : (P.front n).Ok where
  len := by simp [LP.front, h.len]
  b0 := h.b0
  t0 := h.t0
  top := by
    have := h.top
    unfold LP.li at *
    simp only [LP.front, List.length_take]
    omega
  ix := fun k hk => by
    simp only [LP.front, List.length_take] at hk ⊢
    rw [show (P.E.take n).getD k nilEn = P.E.getD k nilEn by simp only [List.getD_eq_getElem?_getD]; rw [List.getElem?_take_of_lt (by omega)]]
    exact h.ix k (by omega)
  ck := fun e he => h.ck e (List.mem_of_mem_take he)
  st := h.st
  few := by have := h.few; simp only [LP.front, List.length_take]; omega
  sb := fun s hs => h.sb s (List.mem_of_mem_take hs)
/-- Fewer of a row. -/
theorem Ro.front {α : Type} {R : RK α} {N : Nat} {w : World} {a : Option Addr} {c : Nat} {xs : List α} (h : Ro R N w (.slice a xs.length c) xs) (n : Nat) (hn : n ≤ xs.length) : Ro R N w (.slice a n c) (xs.take n) := by
  have hl : (xs.take n).length = n := by simp; omega
  refine ⟨flat_len R _, ?_⟩
  rcases h.2 with ⟨e, h2⟩ | ⟨g, cap, cur, e, hN, hb, h3, h4, h5, h6⟩
  · have h0 : n = 0 := by omega
    subst h0
    simp only [Value.slice.injEq] at e
    obtain ⟨rfl, -, rfl⟩ := e
    exact .inl ⟨rfl, by simp⟩
  · simp only [Value.slice.injEq, true_and] at e
    obtain ⟨rfl, rfl⟩ := e
    refine .inr ⟨g, c, cur, by rw [hl], hN, hb, by omega, h4, h5, ?_⟩
    rw [hl, show (xs.take n).flatMap R.enc = (xs.flatMap R.enc).take (n * R.k) from ?_, ← h6, List.take_take, Nat.min_eq_left (Nat.mul_le_mul_right _ hn)]
    clear h h3 h4 h5 h6 hb hN hl
    induction xs generalizing n with
    | nil => simp
    | cons x q ih =>
      cases n with
      | zero => simp
      | succ n =>
        rw [List.take_succ_cons, List.flatMap_cons, List.flatMap_cons, ih n (by simpa using hn), Nat.add_mul, Nat.one_mul, Nat.add_comm, List.take_append, R.len]
        congr 1
        · rw [List.take_of_length_le (by rw [R.len]; omega)]
        · congr 1; omega

set_option maxRecDepth 100000 in
set_option maxHeartbeats 1000000 in
/-- keep. -/
theorem keep_any {L : Nat → Prop} {w : World} {b : Nat} {P : LP} (h : Lj L w b P) (n : Nat) (hn : n ≤ P.E.length) :
    Calls Tryz.prog 205 #[.pointer (some ⟨b, 0, none⟩), .int .i64 (n : Int)] w fun e w' => e = .returned (.tuple #[]) ∧ JTh L w w' b (P.front n) := by
  obtain ⟨va, vc, sa, sc, es, mb, c, hb, ho, hs, hl, hvc, hvm, hsc, hsm, hr, hm, hc, lm, lc, le, ld, ls⟩ := h.cells
  obtain ⟨⟨c0, c1, c2, c3, c4, c5, c6, c7⟩, cf⟩ := cells8 hb
  have far := jfar hb ho hr hm hc
  have hfew := h.ok.few
  have hD0 := delete_any va vc n es w.drew (by rw [hl]; exact ho.out (Out.drew (X := fun _ => False) w 1) (fun _ _ hf => hf) (fun _ _ _ _ hf => hf)) (by omega) (by omega)
  have hSl := h.ok.len
  have CD : Hid (Calls Tryz.prog 141 #[.slice va P.E.length vc, .int .i64 (n : Int), .int .i64 (P.E.length : Int)] w.drew fun e w1 => e = .returned (.slice va n vc) ∧ (w1.heap[b]? = some (.cells #[.int .i64 P.t, .int .i64 P.v, .int .i64 P.c, .int .i64 P.bi, .int .i64 P.bt, .slice va P.E.length vc, .slice sa P.E.length sc, .map (some mb)] 132 (0, 0)) ∧ ∀ x, w1.heap.size = w.heap.size ∧ (w1.setCell ⟨b, 5, none⟩ x).cell? ⟨b, 6, none⟩ = some (.slice sa P.E.length sc)) ∧ Hid (JTh L w ((w1.setCell ⟨b, 5, none⟩ (.slice va n vc)).setCell ⟨b, 6, none⟩ (.slice sa n sc)) b (P.front n))) := by
    rw [hl] at hD0
    refine hD0.mono ?_
    rintro e w1 ⟨rfl, o1, o2, o3⟩
    have hb1 : w1.heap[b]? = some (.cells #[.int .i64 P.t, .int .i64 P.v, .int .i64 P.c, .int .i64 P.bi, .int .i64 P.bt, .slice va P.E.length vc, .slice sa P.E.length sc, .map (some mb)] 132 (0, 0)) := (o2.block b (h.inn _ h.Lb) far.be).trans hb
    refine ⟨rfl, ⟨hb1, fun x => ⟨o3, ?_⟩⟩, ?_⟩
    · exact (cells8 (set8_56 hb1 x)).1.2.2.2.2.2.2.1
    · have oo : Out (Jx b (.slice va P.E.length vc) (.slice sa P.E.length sc)) w ((w1.setCell ⟨b, 5, none⟩ (.slice va n vc)).setCell ⟨b, 6, none⟩ (.slice sa n sc)) :=
        (((Out.drew (X := Jx b (.slice va P.E.length vc) (.slice sa P.E.length sc)) w 1).trans (o2.mono (Y := Jx b (.slice va P.E.length vc) (.slice sa P.E.length sc)) (fun i hi => .inr (.inl hi))) (fun _ hi _ => hi)).put (.inl rfl)).put (.inl rfl)
      have hO5 : Out (fun i => i = b) w1 ((w1.setCell ⟨b, 5, none⟩ (.slice va n vc)).setCell ⟨b, 6, none⟩ (.slice sa n sc)) := ((Out.refl (fun i => i = b) w1).put rfl).put rfl
      have ooE : Out (fun i => i = b ∨ (Value.slice va P.E.length vc).ownBlock = some i) w ((w1.setCell ⟨b, 5, none⟩ (.slice va n vc)).setCell ⟨b, 6, none⟩ (.slice sa n sc)) :=
        (((Out.drew (X := fun i => i = b ∨ (Value.slice va P.E.length vc).ownBlock = some i) w 1).trans (o2.mono (Y := fun i => i = b ∨ (Value.slice va P.E.length vc).ownBlock = some i) (fun i hi => .inr hi)) (fun _ hi _ => hi)).put (.inl rfl)).put (.inl rfl)
      have hes : (es.take n).map Ent.says = P.E.take n := by rw [List.map_take, hs]
      have rr : Ro RI 0 w (.slice sa n sc) (P.S.take n) := Ro.front (by rw [hSl]; exact hr) n (by omega)
      refine Lj.turn (P' := P.front n) h hm hc lm lc far.m far.c far.b5 le ls oo (set8_6 (set8_56 hb1 _) _) (es' := es.take n) ?_ hes ?_ (fun g hg => .inl (le g (by rw [← own_len va n]; exact hg))) (fun e he g hg => .inl (ld e (List.mem_of_mem_take he) g hg)) (fun g hg => .inl (ls g (by rw [← own_len sa n]; exact hg))) (h.ok.front n)
      · exact o1.out hO5 (fun g hg e => far.be (by rw [← own_len va n, ← e]; exact hg)) (fun e he g hg e2 => far.d e (List.mem_of_mem_take he) g hg (.inl e2))
      · exact rr.out ooE (fun g hg hi => by rw [own_len sa n P.E.length] at hg; exact hi.elim (fun e => far.bs (by rw [← e]; exact hg)) (fun e => far.es g e hg))
  clear h hb ho hs hl hvm hr hm hc lm lc le ld ls far hfew hD0 hSl
  generalize P.front n = PF at *
  generalize P.E.length = m at *
  generalize P.t = pt at *
  generalize P.v = pv at *
  generalize P.c = pc at *
  generalize P.bi = pi at *
  generalize P.bt = pbt at *
  clear P
  go_enter Tryz.func205, Tryz.ntmps205
  go_wp2_with fail
  go_region_law (go_simp; go_at_call 141; refine CD.out.mono ?_; rintro e w1 ⟨rfl, ⟨hb1, hx⟩, HJ⟩; obtain ⟨⟨d0, d1, d2, d3, d4, d5, d6, d7⟩, df⟩ := cells8 hb1)
  all_goals (obtain ⟨-, e6⟩ := hx (.slice va n vc); (try go_wp2); go_end0; exact ⟨rfl, HJ.out⟩)
end Go.Proofs.YtnahghldlkjleaaGreatDoor
namespace Go.Proofs.YtnahghldlkjleaaGreatDoor
open Go.RowKit
set_option linter.unusedVariables false

def LP.anew (P : LP) (i t : Int) : LP := { P with bi := i, bt := t, E := [], S := [] }
theorem LP.Ok.anew {P : LP} (h : P.Ok) {i t : Int} (hi : Rng i) (ht : Rng t) : (P.anew i t).Ok where
  len := rfl
  b0 := hi
  t0 := ht
  top := by
    unfold LP.li LP.anew
    have := hi.2
    simpa using this
  ix := fun k hk => by simp [LP.anew] at hk
  ck := fun e he => by simp [LP.anew] at he
  st := h.st
  few := by simp [LP.anew]
  sb := fun s hs => by simp [LP.anew] at hs
theorem set8_34 {w : World} {B : Nat} {x0 x1 x2 x3 x4 x5 x6 x7 : Value} {t : TypeId} (h : w.heap[B]? = some (.cells #[x0, x1, x2, x3, x4, x5, x6, x7] t (0, 0))) (y3 y4 : Value) :
    ((w.setCell ⟨B, 3, none⟩ y3).setCell ⟨B, 4, none⟩ y4).heap[B]? = some (.cells #[x0, x1, x2, y3, y4, x5, x6, x7] t (0, 0)) := by
  rw [heap_set (heap_set h 3 y3) 4 y4]; rfl

set_option maxRecDepth 100000 in
/-- anew. -/
theorem anew_any {L : Nat → Prop} {w : World} {b : Nat} {P : LP} (h : Lj L w b P) (i t : Int) (hi : Rng i) (ht : Rng t) :
    Calls Tryz.prog 160 #[.pointer (some ⟨b, 0, none⟩), .int .i64 i, .int .i64 t] w fun e w' => e = .returned (.tuple #[]) ∧ JTh L w w' b (P.anew i t) := by
  have HK : Hid (Calls Tryz.prog 205 #[.pointer (some ⟨b, 0, none⟩), .int .i64 0] w fun e w1 => e = .returned (.tuple #[]) ∧ (∀ o, w1.frozen? ⟨b, o, none⟩ = false) ∧ (∃ v, w1.cell? ⟨b, 3, none⟩ = some v) ∧ (∃ v, w1.cell? ⟨b, 4, none⟩ = some v) ∧ Hid (JTh L w ((w1.setCell ⟨b, 3, none⟩ (.int .i64 i)).setCell ⟨b, 4, none⟩ (.int .i64 t)) b (P.anew i t))) :=
    (keep_any h 0 (Nat.zero_le _)).mono fun e w1 ⟨he, hJ⟩ => by
      obtain ⟨va, vc, sa, sc, es, mb, c, hb, ho, hs, hl, hvc, hvm, hsc, hsm, hr, hm, hc, lm, lc, le, ld, ls⟩ := hJ.q.cells
      have far := jfar hb ho hr hm hc
      obtain ⟨⟨c0, c1, c2, c3, c4, c5, c6, c7⟩, cf⟩ := cells8 hb
      refine ⟨he, cf, ⟨_, c3⟩, ⟨_, c4⟩, ?_⟩
      have oo : Out (fun j => j = b) w1 ((w1.setCell ⟨b, 3, none⟩ (.int .i64 i)).setCell ⟨b, 4, none⟩ (.int .i64 t)) := ((Out.refl (fun j => j = b) w1).put rfl).put rfl
      have hT := Lj.turn (P' := P.anew i t) hJ.q hm hc lm lc far.m far.c far.b5 le ls (oo.mono (fun j hj => .inl hj)) (set8_34 hb _ _) (es' := es) (ho.out oo (fun g hg e => far.be (by rw [← e]; exact hg)) (fun e he g hg e2 => far.d e he g hg (.inl e2))) (by rw [hs]; rfl) (hr.out oo (fun g hg e => far.bs (by rw [← e]; exact hg))) (fun g hg => .inl (le g hg)) (fun e he g hg => .inl (ld e he g hg)) (fun g hg => .inl (ls g hg)) (h.ok.anew hi ht)
      exact hJ.trans hT
  clear h hi ht
  go_enter Tryz.func160, Tryz.ntmps160
  go_wp2_with (go_at_call 205; refine HK.out.mono ?_; rintro e w1 ⟨rfl, cf, ⟨v3, c3⟩, ⟨v4, c4⟩, HJ⟩)
  go_end0
  exact ⟨rfl, HJ.out⟩
end Go.Proofs.YtnahghldlkjleaaGreatDoor
