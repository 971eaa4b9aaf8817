/-
  Records; what each does to a ledger: the closures of the map; take.
-/
import Derived.Test.YtnahghldlkjleaaGreatDoorWC
import Derived.Maps.OwnSet
namespace Go.Proofs.YtnahghldlkjleaaGreatDoor
open Go.RowKit
set_option linter.unusedVariables false

/-- A record, as it lies in memory. -/
structure Rd where
  k : Nat
  sg : Nat
  t : Int
  v : Int
  c : Int
  i : Int
  tm : Int
  e : Ent
def Rd.cells (r : Rd) : List Value := [.int .i64 (r.k : Int), .int .i64 (r.sg : Int), .int .i64 r.t, .int .i64 r.v, .int .i64 r.c, .int .i64 r.i, .int .i64 r.tm, .int .i64 r.e.t, .int .i64 r.e.i, .int .i64 r.e.k, r.e.x]
def Rd.val (r : Rd) : Value := .agg #[.int .i64 (r.k : Int), .int .i64 (r.sg : Int), .int .i64 r.t, .int .i64 r.v, .int .i64 r.c, .int .i64 r.i, .int .i64 r.tm, .int .i64 r.e.t, .int .i64 r.e.i, .int .i64 r.e.k, r.e.x]
/-- What a record does to a ledger. -/
def LP.state (P : LP) (t v c : Int) : LP := { P with t := t, v := v, c := c }
def LP.mark (P : LP) (i tm : Int) : LP := if P.has i tm = true then P else P.anew i tm
def LP.take (P : LP) (r : Rd) : LP := if r.k = 0 then P else if r.k = 1 then P.state r.t r.v r.c else if r.k = 2 then P.enter r.e.says r.sg else P.mark r.i r.tm
/-- A record that may stand there. -/
structure Rd.Fit (r : Rd) (P : LP) : Prop where
  kd : r.k ≤ 3
  st : Rng r.t ∧ Rng r.v ∧ Rng r.c
  mrk : Rng r.i ∧ Rng r.tm
  ent : r.k = 2 → eCk r.e.says = 0 ∧ P.fits r.e.i
  sg : r.sg ≤ 99999999

theorem cells11 {w : World} {b : Nat} {t : TypeId} {v0 v1 v2 v3 v4 v5 v6 v7 v8 v9 v10 : Value} (h : w.heap[b]? = some (.cells #[v0, v1, v2, v3, v4, v5, v6, v7, v8, v9, v10] t (0, 0))) :
    (w.cell? ⟨b, 0, none⟩ = some v0 ∧ w.cell? ⟨b, 1, none⟩ = some v1 ∧ w.cell? ⟨b, 2, none⟩ = some v2 ∧ w.cell? ⟨b, 3, none⟩ = some v3 ∧ w.cell? ⟨b, 4, none⟩ = some v4 ∧ w.cell? ⟨b, 5, none⟩ = some v5 ∧ w.cell? ⟨b, 6, none⟩ = some v6 ∧ w.cell? ⟨b, 7, none⟩ = some v7 ∧ w.cell? ⟨b, 8, none⟩ = some v8 ∧ w.cell? ⟨b, 9, none⟩ = some v9 ∧ w.cell? ⟨b, 10, none⟩ = some v10) ∧ ∀ o, w.frozen? ⟨b, o, none⟩ = false := by
  refine ⟨⟨?_, ?_, ?_, ?_, ?_, ?_, ?_, ?_, ?_, ?_, ?_⟩, ?_⟩
  all_goals (first | (simp only [World.cell?, h]; rfl) | skip)
  intro o
  simp [World.frozen?, h]
theorem set8_012 {w : World} {B : Nat} {x0 x1 x2 x3 x4 x5 x6 x7 : Value} {t : TypeId} (h : w.heap[B]? = some (.cells #[x0, x1, x2, x3, x4, x5, x6, x7] t (0, 0))) (y0 y1 y2 : Value) :
    (((w.setCell ⟨B, 0, none⟩ y0).setCell ⟨B, 1, none⟩ y1).setCell ⟨B, 2, none⟩ y2).heap[B]? = some (.cells #[y0, y1, y2, x3, x4, x5, x6, x7] t (0, 0)) := by
  rw [heap_set (heap_set (heap_set h 0 y0) 1 y1) 2 y2]; rfl
theorem LP.Ok.state {P : LP} (h : P.Ok) {t v c : Int} (hs : Rng t ∧ Rng v ∧ Rng c) : (P.state t v c).Ok := ⟨h.len, h.b0, h.t0, h.top, h.ix, h.ck, hs, h.few, h.sb⟩
theorem Bxd.below {w w' : World} {c b : Nat} (h : Bxd w c b) (hB : Below w.heap.size w w') : Bxd w' c b := h.out (X := fun _ => False) (Out.of_below hB) (fun hf => hf)
theorem Bxd.cell {w : World} {c b : Nat} (h : Bxd w c b) : w.cell? ⟨c, 0, none⟩ = some (.pointer (some ⟨b, 0, none⟩)) := by
  obtain ⟨z, hz⟩ := h
  simp only [World.cell?, hz]; rfl
theorem Bxd.lt {w : World} {c b : Nat} (h : Bxd w c b) : c < w.heap.size := by
  obtain ⟨z, hz⟩ := h
  exact (Array.getElem?_eq_some_iff.1 hz).1
theorem JTh.of_below {L : Nat → Prop} {w w1 w2 : World} {b : Nat} {P P2 : LP} (h : Lj L w b P) (hB : Below w.heap.size w w1) (k : Lj L w1 b P → JTh L w1 w2 b P2) : JTh L w w2 b P2 := by
  have h1 := h.below hB
  have k1 := k h1
  refine ⟨k1.q.wide (fun i hi => hi.imp id (fun h2 => ⟨Nat.le_trans hB.size h2.1, h2.2⟩)) (fun i hi => hi.elim (fun h2 => k1.q.inn i (.inl h2)) (fun h2 => h2.2)), (Out.of_below (X := L) hB).trans k1.out (fun i hi _ => hi), fun i c z hi => k1.byt i c z (bel_heap hB hi)⟩

set_option maxRecDepth 100000 in
/-- A state. -/
theorem ch_state {L : Nat → Prop} {w : World} {b c : Nat} {P : LP} (h : Lj L w b P) (hc : Bxd w c b) (r : Rd) (hs : Rng r.t ∧ Rng r.v ∧ Rng r.c) :
    Calls Tryz.prog 155 #[r.val, .pointer (some ⟨c, 0, none⟩)] w fun e w' => e = .returned (.bool true) ∧ JTh L w w' b (P.state r.t r.v r.c) := by
  obtain ⟨W1, hW1⟩ : ∃ W1, w.alloc (.cells #[.int .i64 (r.k : Int), .int .i64 (r.sg : Int), .int .i64 r.t, .int .i64 r.v, .int .i64 r.c, .int .i64 r.i, .int .i64 r.tm, .int .i64 r.e.t, .int .i64 r.e.i, .int .i64 r.e.k, r.e.x] 177) = W1 := ⟨_, rfl⟩
  have HW : Hid (_ = W1) := hW1
  have hB : Below w.heap.size w W1 := by rw [← hW1]; exact (Below.refl _ w).alloc (Nat.le_refl _) _
  have hR : W1.heap[w.heap.size]? = some (.cells #[.int .i64 (r.k : Int), .int .i64 (r.sg : Int), .int .i64 r.t, .int .i64 r.v, .int .i64 r.c, .int .i64 r.i, .int .i64 r.tm, .int .i64 r.e.t, .int .i64 r.e.i, .int .i64 r.e.k, r.e.x] 177 (0, 0)) := by rw [← hW1]; exact heap_alloc_new w _
  obtain ⟨⟨-, -, r2, r3, r4, -⟩, -⟩ := cells11 hR
  have cb := (hc.below hB).cell
  have h1 := h.below hB
  obtain ⟨va, vc, sa, sc, es, mb, c', hb, ho, hes, hl, hvc, hvm, hsc, hsm, hr, hm, hc', lm, lc, le, ld, ls⟩ := h1.cells
  have far := jfar hb ho hr hm hc'
  obtain ⟨⟨c0, c1, c2, -⟩, cf⟩ := cells8 hb
  have oo : Out (fun j => j = b) W1 (((W1.setCell ⟨b, 0, none⟩ (.int .i64 r.t)).setCell ⟨b, 1, none⟩ (.int .i64 r.v)).setCell ⟨b, 2, none⟩ (.int .i64 r.c)) := (((Out.refl (fun j => j = b) W1).put rfl).put rfl).put rfl
  have HJ : Hid (JTh L w (((W1.setCell ⟨b, 0, none⟩ (.int .i64 r.t)).setCell ⟨b, 1, none⟩ (.int .i64 r.v)).setCell ⟨b, 2, none⟩ (.int .i64 r.c)) b (P.state r.t r.v r.c)) :=
    JTh.of_below h hB fun _ => Lj.turn (P' := P.state r.t r.v r.c) h1 hm hc' lm lc far.m far.c far.b5 le ls (oo.mono (fun j hj => .inl hj)) (set8_012 hb _ _ _) (es' := es) (ho.out oo (fun g hg e => far.be (by rw [← e]; exact hg)) (fun e he g hg e2 => far.d e he g hg (.inl e2))) hes (hr.out oo (fun g hg e => far.bs (by rw [← e]; exact hg))) (fun g hg => .inl (le g hg)) (fun e he g hg => .inl (ld e he g hg)) (fun g hg => .inl (ls g hg)) (h.ok.state hs)
  have f0 := cf 0
  have f1 := cf 1
  have f2 := cf 2
  clear h hc hs hW1 hB hR h1 hb ho hes hl hvc hvm hsc hsm hr hm hc' lm lc le ld ls far oo cf
  unfold Rd.val
  go_enter Tryz.func155, Tryz.ntmps155
  go_upto_region 1 with fail
  rw [HW.out]
  go_wp2
  go_ret
  exact ⟨rfl, HJ.out⟩

set_option maxRecDepth 100000 in
/-- An entry. -/
theorem ch_entry {L : Nat → Prop} {w : World} {b c : Nat} {P : LP} (h : Lj L w b P) (hc : Bxd w c b) (r : Rd) (hx : Ow 0 w r.e.x r.e.d) (hxL : ∀ g, r.e.x.ownBlock = some g → L g) (hck : eCk r.e.says = 0) (hsg : r.sg ≤ 99999999) (hfew : P.E.length < 1000000000) (hf : P.fits r.e.i) :
    Calls Tryz.prog 156 #[r.val, .pointer (some ⟨c, 0, none⟩)] w fun e w' => e = .returned (.bool true) ∧ JTh L w w' b (P.enter r.e.says r.sg) := by
  obtain ⟨W1, hW1⟩ : ∃ W1, w.alloc (.cells #[.int .i64 (r.k : Int), .int .i64 (r.sg : Int), .int .i64 r.t, .int .i64 r.v, .int .i64 r.c, .int .i64 r.i, .int .i64 r.tm, .int .i64 r.e.t, .int .i64 r.e.i, .int .i64 r.e.k, r.e.x] 177) = W1 := ⟨_, rfl⟩
  have HW : Hid (_ = W1) := hW1
  have hB : Below w.heap.size w W1 := by rw [← hW1]; exact (Below.refl _ w).alloc (Nat.le_refl _) _
  have hR : W1.heap[w.heap.size]? = some (.cells #[.int .i64 (r.k : Int), .int .i64 (r.sg : Int), .int .i64 r.t, .int .i64 r.v, .int .i64 r.c, .int .i64 r.i, .int .i64 r.tm, .int .i64 r.e.t, .int .i64 r.e.i, .int .i64 r.e.k, r.e.x] 177 (0, 0)) := by rw [← hW1]; exact heap_alloc_new w _
  obtain ⟨⟨-, r1, -, -, -, -, -, r7, r8, r9, r10⟩, -⟩ := cells11 hR
  have cb := (hc.below hB).cell
  have h1 := h.below hB
  have HE : Hid (Calls Tryz.prog 157 #[.pointer (some ⟨b, 0, none⟩), .agg #[.int .i64 r.e.t, .int .i64 r.e.i, .int .i64 r.e.k, r.e.x], .int .i64 (r.sg : Int)] W1 fun e w' => e = .returned (.bool true) ∧ JTh L w w' b (P.enter r.e.says r.sg)) :=
    (enter_any h1 r.e r.sg (hx.below hB (Nat.le_refl _)) hxL hck hsg hfew).mono fun e w' hE => by
      rcases hE with ⟨hn, -⟩ | ⟨-, he, hJ⟩
      · exact absurd hf hn
      · exact ⟨he, JTh.of_below h hB fun _ => hJ⟩
  clear h hc hx hxL hck hsg hfew hf hW1 hB hR h1
  unfold Rd.val
  go_enter Tryz.func156, Tryz.ntmps156
  go_upto_region 1 with fail
  rw [HW.out]
  go_wp2_with (go_at_call 157; refine HE.out.mono ?_; rintro e w2 ⟨rfl, HJ⟩)
  go_ret
  exact ⟨rfl, HJ⟩

set_option maxRecDepth 100000 in
/-- A mark. -/
theorem ch_mark {L : Nat → Prop} {w : World} {b c : Nat} {P : LP} (h : Lj L w b P) (hc : Bxd w c b) (r : Rd) (hm : Rng r.i ∧ Rng r.tm) :
    Calls Tryz.prog 158 #[r.val, .pointer (some ⟨c, 0, none⟩)] w fun e w' => e = .returned (.bool true) ∧ JTh L w w' b (P.mark r.i r.tm) := by
  obtain ⟨W1, hW1⟩ : ∃ W1, w.alloc (.cells #[.int .i64 (r.k : Int), .int .i64 (r.sg : Int), .int .i64 r.t, .int .i64 r.v, .int .i64 r.c, .int .i64 r.i, .int .i64 r.tm, .int .i64 r.e.t, .int .i64 r.e.i, .int .i64 r.e.k, r.e.x] 177) = W1 := ⟨_, rfl⟩
  have HW : Hid (_ = W1) := hW1
  have hB : Below w.heap.size w W1 := by rw [← hW1]; exact (Below.refl _ w).alloc (Nat.le_refl _) _
  have hR : W1.heap[w.heap.size]? = some (.cells #[.int .i64 (r.k : Int), .int .i64 (r.sg : Int), .int .i64 r.t, .int .i64 r.v, .int .i64 r.c, .int .i64 r.i, .int .i64 r.tm, .int .i64 r.e.t, .int .i64 r.e.i, .int .i64 r.e.k, r.e.x] 177 (0, 0)) := by rw [← hW1]; exact heap_alloc_new w _
  obtain ⟨⟨-, -, -, -, -, r5, r6, -⟩, -⟩ := cells11 hR
  have cb := (hc.below hB).cell
  have h1 := h.below hB
  have HH : Hid (Calls Tryz.prog 159 #[.pointer (some ⟨b, 0, none⟩), .int .i64 r.i, .int .i64 r.tm] W1 fun e w' => e = .returned (.bool (P.has r.i r.tm)) ∧ ∃ n, w' = W1.drewN n) := has_any' h1 r.i r.tm
  have HA : Hid (∀ n, P.has r.i r.tm = false → Calls Tryz.prog 160 #[.pointer (some ⟨b, 0, none⟩), .int .i64 r.i, .int .i64 r.tm] (W1.drewN n) fun e w' => e = .returned (.tuple #[]) ∧ JTh L w w' b (P.mark r.i r.tm)) := fun n hf => by
    have hBn := below_drewN hB n
    refine (anew_any (h.below hBn) r.i r.tm hm.1 hm.2).mono fun e w' ⟨he, hJ⟩ => ⟨he, ?_⟩
    rw [show P.mark r.i r.tm = P.anew r.i r.tm by unfold LP.mark; rw [if_neg (by rw [hf]; decide)]]
    exact JTh.of_below h hBn fun _ => hJ
  have HK : Hid (∀ n, P.has r.i r.tm = true → JTh L w (W1.drewN n) b (P.mark r.i r.tm)) := fun n hf => by
    rw [show P.mark r.i r.tm = P by unfold LP.mark; rw [if_pos hf]]
    exact h.th (below_drewN hB n)
  have HC : Hid (∀ n, (W1.drewN n).cell? ⟨c, 0, none⟩ = some (.pointer (some ⟨b, 0, none⟩)) ∧ (W1.drewN n).cell? ⟨w.heap.size, 5, none⟩ = some (.int .i64 r.i) ∧ (W1.drewN n).cell? ⟨w.heap.size, 6, none⟩ = some (.int .i64 r.tm)) := fun n => ⟨cb, r5, r6⟩
  clear h hc hm hW1 hB hR h1
  generalize P.mark r.i r.tm = PM at *
  unfold Rd.val
  cases hf : P.has r.i r.tm with
  | true =>
    have HK1 : Hid (∀ n, JTh L w (W1.drewN n) b PM) := fun n => HK.out n hf
    rw [hf] at HH
    clear HA HK
    go_enter Tryz.func158, Tryz.ntmps158
    go_upto_region 1 with fail
    rw [HW.out]
    go_wp2_with (go_at_call 159; refine HH.out.mono ?_; rintro e w2 ⟨rfl, n, rfl⟩)
    go_ret
    exact ⟨rfl, HK1.out _⟩
  | false =>
    have HA1 : Hid (∀ n, Calls Tryz.prog 160 #[.pointer (some ⟨b, 0, none⟩), .int .i64 r.i, .int .i64 r.tm] (W1.drewN n) fun e w' => e = .returned (.tuple #[]) ∧ JTh L w w' b PM) := fun n => HA.out n hf
    rw [hf] at HH
    clear HA HK
    go_enter Tryz.func158, Tryz.ntmps158
    go_upto_region 1 with fail
    rw [HW.out]
    go_wp2_with (first
      | (go_at_call 159; refine HH.out.mono ?_; rintro e w2 ⟨rfl, n, rfl⟩; obtain ⟨d0, d5, d6⟩ := HC.out n)
      | (go_at_call 160; refine (HA1.out _).mono ?_; rintro e w3 ⟨rfl, HJ⟩))
    go_ret
    exact ⟨rfl, HJ⟩
end Go.Proofs.YtnahghldlkjleaaGreatDoor
