/-
  GetM7; MsgO.
-/
import Derived.Test.YtfnnbfgfmbiabaaJ32
import Derived.Test.YtfnnbfgfmbiabaaJ34
import Derived.Test.YtfnnbfgfmbiabaaJ17
import Derived.Test.YtfnnbfgfmbiabaaJ35
import Derived.Test.YtfnnbfgfmbiabaaJ36
import Derived.Test.YtfnnbfgfmbiabaaJ37
/-
  A message of kind 7 read: the code's Get.
-/
namespace Go.Proofs.Ytfnnbfgfmbiabaa
open Go.RowKit Go.Shelf

/-- What Get answers of a message of kind 7. -/
def Got7 (w : World) (fr to tm G0 G1 : Nat) (G2 : List UInt8) (E : Nat) (r : Ending) (w' : World) : Prop :=
  ∃ u, r = .returned (.tuple #[if E = 0 then .agg #[.int .i64 7, .int .i64 (fr : Int), .int .i64 (to : Int), .int .i64 (tm : Int), .int .i64 0, .int .i64 0, .int .i64 0, .int .i64 0, .int .i64 0, .bool false, .slice none 0 0, .int .i64 (G0 : Int), .int .i64 (G1 : Int), u] else .agg #[.int .i64 0, .int .i64 0, .int .i64 0, .int .i64 0, .int .i64 0, .int .i64 0, .int .i64 0, .int .i64 0, .int .i64 0, .bool false, .slice none 0 0, .int .i64 0, .int .i64 0, .slice none 0 0], .int .i64 (E : Int)]) ∧ Ow w.heap.size w' u G2

set_option maxRecDepth 100000 in
set_option maxHeartbeats 8000000 in
theorem getM7_any (b : List UInt8) (v : Value) (M : Nat) (w : World) (hv : Sl M w v b) (hM : M ≤ w.heap.size) (hb : b.length ≤ 1099511627776) {p0 fr pa ea to pb eb tm pc ec p1 e1 G0 G1 : Nat} {t G2 : List UInt8}
    (H0 : Hid (rdN b (0, 0) = (7, (p0, 0)))) (Ha : Hid (rdN b (p0, 0) = (fr, (pa, ea)))) (Hb : Hid (rdN b (pa, ea) = (to, (pb, eb)))) (Hc : Hid (rdN b (pb, eb) = (tm, (pc, ec)))) (H1 : Hid (rdB b 1048576 (pc, ec) = (t, (p1, e1)))) (hG : (G0, G1, G2) = if e1 ≠ 0 then (0, 0, []) else goSnap t) (E7 E : Nat) (hE7 : E7 = if e1 ≠ 0 then e1 else geSnap t) (hE : E = if E7 ≠ 0 then E7 else if doneE b p1 e1 = 0 then ckM7 (fr : Int) (to : Int) (tm : Int) 0 0 0 0 0 false 0 (G0 : Int) (G1 : Int) G2.length else doneE b p1 e1) :
    Calls Try.prog 51 #[.agg #[], v] w fun r w' => Got7 w fr to tm G0 G1 G2 E r w' ∧ Below w.heap.size w w' := by
  have HG : Hid ((G0, G1, G2) = if e1 ≠ 0 then (0, 0, []) else goSnap t) := hG
  have HE7 : Hid (E7 = if e1 ≠ 0 then e1 else geSnap t) := hE7
  clear hG hE7
  have HCK : Hid (∀ ua uc w', Calls Try.prog 49 #[.agg #[], .agg #[.int .i64 7, .int .i64 (fr : Int), .int .i64 (to : Int), .int .i64 (tm : Int), .int .i64 0, .int .i64 0, .int .i64 0, .int .i64 0, .int .i64 0, .bool false, .slice none 0 0, .int .i64 (G0 : Int), .int .i64 (G1 : Int), .slice ua G2.length uc]] w' fun e w'' => e = .returned (.int .i64 (ckM7 (fr : Int) (to : Int) (tm : Int) 0 0 0 0 0 false 0 (G0 : Int) (G1 : Int) G2.length : Int)) ∧ Below w'.heap.size w' w'') := fun ua uc w' => chkM7_any (fr : Int) (to : Int) (tm : Int) 0 0 0 0 0 false none 0 0 (G0 : Int) (G1 : Int) ua G2.length uc w'
  obtain ⟨CK, hCK⟩ : ∃ CK, ckM7 (fr : Int) (to : Int) (tm : Int) 0 0 0 0 0 false 0 (G0 : Int) (G1 : Int) G2.length = CK := ⟨_, rfl⟩
  rw [hCK] at hE HCK
  clear hCK
  have HE : Hid (E = if E7 ≠ 0 then E7 else if doneE b p1 e1 = 0 then CK else doneE b p1 e1) := hE
  clear hE
  obtain ⟨a, cap, rfl, -⟩ := id hv
  obtain ⟨W0, hW0⟩ : ∃ W0, (w.alloc (.cells #[] 97)).alloc (.cells #[.int .i64 0, .int .i64 0, .int .i64 0, .int .i64 0, .int .i64 0, .int .i64 0, .int .i64 0, .int .i64 0, .int .i64 0, .bool false, .slice none 0 0, .int .i64 0, .int .i64 0, .slice none 0 0] 95) = W0 := ⟨_, rfl⟩
  have HW0 : Hid ((w.alloc (.cells #[] 97)).alloc (.cells #[.int .i64 0, .int .i64 0, .int .i64 0, .int .i64 0, .int .i64 0, .int .i64 0, .int .i64 0, .int .i64 0, .int .i64 0, .bool false, .slice none 0 0, .int .i64 0, .int .i64 0, .slice none 0 0] 95) = W0) := hW0
  have HB0 : Hid (Below w.heap.size w W0) := by show Below w.heap.size w W0; rw [← hW0]; exact (((Below.refl _ w).alloc (by simp) _).alloc (by simp) _)
  have HS : Hid (W0.heap.size = w.heap.size + 2) := by show W0.heap.size = _; rw [← hW0]; simp
  have HR : Hid (∀ w', Below W0.heap.size W0 w' → w'.heap[w.heap.size + 1]? = some (.cells #[.int .i64 0, .int .i64 0, .int .i64 0, .int .i64 0, .int .i64 0, .int .i64 0, .int .i64 0, .int .i64 0, .int .i64 0, .bool false, .slice none 0 0, .int .i64 0, .int .i64 0, .slice none 0 0] 95 (0, 0))) := fun w' hB => by
    refine (hB.block _ (by have := HS.out; omega)).trans ?_
    rw [← hW0]; simpa using World.alloc_heap_new (w.alloc (.cells #[] 97)) _
  have hv0 := hv.below (HB0.out.mono hM)
  clear hW0
  have inK : isIn 7 1 7 = true := by decide
  go_enter Try.func51, Try.ntmps51
  go_wp2_with fail
  rw [HW0.out]
  refine (newR_any W0 hv0 hb).mono ?_
  rintro r w1 ⟨R, rfl, h1⟩
  go_wp2_with fail
  refine (getNumber_any h1 H0).mono ?_
  rintro r w2 ⟨rfl, h2⟩
  go_wp2_with (go_at_call 83; refine (isKind_any _ _).mono ?_; rintro e w' ⟨rfl, hw⟩; subst w'; simp only [inK])
  refine (rrI h2 Ha).mono ?_
  rintro r w3 ⟨rfl, h3⟩
  go_wp2_with fail
  refine (rrI h3 Hb).mono ?_
  rintro r w4 ⟨rfl, h4⟩
  go_wp2_with fail
  refine (rrI h4 Hc).mono ?_
  rintro r w5 ⟨rfl, h5⟩
  go_wp2_with fail
  obtain ⟨W6, hW6⟩ : ∃ W6, w5.alloc (.cells #[.int .i64 7, .int .i64 (fr : Int), .int .i64 (to : Int), .int .i64 (tm : Int), .int .i64 0, .int .i64 0, .int .i64 0, .int .i64 0, .int .i64 0, .bool false, .slice none 0 0, .int .i64 0, .int .i64 0, .slice none 0 0] 95) = W6 := ⟨_, rfl⟩
  rw [hW6]
  have hBx : Below w5.heap.size w5 W6 := by rw [← hW6]; exact (Below.refl _ _).alloc (Nat.le_refl _) _
  have hX6 : W6.heap[w5.heap.size]? = some (.cells #[.int .i64 7, .int .i64 (fr : Int), .int .i64 (to : Int), .int .i64 (tm : Int), .int .i64 0, .int .i64 0, .int .i64 0, .int .i64 0, .int .i64 0, .bool false, .slice none 0 0, .int .i64 0, .int .i64 0, .slice none 0 0] 95 (0, 0)) := by rw [← hW6]; exact World.alloc_heap_new w5 _
  have h6 := h5.mono hBx
  have hz6 := hBx.size
  have hwz : w.heap.size ≤ W6.heap.size := by have := h6.bel.size; have := HS.out; omega
  clear hW6 hBx
  refine (getU7_any (fr : Int) (to : Int) (tm : Int) h6 hX6 h5.rdr.lt H1 (G0, G1, G2) E7 HG.out HE7.out).mono ?_
  rintro r w7 ⟨u, rfl, hO7, h7, hX7, -⟩
  simp only at hO7 hX7
  obtain ⟨ua, uc, rfl, -, -⟩ := hO7.shape
  obtain ⟨⟨q0, q1, q2, q3, q4, q5, q6, q7, q8, q9, q10, q11, q12, q13⟩, -⟩ := cells14 hX7
  have hO7' := hO7.base (N' := w.heap.size) hwz
  by_cases hE7 : E7 = 0
  case neg =>
    have hke : ((E7 : Int) != 0) = true := by simp; omega
    obtain rfl : E = E7 := by rw [HE.out, if_pos hE7]
    have HR7 : Hid (w7.heap[w.heap.size + 1]? = some (.cells #[.int .i64 0, .int .i64 0, .int .i64 0, .int .i64 0, .int .i64 0, .int .i64 0, .int .i64 0, .int .i64 0, .int .i64 0, .bool false, .slice none 0 0, .int .i64 0, .int .i64 0, .slice none 0 0] 95 (0, 0))) := HR.out w7 h7.bel
    have HF : Hid (Below w.heap.size w w7) := HB0.out.trans (h7.bel.mono HB0.out.size)
    obtain ⟨⟨r0, r1, r2, r3, r4, r5, r6, r7, r8, r9, r10, r11, r12, r13⟩, f0, f1, f2, f3, f4, f5, f6, f7, f8, f9, f10, f11, f12, f13⟩ := cells14 HR7.out
    clear h6 h7 hX7 hX6 HE HCK h5 h4 h3 h2 h1 q0 q1 q2 q3 q4 q5 q6 q7 q8 q9 q10 q11 q12 q13 hO7
    go_wp2
    refine bodyPost_ret (results_95 rfl _ _ (w.heap.size + 1) rfl (set14 HR7.out _ _ _ _ _ _ _ _ _ _ _ _ _ _)) rfl ?_
    refine ⟨⟨.slice ua G2.length uc, by rw [if_neg hE7]; rfl, hO7'.kept (grownset14 w7 (w.heap.size + 1) _ _ _ _ _ _ _ _ _ _ _ _ _ _) (.inr (hO7'.not_at HR7.out (by decide)))⟩, belset14 HF.out (by omega) _ _ _ _ _ _ _ _ _ _ _ _ _ _⟩
  subst hE7
  go_wp2_with fail
  refine (wholeM_any 7 (fr : Int) (to : Int) (tm : Int) 0 0 0 0 0 false none 0 0 (G0 : Int) (G1 : Int) ua G2.length uc R b p1 e1 w7 h7 CK E (fun w' _ => HCK.out ua uc w') (by have := HE.out; rw [if_neg (by simp)] at this; exact this)).mono ?_
  rintro r w8 ⟨rfl, hB8⟩
  have h8 := h7.mono hB8
  have hO8 := hO7'.below hB8 (Nat.le_refl _)
  have HR8 : Hid (w8.heap[w.heap.size + 1]? = some (.cells #[.int .i64 0, .int .i64 0, .int .i64 0, .int .i64 0, .int .i64 0, .int .i64 0, .int .i64 0, .int .i64 0, .int .i64 0, .bool false, .slice none 0 0, .int .i64 0, .int .i64 0, .slice none 0 0] 95 (0, 0))) := HR.out w8 h8.bel
  have HF : Hid (Below w.heap.size w w8) := HB0.out.trans (h8.bel.mono HB0.out.size)
  obtain ⟨⟨r0, r1, r2, r3, r4, r5, r6, r7, r8, r9, r10, r11, r12, r13⟩, f0, f1, f2, f3, f4, f5, f6, f7, f8, f9, f10, f11, f12, f13⟩ := cells14 HR8.out
  clear h6 h7 h8 hB8 hX7 hX6 HE HCK h5 h4 h3 h2 h1 q0 q1 q2 q3 q4 q5 q6 q7 q8 q9 q10 q11 q12 q13 hO7 hO7'
  by_cases hE0 : E = 0
  · subst hE0
    simp only [if_true]
    go_wp2
    refine bodyPost_ret (results_95 rfl _ _ (w.heap.size + 1) rfl (set14 HR8.out _ _ _ _ _ _ _ _ _ _ _ _ _ _)) rfl ?_
    exact ⟨⟨.slice ua G2.length uc, rfl, hO8.kept (grownset14 w8 (w.heap.size + 1) _ _ _ _ _ _ _ _ _ _ _ _ _ _) (.inr (hO8.not_at HR8.out (by decide)))⟩, belset14 HF.out (by omega) _ _ _ _ _ _ _ _ _ _ _ _ _ _⟩
  · simp only [hE0, if_false]
    go_wp2
    refine bodyPost_ret (results_95 rfl _ _ (w.heap.size + 1) rfl (set14 HR8.out _ _ _ _ _ _ _ _ _ _ _ _ _ _)) rfl ?_
    exact ⟨⟨.slice ua G2.length uc, by rw [if_neg hE0]; rfl, hO8.kept (grownset14 w8 (w.heap.size + 1) _ _ _ _ _ _ _ _ _ _ _ _ _ _) (.inr (hO8.not_at HR8.out (by decide)))⟩, belset14 HF.out (by omega) _ _ _ _ _ _ _ _ _ _ _ _ _ _⟩

end Go.Proofs.Ytfnnbfgfmbiabaa

/-
  A message that a call made: its own memory; what Get answers, as one thing.
-/
namespace Go.Proofs.Ytfnnbfgfmbiabaa
open Go.RowKit Go.Shelf

/-- Entries and data are a call's own memory. -/
def Msg.Own (N : Nat) (w : World) (m : Msg) : Prop := EntsOw N w (.slice m.ea m.es.length m.ec) m.es ∧ Ow N w (.slice m.sa m.sd.length m.sc) m.sd
theorem Msg.Own.at {N : Nat} {w : World} {m : Msg} (h : m.Own N w) : m.At w.heap.size w := ⟨h.1.at, h.2.sl (Nat.le_refl _)⟩
theorem Msg.Own.below {N : Nat} {w w' : World} {m : Msg} (h : m.Own N w) (hB : Below w.heap.size w w') : m.Own N w' :=
  ⟨⟨h.1.row.kept (Below.grownBy' hB none) (by cases m.ea <;> simp [Value.ownBlock]), fun e he => (h.1.dat e he).below hB (Nat.le_refl _)⟩, h.2.below hB (Nat.le_refl _)⟩
theorem Msg.Own.set {N : Nat} {w : World} {m : Msg} (h : m.Own N w) {g : Nat} (hg : g < N) (j : Nat) (v : Value) : m.Own N (w.setCell ⟨g, j, none⟩ v) :=
  ⟨h.1.kept (grown_set w g j v) hg, h.2.kept (grown_set w g j v) (.inr (fun e => by have := World.ownsRow.lt h.2 g e; omega))⟩
/-- The message that says nothing. -/
def zeroM : Msg := ⟨0, 0, 0, 0, 0, 0, 0, 0, 0, false, none, 0, [], 0, 0, none, 0, []⟩
theorem zeroM_own (N : Nat) (w : World) : zeroM.Own N w := ⟨EntsOw.nil _ _, Ow.nil _ _⟩

abbrev Said := (Int × Int × Int × Int × Int × Int × Int × Int × Int) × Bool × List (Int × Int × Int × List UInt8) × Int × Int × List UInt8

/-- What a Get answers: a message of new memory, an error. -/
def GotM (w : World) (E : Nat) (G : Said) (r : Ending) (w' : World) : Prop :=
  ∃ m : Msg, r = .returned (.tuple #[m.v, .int .i64 (E : Int)]) ∧ m.says = G ∧ m.Own w.heap.size w' ∧ Below w.heap.size w w'

theorem gotM_of {w w' : World} {E : Nat} {r : Ending} (m : Msg) (hr : r = .returned (.tuple #[if E = 0 then m.v else zeroM.v, .int .i64 (E : Int)])) (hO : m.Own w.heap.size w') (hB : Below w.heap.size w w') : GotM w E (if E = 0 then m.says else zeroM.says) r w' := by
  by_cases h : E = 0
  · rw [if_pos h] at hr ⊢; exact ⟨m, hr, rfl, hO, hB⟩
  · rw [if_neg h] at hr ⊢; exact ⟨zeroM, hr, rfl, zeroM_own _ _, hB⟩
theorem gotM_zero {w w' : World} {E : Nat} {r : Ending} (hr : r = .returned (.tuple #[zeroM.v, .int .i64 (E : Int)])) (hB : Below w.heap.size w w') : GotM w E zeroM.says r w' := ⟨zeroM, hr, rfl, zeroM_own _ _, hB⟩
theorem gotM_7 {w w' : World} {fr to tm G0 G1 : Nat} {G2 : List UInt8} {E : Nat} {r : Ending} (h : Got7 w fr to tm G0 G1 G2 E r w') (hB : Below w.heap.size w w') :
    GotM w E (if E = 0 then (((7 : Int), (fr : Int), (to : Int), (tm : Int), 0, 0, 0, 0, 0), false, [], (G0 : Int), (G1 : Int), G2) else zeroM.says) r w' := by
  obtain ⟨u, hr, hO⟩ := h
  obtain ⟨a, c, rfl, -, -⟩ := hO.shape
  exact gotM_of ⟨7, fr, to, tm, 0, 0, 0, 0, 0, false, none, 0, [], G0, G1, a, c, G2⟩ hr ⟨EntsOw.nil _ _, hO⟩ hB
theorem gotM_3 {w w' : World} {fr to tm n1 n2 n3 : Nat} {L : List (Nat × Nat × Nat × List UInt8)} {E : Nat} {r : Ending} (h : Got3 w fr to tm n1 n2 n3 L E r w') (hB : Below w.heap.size w w') :
    GotM w E (if E = 0 then (((3 : Int), (fr : Int), (to : Int), (tm : Int), (n1 : Int), (n2 : Int), (n3 : Int), 0, 0), false, saysN L, 0, 0, []) else zeroM.says) r w' := by
  obtain ⟨va, vc, es, hr, hO, hs⟩ := h
  have hq := gotM_of ⟨3, fr, to, tm, n1, n2, n3, 0, 0, false, va, vc, es, 0, 0, none, 0, []⟩ hr ⟨hO, Ow.nil _ _⟩ hB
  by_cases h0 : E = 0
  · rw [if_pos h0] at hq ⊢
    rw [← hs h0]; exact hq
  · rw [if_neg h0] at hq ⊢; exact hq

end Go.Proofs.Ytfnnbfgfmbiabaa

