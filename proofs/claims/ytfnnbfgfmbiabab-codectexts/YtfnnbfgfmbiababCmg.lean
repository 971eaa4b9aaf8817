/-
  Commands read back, one behind the other.
-/
import Derived.Test.YtfnnbfgfmbiababCml
namespace Go.Proofs.Ytfnnbfgfmbiabab
open Go.RowKit Go.Shelf
set_option linter.unusedVariables false

set_option maxRecDepth 100000 in
set_option maxHeartbeats 8000000 in
theorem getOneC_any {w0 w : World} {R : Nat} {l : List UInt8} {p p' : Nat} (size : Int) (e : Cm) (h : Rr w0 w R l p 0) (hr : Hid (rdB l size (p, 0) = (e.tx, (p', 0)))) (hk : e.ck = 0) :
    Calls Try.prog 100 #[.pointer (some ⟨R, 0, none⟩), .iface 58 (.agg #[]), .int .i64 size] w fun r w' =>
      r = .returned (.tuple #[.agg #[.int .i64 e.o, .int .i64 e.c, .int .i64 e.s, .string ⟨e.k.toArray⟩, .string ⟨e.v.toArray⟩, .string ⟨e.d.toArray⟩], .int .i64 0]) ∧ Rr w0 w' R l p' 0 ∧ w.grownBy w' (some R) := by
  have htl : e.tx.length ≤ 1099511627776 := by have := cm_len hk; omega
  obtain ⟨g0, g1⟩ := geCommand_tx (o := e.o) (c := e.c) (s := e.s) (k := e.k) (v := e.v) (d := e.d) hk
  obtain ⟨n0, n1, n2, _, _, _⟩ := ckCommand_ok (o := e.o) (c := e.c) (s := e.s) (k := e.k) (v := e.v) (d := e.d) hk
  have z0 : (e.o.toNat : Int) = e.o := by simp [isNumB] at n0; omega
  have z1 : (e.c.toNat : Int) = e.c := by simp [isNumB] at n1; omega
  have z2 : (e.s.toNat : Int) = e.s := by simp [isNumB] at n2; omega
  have HGC : Hid (∀ v M w, Sl M w v e.tx → M ≤ w.heap.size → Calls Try.prog 132 #[.agg #[], v] w fun r w' => r = .returned (.tuple #[.agg #[.int .i64 e.o, .int .i64 e.c, .int .i64 e.s, .string ⟨e.k.toArray⟩, .string ⟨e.v.toArray⟩, .string ⟨e.d.toArray⟩], .int .i64 0]) ∧ Below w.heap.size w w') := fun v M w hv hM => by
    have := getCommand_any e.tx v M w hv hM htl
    unfold Cm.tx at this
    rw [g0, g1] at this
    simp only [z0, z1, z2] at this
    exact this
  obtain ⟨W0, hW0⟩ : ∃ W0, w.alloc (.cells #[.int .i64 0, .int .i64 0, .int .i64 0, .string ⟨#[]⟩, .string ⟨#[]⟩, .string ⟨#[]⟩] 45) = W0 := ⟨_, rfl⟩
  have HW0 : Hid (w.alloc (.cells #[.int .i64 0, .int .i64 0, .int .i64 0, .string ⟨#[]⟩, .string ⟨#[]⟩, .string ⟨#[]⟩] 45) = W0) := hW0
  have hBx : Below w.heap.size w W0 := by rw [← hW0]; exact (Below.refl _ w).alloc (Nat.le_refl _) _
  have HS : Hid (W0.heap.size = w.heap.size + 1) := by show W0.heap.size = _; rw [← hW0]; simp
  have HR : Hid (W0.heap[w.heap.size]? = some (.cells #[.int .i64 0, .int .i64 0, .int .i64 0, .string ⟨#[]⟩, .string ⟨#[]⟩, .string ⟨#[]⟩] 45 (0, 0))) := by
    show W0.heap[w.heap.size]? = _
    rw [← hW0]; exact World.alloc_heap_new w _
  have hRl := h.rdr.lt
  have hWz : w.heap.size < W0.heap.size := by have := HS.out; omega
  have h0 := h.mono hBx
  have HBx : Hid (Below w.heap.size w W0) := hBx
  clear hW0 hBx g0 g1 n0 n1 n2 z0 z1 z2
  have hff := fail_bytes l e.tx size p 0 p' 0 hr.out
  have HFF : Hid (∀ w', Rr w0 w' R l p' 0 → Calls Try.prog 95 #[.pointer (some ⟨R, 0, none⟩), .int .i64 (p : Int)] w' fun r w'' => r = .returned (.int .i64 0) ∧ Below w'.heap.size w' w'') := fun w' h' => by
    have := failure_any p h'
    rw [hff.1] at this
    exact this
  clear hff
  generalize e.tx = t at *
  obtain ⟨o, c, s, k, v, d⟩ := e
  simp only at HGC ⊢
  go_enter Try.func100, Try.ntmps100
  go_wp2_with fail
  rw [HW0.out]
  refine (rrAt_any h0).mono ?_
  rintro r w1 ⟨rfl, hw⟩
  subst w1
  go_wp2_with fail
  refine (rrK h0 hr HS.out HR.out (by omega)).mono ?_
  rintro r w2 ⟨v2, rfl, hO2, h2, hR2, hg2⟩
  have hz2 := hg2.size
  have HG2 : Hid (w.grownBy w2 (some R)) := grown_trans (Below.grownBy' HBx.out (some R)) hg2 (fun k e => .inl e)
  clear hg2
  obtain ⟨va, vc, rfl, -, -⟩ := hO2.shape
  go_wp2_with fail
  refine (HFF.out _ h2).mono ?_
  rintro r w3 ⟨rfl, hB3⟩
  have h3 := h2.mono hB3
  have HG3 : Hid (w.grownBy w3 (some R)) := grown_trans HG2.out (Below.grownBy' hB3 none) (by simp)
  have hR3 := (hB3.block w.heap.size (by omega)).trans hR2
  have hz3 := hB3.size
  have hO3 := (hO2.below hB3 (Nat.le_refl _)).sl (Nat.le_refl w3.heap.size)
  clear hB3 hR2 h2 hO2
  go_wp2_with fail
  refine (HGC.out _ w3.heap.size w3 hO3 (Nat.le_refl _)).mono ?_
  rintro r w4 ⟨rfl, hB4⟩
  have h4 := h3.mono hB4
  have HG4 : Hid (w.grownBy w4 (some R)) := grown_trans HG3.out (Below.grownBy' hB4 none) (by simp)
  have HR4 : Hid (w4.heap[w.heap.size]? = some (.cells #[.int .i64 0, .int .i64 0, .int .i64 0, .string ⟨#[]⟩, .string ⟨#[]⟩, .string ⟨#[]⟩] 45 (0, 0))) := (hB4.block w.heap.size (by omega)).trans hR3
  have hz4 := hB4.size
  obtain ⟨⟨r0, r1, r2, r3, r4, r5⟩, f0, f1, f2, f3, f4, f5⟩ := cells6 HR4.out
  clear hB4 h3 hR3 hO3
  go_wp2
  refine bodyPost_ret (results_70 rfl _ _ w.heap.size rfl (set6 HR4.out _ _ _ _ _ _)) rfl ?_
  refine ⟨rfl, ?_, ?_⟩
  · exact Rr.set (Rr.set (Rr.set (Rr.set (Rr.set (Rr.set h4 hRl) hRl) hRl) hRl) hRl) hRl
  · exact grown_trans HG4.out (grownset6 w4 w.heap.size _ _ _ _ _ _) (fun k e => .inr (by cases e; exact Nat.le_refl _))

/-- The cells of commands. -/
def cmCells : List Cm → List Value
  | [] => []
  | e :: r => [.int .i64 e.o, .int .i64 e.c, .int .i64 e.s, .string ⟨e.k.toArray⟩, .string ⟨e.v.toArray⟩, .string ⟨e.d.toArray⟩] ++ cmCells r
theorem cmCells_append (a b : List Cm) : cmCells (a ++ b) = cmCells a ++ cmCells b := by
  induction a with
  | nil => rfl
  | cons e r ih => simp [cmCells, ih]
theorem cell_six_new (w : World) (a b c d e f : Value) (t : TypeId) : ∀ j u, [a, b, c, d, e, f][j]? = some u → (w.alloc (.cells #[a, b, c, d, e, f] t)).cell? ((⟨w.heap.size, 0, none⟩ : Addr).add j) = some u := by
  intro j u hj
  have hh := World.alloc_heap_new w (.cells #[a, b, c, d, e, f] t)
  rw [Addr.add_lit]
  simp only [World.cell?, hh, Nat.zero_add]
  simpa using hj
theorem info45 : (Try.prog.info? 45).map (fun i => (i.zero, i.size, i.bytes)) = some (some (.agg #[.int .i64 0, .int .i64 0, .int .i64 0, .string ByteArray.empty, .string ByteArray.empty, .string ByteArray.empty]), 6, 72) := by kernel_rfl
/-- The text of a list. -/
def txC (es : List Cm) : List UInt8 := numB es.length ++ packsC es
theorem txC_at {es : List Cm} (h : ∀ e ∈ es, e.ck = 0) {j : Nat} (hj : j < es.length) (size : Int) (hs : 3000 ≤ size) : rdB (txC es) size ((numB es.length ++ packsC (es.take j)).length, 0) = ((es.getD j nilCm).tx, ((numB es.length ++ packsC (es.take (j + 1))).length, 0)) := by
  have hl := cm_len (h _ (getDC hj))
  have e1 : txC es = (numB es.length ++ packsC (es.take j)) ++ (numB (es.getD j nilCm).tx.length ++ (es.getD j nilCm).tx ++ packsC (es.drop (j + 1))) := by
    unfold txC
    conv => lhs; rw [← List.take_append_drop j es, packsC_append]
    rw [List.take_append_drop, dropC hj]
    simp [packsC]
  have := rdB_mid (numB es.length ++ packsC (es.take j)) (es.getD j nilCm).tx (packsC (es.drop (j + 1))) size (by omega) (by omega)
  rw [e1]
  rw [packsC_take hj]
  simpa [List.append_assoc] using this

set_option maxRecDepth 100000 in
set_option maxHeartbeats 8000000 in
theorem getAllC_any {w0 w : World} {R : Nat} (es : List Cm) (most size : Int) (h : Rr w0 w R (txC es) 0 0) (hk : ∀ e ∈ es, e.ck = 0) (hs : 3000 ≤ size) (hn : es.length ≤ 100) :
    Calls Try.prog 71 #[.pointer (some ⟨R, 0, none⟩), .iface 58 (.agg #[]), .int .i64 most, .int .i64 size] w fun r w' =>
      ∃ v, r = .returned (.tuple #[v, .int .i64 ((if most < (es.length : Int) then 3 else 0 : Nat) : Int)]) ∧ ((es.length : Int) ≤ most → w'.ownsRow w.heap.size 45 6 v es.length (cmCells es) ∧ Rr w0 w' R (txC es) (txC es).length 0) ∧ w.grownBy w' (some R) := by
  have hr : Hid (rdN (txC es) (0, 0) = (es.length, ((numB es.length).length, 0))) := by
    show rdN (txC es) (0, 0) = _
    have := rdN_mid [] es.length (packsC es) (by omega)
    simpa [txC] using this
  have HK : Hid (∀ e ∈ es, e.ck = 0) := hk
  clear hk
  by_cases hm : most < (es.length : Int)
  case pos =>
    rw [if_pos hm]
    go_enter Try.func71, Try.ntmps71
    go_wp2_with (go_at_call 66; refine (getNumberG_any h hr).mono ?_; rintro r w1 ⟨rfl, h1, hg1⟩)
    go_ret2
    exact ⟨_, rfl, fun h => by omega, hg1⟩
  rw [if_neg hm]
  go_enter Try.func71, Try.ntmps71
  go_wp2_with (go_at_call 66; refine (getNumberG_any h hr).mono ?_; rintro r w1 ⟨rfl, h1, hg1⟩)
  obtain ⟨i0, hi, hz0, hz1, hz2⟩ := info_parts info45
  have HRL : Hid (R < w.heap.size) := h.rdr.lt
  go_loopw [12, 27] (fun lv iv wr => ∃ (j vc : Nat) (va : Option Addr), iv = .int .i64 (j : Int) ∧ lv = .slice va j vc ∧ j ≤ es.length ∧ wr.ownsRow w.heap.size 45 6 (.slice va j vc) j (cmCells (es.take j)) ∧ Rr w0 wr R (txC es) (numB es.length ++ packsC (es.take j)).length 0 ∧ w.grownBy wr (some R)) (fun _ iv _ => es.length - (intOf iv).toNat)
  case atStart => exact ⟨0, 0, none, rfl, rfl, Nat.zero_le _, World.ownsRow_nil _ _ _ _, by simpa [packsC] using h1, hg1⟩
  case round =>
    obtain ⟨j, vc, va, rfl, rfl, hj, hE, h2, hg2⟩ := hrel
    by_cases hlt : j < es.length
    · have H3 : Hid (rdB (txC es) size ((numB es.length ++ packsC (es.take j)).length, 0) = ((es.getD j nilCm).tx, ((numB es.length ++ packsC (es.take (j + 1))).length, 0))) := txC_at HK.out hlt size hs
      have ho := getOneC_any size (es.getD j nilCm) h2 H3 (HK.out _ (getDC hlt))
      have HTK : Hid (cmCells (es.take (j + 1)) = cmCells (es.take j) ++ cmCells [es.getD j nilCm]) := by show cmCells _ = _; rw [takeC hlt, cmCells_append]
      generalize es.getD j nilCm = e at *
      obtain ⟨o, c, s, k, v, d⟩ := e
      simp only at ho
      have hkept : ∀ w5, wr.grownBy w5 (some R) → w5.ownsRow w.heap.size 45 6 (.slice va j vc) j (cmCells (es.take j)) := fun w5 hg => World.ownsRow.kept hE hg (by
        cases hv : (Value.slice va j vc).ownBlock with
        | none => exact .inl rfl
        | some x => exact .inr (fun e => by cases e; have := (World.ownsRow.lt hE R hv).1; have := HRL.out; omega))
      have HKP : Hid (∀ w5, wr.grownBy w5 (some R) → w5.ownsRow w.heap.size 45 6 (.slice va j vc) j (cmCells (es.take j))) := hkept
      clear hkept H3
      go_wp2_with (first
        | (go_at_call 100; refine ho.mono ?_; rintro r w5 ⟨rfl, h5, hg5⟩)
        | (at_builtin; refine wpList_append_own _ rfl _ _ 69 rfl w.heap.size 45 i0 (.agg #[.int .i64 0, .int .i64 0, .int .i64 0, .string ByteArray.empty, .string ByteArray.empty, .string ByteArray.empty]) 6 72 Try.underlying69 hi hz0 hz1 hz2 rfl (by decide) _ j (cmCells (es.take j)) rfl ((((HKP.out w5 hg5).alloc _).alloc _)) ⟨w5.heap.size + 1, 0, none⟩ 1 1 [.int .i64 o, .int .i64 c, .int .i64 s, .string ⟨k.toArray⟩, .string ⟨v.toArray⟩, .string ⟨d.toArray⟩] rfl rfl (by simpa using cell_six_new (w5.alloc (.cells #[.int .i64 o, .int .i64 c, .int .i64 s, .string ⟨k.toArray⟩, .string ⟨v.toArray⟩, .string ⟨d.toArray⟩] 45)) _ _ _ _ _ _ 45) (by intro u hu; simp at hu; rcases hu with rfl | rfl | rfl | rfl | rfl | rfl <;> rfl) (by unfold maxLen; omega) (by omega) (by have := hg2.size; have := hg5.size; simp; omega) ?_; intro v7 w7 hown7 hgrow7 _))
      have hgk : ∀ x, (Value.slice va j vc).ownBlock = some x → w.heap.size ≤ x := fun x hx => (World.ownsRow.lt hE x hx).1
      have hB6 : Below w5.heap.size w5 ((w5.alloc (.cells #[.int .i64 o, .int .i64 c, .int .i64 s, .string ⟨k.toArray⟩, .string ⟨v.toArray⟩, .string ⟨d.toArray⟩] 45)).alloc (.cells #[.int .i64 o, .int .i64 c, .int .i64 s, .string ⟨k.toArray⟩, .string ⟨v.toArray⟩, .string ⟨d.toArray⟩] 45)) := (((Below.refl _ w5).alloc (Nat.le_refl _) _).alloc (by simp) _)
      have hR7 := (h5.mono hB6).grown hgrow7 (fun x hx => by have := hgk x hx; have := HRL.out; omega)
      have hG7 : w.grownBy w7 (some R) := grown_trans (grown_trans (grown_trans hg2 hg5 (fun k e => .inl e)) (Below.grownBy' hB6 none) (by simp)) hgrow7 (fun x hx => .inr (hgk x hx))
      have hrow7 : w7.ownsRow w.heap.size 45 6 v7 (j + 1) (cmCells (es.take (j + 1))) := by rw [HTK.out]; simpa [cmCells] using hown7
      obtain ⟨va7, vc7, rfl⟩ : ∃ va7 vc7, v7 = .slice va7 (j + 1) vc7 := by
        rcases hrow7.2 with ⟨hv, h0⟩ | ⟨g, cap, cur, hv, r⟩
        · omega
        · exact ⟨_, _, hv⟩
      exact ⟨⟨j + 1, vc7, va7, by go_num, rfl, by omega, hrow7, hR7, hG7⟩, by simp [intOf]; omega⟩
    · have e9 : es.take j = es := List.take_of_length_le (by omega)
      have e8 : j = es.length := by omega
      have HF : Hid (wr.ownsRow w.heap.size 45 6 (.slice va es.length vc) es.length (cmCells es) ∧ Rr w0 wr R (txC es) (txC es).length 0) := by
        rw [e9] at hE h2
        rw [e8] at hE
        exact ⟨hE, h2⟩
      rw [e8]
      go_wp2
      go_ret2
      exact ⟨_, rfl, fun _ => HF.out, hg2⟩

set_option maxRecDepth 100000 in
set_option maxHeartbeats 8000000 in
theorem getListC_any (es : List Cm) (most : Int) (x : Value) (w : World) (M : Nat) (hx : Sl M w x (txC es)) (hM : M ≤ w.heap.size) (hk : ∀ e ∈ es, e.ck = 0) (hn : es.length ≤ 100) :
    Calls Try.prog 28 #[.iface 58 (.agg #[]), x, .int .i64 most] w fun r w' =>
      ∃ v, r = .returned (.tuple #[v, .int .i64 ((if most < (es.length : Int) then 3 else 0 : Nat) : Int)]) ∧ ((es.length : Int) ≤ most → w'.ownsRow w.heap.size 45 6 v es.length (cmCells es)) ∧ Below w.heap.size w w' := by
  have hpl := packsC_len hk
  have hb := numB_len es.length
  have htl : (txC es).length ≤ 1000000 := by unfold txC; simp; omega
  obtain ⟨xa, xc, rfl, -⟩ := id hx
  by_cases hm : most < (es.length : Int)
  · rw [if_pos hm]
    go_enter Try.func28, Try.ntmps28
    go_wp2_with fail
    refine (newR_any w hx (by omega)).mono ?_
    rintro r w1 ⟨R, rfl, h1⟩
    have hga := getAllC_any es most 1048576 h1 hk (by omega) hn
    rw [if_pos hm] at hga
    have hle := h1.rdr.le
    go_wp2_with (go_at_call 71; refine hga.mono ?_; rintro r w2 ⟨v2, rfl, -, hg2⟩)
    go_ret2
    exact ⟨_, rfl, fun h => by omega, h1.bel.grown hg2 h1.bel.size (fun j e => by cases e; exact hle)⟩
  · rw [if_neg hm]
    go_enter Try.func28, Try.ntmps28
    go_wp2_with fail
    refine (newR_any w hx (by omega)).mono ?_
    rintro r w1 ⟨R, rfl, h1⟩
    have hga := getAllC_any es most 1048576 h1 hk (by omega) hn
    rw [if_neg (by omega)] at hga
    have hle := h1.rdr.le
    go_wp2_with (go_at_call 71; refine hga.mono ?_; rintro r w2 ⟨v2, rfl, hq, hg2⟩)
    obtain ⟨hrow, hR2⟩ := hq (by omega)
    have hB2 := h1.bel.grown hg2 h1.bel.size (fun j e => by cases e; exact hle)
    obtain ⟨va, vc, rfl⟩ : ∃ va vc, v2 = .slice va es.length vc := by
      rcases hrow.2 with ⟨hv, h0⟩ | ⟨g, cap, cur, hv, r⟩
      · rw [h0]; exact ⟨_, _, hv⟩
      · exact ⟨_, _, hv⟩
    have hdn := rrDone_any hR2
    rw [doneE_end] at hdn
    go_wp2_with (go_at_call 72; refine hdn.mono ?_; rintro r w3 ⟨rfl, hB3⟩)
    go_ret2
    refine ⟨_, rfl, fun _ => ?_, hB2.trans (hB3.mono hB2.size)⟩
    have := World.ownsRow.kept (row := none) hrow ⟨hB3.os, hB3.tape, hB3.output, hB3.size, fun k hk _ => hB3.block k hk⟩ (by cases (Value.slice va es.length vc).ownBlock <;> simp)
    exact ⟨this.1, this.2.imp id (fun ⟨g, cap, cur, e, hg, q⟩ => ⟨g, cap, cur, e, Nat.le_trans h1.bel.size hg, q⟩)⟩
end Go.Proofs.Ytfnnbfgfmbiabab
