/-
  Carried: Chk, PutB, Whole, GetA, GetB of the layer below, in this seat.
-/
import Derived.Test.YtnahghldlkjleaaGreatDoorJCc
import Derived.Handy
import Derived.Deep.RegionHeld3
namespace Go.Proofs.YtnahghldlkjleaaGreatDoor.Cd
open Go.RowKit
set_option linter.unusedVariables false
open Go.RowKit Go.Shelf
set_option maxRecDepth 100000 in
set_option maxHeartbeats 1000000 in
theorem ckState_any (t v c : Int) (w : World) : Calls Tryz.prog 114 #[.agg #[], .agg #[.int .i64 t, .int .i64 v, .int .i64 c]] w fun e w' => e = .returned (.int .i64 (ckState t v c : Int)) ∧ Below w.heap.size w w' := by
  have HB : Hid (∀ o0 o1, Below w.heap.size w ((w.alloc o0).alloc o1)) := fun _ _ => (((Below.refl _ w).alloc (by simp) _).alloc (by simp) _)
  go_enter Tryz.func114, Tryz.ntmps114
  go_wp2_with ((go_at_call 168; refine (within_any _ _ _ _).mono ?_; rintro e w' ⟨rfl, hw⟩; subst w'))
  all_goals
    go_ret
    refine ⟨?_, HB.out _ _⟩
    first
    | (simp_all [ckState]; done)
    | (simp_all [ckState]; split <;> omega)
set_option maxRecDepth 100000 in
set_option maxHeartbeats 1000000 in
theorem refCkState_any (t v c : Int) (w : World) : Calls Tryz.prog 127 #[.agg #[.int .i64 t, .int .i64 v, .int .i64 c]] w fun e w' => e = .returned (.int .i64 (ckState t v c : Int)) ∧ Below w.heap.size w w' := by
  have HB : Hid (∀ o0, Below w.heap.size w (w.alloc o0)) := fun _ => ((Below.refl _ w).alloc (by simp) _)
  go_enter Tryz.func127, Tryz.ntmps127
  go_wp2_with ((go_at_call 181; refine (refWithin_any _ _ _ _).mono ?_; rintro e w' ⟨rfl, hw⟩; subst w'))
  all_goals
    go_ret
    refine ⟨?_, HB.out _⟩
    first
    | (simp_all [ckState]; done)
    | (simp_all [ckState]; split <;> omega)
set_option maxRecDepth 100000 in
set_option maxHeartbeats 1000000 in
theorem ckEntry_any (t i k : Int) (a : Option Addr) (n cap : Nat) (w : World) : Calls Tryz.prog 116 #[.agg #[], .agg #[.int .i64 t, .int .i64 i, .int .i64 k, .slice a n cap]] w fun e w' => e = .returned (.int .i64 (ckEntry t i k n : Int)) ∧ Below w.heap.size w w' := by
  have HB : Hid (∀ o0 o1, Below w.heap.size w ((w.alloc o0).alloc o1)) := fun _ _ => (((Below.refl _ w).alloc (by simp) _).alloc (by simp) _)
  go_enter Tryz.func116, Tryz.ntmps116
  go_wp2_with ((go_at_call 168; refine (within_any _ _ _ _).mono ?_; rintro e w' ⟨rfl, hw⟩; subst w'))
  all_goals
    go_ret
    refine ⟨?_, HB.out _ _⟩
    first
    | (simp_all [ckEntry]; done)
    | (simp_all [ckEntry]; split <;> omega)
set_option maxRecDepth 100000 in
set_option maxHeartbeats 1000000 in
theorem refCkEntry_any (t i k : Int) (a : Option Addr) (n cap : Nat) (w : World) : Calls Tryz.prog 129 #[.agg #[.int .i64 t, .int .i64 i, .int .i64 k, .slice a n cap]] w fun e w' => e = .returned (.int .i64 (ckEntry t i k n : Int)) ∧ Below w.heap.size w w' := by
  have HB : Hid (∀ o0, Below w.heap.size w (w.alloc o0)) := fun _ => ((Below.refl _ w).alloc (by simp) _)
  go_enter Tryz.func129, Tryz.ntmps129
  go_wp2_with ((go_at_call 181; refine (refWithin_any _ _ _ _).mono ?_; rintro e w' ⟨rfl, hw⟩; subst w'))
  all_goals
    go_ret
    refine ⟨?_, HB.out _⟩
    first
    | (simp_all [ckEntry]; done)
    | (simp_all [ckEntry]; split <;> omega)
set_option maxRecDepth 100000 in
set_option maxHeartbeats 2000000 in
theorem putEntry_any (t i k : Int) (m : List UInt8) (a : Option Addr) (cap : Nat) (w : World) (M : Nat) (hx : Sl M w (.slice a m.length cap) m) (hM : M ≤ w.heap.size) : Calls Tryz.prog 218 #[.agg #[], .agg #[.int .i64 t, .int .i64 i, .int .i64 k, .slice a m.length cap]] w fun r w' =>
    ∃ u, r = .returned (.tuple #[u, .int .i64 (ckEntry t i k m.length : Int)]) ∧ Ow w.heap.size w' u (if ckEntry t i k m.length = 0 then txEntry t i k m else []) ∧ Below w.heap.size w w' := by
  have hbt := numB_len t.toNat
  have hbi := numB_len i.toNat
  have hbk := numB_len k.toNat
  have hbm := numB_len m.length
  obtain ⟨W0, hW0⟩ : ∃ W0, ((w.alloc (.cells #[] 171)).alloc (.cells #[.int .i64 t, .int .i64 i, .int .i64 k, .slice a m.length cap] 88)) = W0 := ⟨_, rfl⟩
  have HW0 : Hid (((w.alloc (.cells #[] 171)).alloc (.cells #[.int .i64 t, .int .i64 i, .int .i64 k, .slice a m.length cap] 88)) = W0) := hW0
  have HB0 : Hid (Below w.heap.size w W0) := by show Below w.heap.size w W0; rw [← hW0]; exact (((Below.refl _ w).alloc (by simp) _).alloc (by simp) _)
  have HQ : Hid (∀ w', Below W0.heap.size W0 w' → w'.cell? ⟨w.heap.size + 1, 0, none⟩ = some (.int .i64 t) ∧ w'.cell? ⟨w.heap.size + 1, 1, none⟩ = some (.int .i64 i) ∧ w'.cell? ⟨w.heap.size + 1, 2, none⟩ = some (.int .i64 k) ∧ w'.cell? ⟨w.heap.size + 1, 3, none⟩ = some (.slice a m.length cap)) := fun w' hB => by
    have hlt : w.heap.size + 1 < W0.heap.size := by rw [← hW0]; simp
    have hh : W0.heap[w.heap.size + 1]? = some (.cells #[.int .i64 t, .int .i64 i, .int .i64 k, .slice a m.length cap] 88 (0, 0)) := by
      rw [← hW0]; exact (by simpa using World.alloc_heap_new (w.alloc (.cells #[] 171)) _)
    have h2 := (hB.block _ hlt).trans hh
    refine ⟨?_, ?_, ?_, ?_⟩ <;> (simp only [World.cell?, h2]; rfl)
  clear hW0
  by_cases hk : ckEntry t i k m.length = 0
  · rw [if_pos hk]
    obtain ⟨kt, ki, kk, km⟩ := ckEntry_ok hk
    have hm30 : m.length ≤ 1073741824 := by omega
    have hx0 := hx.below (HB0.out.mono hM)
    have hM0 : M ≤ W0.heap.size := by have := HB0.out.size; omega
    go_enter Tryz.func218, Tryz.ntmps218
    go_wp2_with (go_at_call 116; refine (ckEntry_any t i k a m.length cap _).mono ?_; rintro e w1 ⟨rfl, hB1⟩; rw [HW0.out] at hB1; obtain ⟨q0, q1, q2, q3⟩ := HQ.out w1 hB1)
    have hx1 := hx0.below (hB1.mono hM0)
    have hM1 : M ≤ w1.heap.size := by have := hB1.size; omega
    clear hx hx0
    go_wp2_with fail
    refine (newW_any w1).mono ?_
    rintro r w2 ⟨rfl, h2⟩
    obtain ⟨q0, q1, q2, q3⟩ := HQ.out w2 (hB1.trans (h2.bel.mono hB1.size))
    go_wp2_with fail
    refine (wrInt_any t h2 (by simp <;> omega) kt).mono ?_
    rintro r w3 ⟨rfl, h3⟩
    obtain ⟨q0, q1, q2, q3⟩ := HQ.out w3 (hB1.trans (h3.bel.mono hB1.size))
    go_wp2_with fail
    refine (wrInt_any i h3 (by simp <;> omega) ki).mono ?_
    rintro r w4 ⟨rfl, h4⟩
    obtain ⟨q0, q1, q2, q3⟩ := HQ.out w4 (hB1.trans (h4.bel.mono hB1.size))
    go_wp2_with fail
    refine (wrInt_any k h4 (by simp <;> omega) kk).mono ?_
    rintro r w5 ⟨rfl, h5⟩
    obtain ⟨q0, q1, q2, q3⟩ := HQ.out w5 (hB1.trans (h5.bel.mono hB1.size))
    go_wp2_with fail
    refine (wrBytes_any 4096 h5 (by simp <;> omega) (by omega) hx1 hM1 km).mono ?_
    rintro r w6 ⟨rfl, h6⟩
    obtain ⟨q0, q1, q2, q3⟩ := HQ.out w6 (hB1.trans (h6.bel.mono hB1.size))
    go_wp2_with fail
    refine (wrDone_any h6 (by simp <;> omega)).mono ?_
    rintro r w9 ⟨u, rfl, hO9, hB9⟩
    go_wp2
    go_ret2
    refine ⟨u, by rw [hk]; rfl, ?_, HB0.out.trans ((hB1.trans (hB9.mono hB1.size)).mono HB0.out.size)⟩
    have hO := hO9.base (N' := w.heap.size) (by have := hB1.size; have := HB0.out.size; omega)
    simpa [txEntry, numB] using hO
  · rw [if_neg hk]
    have ck1 := fun w' => ckEntry_any t i k a m.length cap w'
    generalize ckEntry t i k m.length = ke at *
    have hke : ((ke : Int) != 0) = true := by simp; omega
    go_enter Tryz.func218, Tryz.ntmps218
    go_wp2_with (go_at_call 116; refine (ck1 _).mono ?_; rintro e w1 ⟨rfl, hB1⟩; rw [HW0.out] at hB1)
    go_ret2
    exact ⟨_, rfl, Ow.nil _ _, HB0.out.trans (hB1.mono HB0.out.size)⟩
set_option maxRecDepth 100000 in
set_option maxHeartbeats 2000000 in
theorem refPutEntry_any (t i k : Int) (m : List UInt8) (a : Option Addr) (cap : Nat) (w : World) (M : Nat) (hx : Sl M w (.slice a m.length cap) m) (hM : M ≤ w.heap.size) : Calls Tryz.prog 185 #[.agg #[.int .i64 t, .int .i64 i, .int .i64 k, .slice a m.length cap]] w fun r w' =>
    ∃ u, r = .returned (.tuple #[u, .int .i64 (ckEntry t i k m.length : Int)]) ∧ Sl w'.heap.size w' u (if ckEntry t i k m.length = 0 then txEntry t i k m else []) ∧ Below w.heap.size w w' := by
  have hbt := numB_len t.toNat
  have hbi := numB_len i.toNat
  have hbk := numB_len k.toNat
  have hbm := numB_len m.length
  obtain ⟨W0, hW0⟩ : ∃ W0, (w.alloc (.cells #[.int .i64 t, .int .i64 i, .int .i64 k, .slice a m.length cap] 88)) = W0 := ⟨_, rfl⟩
  have HW0 : Hid ((w.alloc (.cells #[.int .i64 t, .int .i64 i, .int .i64 k, .slice a m.length cap] 88)) = W0) := hW0
  have HB0 : Hid (Below w.heap.size w W0) := by show Below w.heap.size w W0; rw [← hW0]; exact ((Below.refl _ w).alloc (by simp) _)
  have HQ : Hid (∀ w', Below W0.heap.size W0 w' → w'.cell? ⟨w.heap.size, 0, none⟩ = some (.int .i64 t) ∧ w'.cell? ⟨w.heap.size, 1, none⟩ = some (.int .i64 i) ∧ w'.cell? ⟨w.heap.size, 2, none⟩ = some (.int .i64 k) ∧ w'.cell? ⟨w.heap.size, 3, none⟩ = some (.slice a m.length cap)) := fun w' hB => by
    have hlt : w.heap.size < W0.heap.size := by rw [← hW0]; simp
    have hh : W0.heap[w.heap.size]? = some (.cells #[.int .i64 t, .int .i64 i, .int .i64 k, .slice a m.length cap] 88 (0, 0)) := by
      rw [← hW0]; exact World.alloc_heap_new w _
    have h2 := (hB.block _ hlt).trans hh
    refine ⟨?_, ?_, ?_, ?_⟩ <;> (simp only [World.cell?, h2]; rfl)
  clear hW0
  by_cases hk : ckEntry t i k m.length = 0
  · rw [if_pos hk]
    obtain ⟨kt, ki, kk, km⟩ := ckEntry_ok hk
    have hm30 : m.length ≤ 1073741824 := by omega
    have hx0 := hx.below (HB0.out.mono hM)
    have hM0 : M ≤ W0.heap.size := by have := HB0.out.size; omega
    go_enter Tryz.func185, Tryz.ntmps185
    go_wp2_with (go_at_call 129; refine (refCkEntry_any t i k a m.length cap _).mono ?_; rintro e w1 ⟨rfl, hB1⟩; rw [HW0.out] at hB1; obtain ⟨q0, q1, q2, q3⟩ := HQ.out w1 hB1; have h2 := newV (w := w1); obtain ⟨q0, q1, q2, q3⟩ := HQ.out _ (hB1.trans (h2.bel.mono hB1.size)))
    have hx1 := hx0.below (hB1.mono hM0)
    have hM1 : M ≤ w1.heap.size := by have := hB1.size; omega
    clear hx hx0
    go_wp2_with fail
    refine (wvInt_any t h2 (by simp <;> omega) kt).mono ?_
    rintro r w3 ⟨rfl, h3⟩
    obtain ⟨q0, q1, q2, q3⟩ := HQ.out w3 (hB1.trans (h3.bel.mono hB1.size))
    go_wp2_with fail
    refine (wvInt_any i h3 (by simp <;> omega) ki).mono ?_
    rintro r w4 ⟨rfl, h4⟩
    obtain ⟨q0, q1, q2, q3⟩ := HQ.out w4 (hB1.trans (h4.bel.mono hB1.size))
    go_wp2_with fail
    refine (wvInt_any k h4 (by simp <;> omega) kk).mono ?_
    rintro r w5 ⟨rfl, h5⟩
    obtain ⟨q0, q1, q2, q3⟩ := HQ.out w5 (hB1.trans (h5.bel.mono hB1.size))
    go_wp2_with fail
    refine (wvBytes_any 4096 h5 (by simp <;> omega) (by omega) hx1 hM1 km).mono ?_
    rintro r w6 ⟨rfl, h6⟩
    obtain ⟨q0, q1, q2, q3⟩ := HQ.out w6 (hB1.trans (h6.bel.mono hB1.size))
    go_wp2_with fail
    refine (wvDone_any h6).mono ?_
    rintro r w9 ⟨u, rfl, hO9, hB9⟩
    go_wp2
    go_ret2
    refine ⟨u, by rw [hk]; rfl, ?_, HB0.out.trans ((hB1.trans (hB9.mono hB1.size)).mono HB0.out.size)⟩
    simpa [txEntry, numB] using hO9
  · rw [if_neg hk]
    have ck1 := fun w' => refCkEntry_any t i k a m.length cap w'
    generalize ckEntry t i k m.length = ke at *
    have hke : ((ke : Int) != 0) = true := by simp; omega
    go_enter Tryz.func185, Tryz.ntmps185
    go_wp2_with (go_at_call 129; refine (ck1 _).mono ?_; rintro e w1 ⟨rfl, hB1⟩; rw [HW0.out] at hB1)
    go_ret2
    exact ⟨_, rfl, Sl.nil _ _, HB0.out.trans (hB1.mono HB0.out.size)⟩
theorem results_45 {fn : Func} {t u : Tmp} (h : fn.results = #[.cell t 36, .tmp u]) (tmps : Array Value) (w : World) (B : Nat) {x0 x1 x2 : Value} (ht : tmps.getD t undef = .pointer (some ⟨B, 0, none⟩)) (hb : w.heap[B]? = some (.cells #[x0, x1, x2] 36 (0, 0))) :
    (results fn tmps).run Tryz.prog w = .ok (.tuple #[.agg #[x0, x1, x2], tmps.getD u undef]) w := by
  obtain ⟨⟨c0, c1, c2⟩, -⟩ := cells3 hb
  have ht' : tmps[t]?.getD undef = .pointer (some ⟨B, 0, none⟩) := by rw [← Array.getD_eq_getD_getElem?]; exact ht
  simp [results, h, ht', asAddr, loadVar, c0, c1, c2, go_sem]
theorem results_24 {fn : Func} {t u : Tmp} (h : fn.results = #[.cell t 88, .tmp u]) (tmps : Array Value) (w : World) (B : Nat) {x0 x1 x2 x3 : Value} (ht : tmps.getD t undef = .pointer (some ⟨B, 0, none⟩)) (hb : w.heap[B]? = some (.cells #[x0, x1, x2, x3] 88 (0, 0))) :
    (results fn tmps).run Tryz.prog w = .ok (.tuple #[.agg #[x0, x1, x2, x3], tmps.getD u undef]) w := by
  obtain ⟨⟨c0, c1, c2, c3⟩, -⟩ := cells4 hb
  have ht' : tmps[t]?.getD undef = .pointer (some ⟨B, 0, none⟩) := by rw [← Array.getD_eq_getD_getElem?]; exact ht
  simp [results, h, ht', asAddr, loadVar, c0, c1, c2, c3, go_sem]
set_option maxRecDepth 100000 in
set_option maxHeartbeats 2000000 in
theorem wholeEntry_any {w0 : World} (t i k : Int) (m : List UInt8) (a : Option Addr) (cap : Nat) (R : Nat) (l : List UInt8) (p e : Nat) (w : World) (h : Rr w0 w R l p e) (E : Nat) (hE : E = if doneE l p e = 0 then ckEntry t i k m.length else doneE l p e) :
    Calls Tryz.prog 279 #[.pointer (some ⟨R, 0, none⟩), .iface 171 (.agg #[]), .agg #[.int .i64 t, .int .i64 i, .int .i64 k, .slice a m.length cap]] w fun r w' =>
      r = .returned (.tuple #[if E = 0 then .agg #[.int .i64 t, .int .i64 i, .int .i64 k, .slice a m.length cap] else .agg #[.int .i64 0, .int .i64 0, .int .i64 0, .slice none 0 0], .int .i64 (E : Int)]) ∧ Below w.heap.size w w' := by
  obtain ⟨W0, hW0⟩ : ∃ W0, (w.alloc (.cells #[.int .i64 t, .int .i64 i, .int .i64 k, .slice a m.length cap] 88)).alloc (.cells #[.int .i64 0, .int .i64 0, .int .i64 0, .slice none 0 0] 88) = W0 := ⟨_, rfl⟩
  have HW0 : Hid ((w.alloc (.cells #[.int .i64 t, .int .i64 i, .int .i64 k, .slice a m.length cap] 88)).alloc (.cells #[.int .i64 0, .int .i64 0, .int .i64 0, .slice none 0 0] 88) = W0) := hW0
  have HB0 : Hid (Below w.heap.size w W0) := by show Below w.heap.size w W0; rw [← hW0]; exact (((Below.refl _ w).alloc (by simp) _).alloc (by simp) _)
  have HS : Hid (W0.heap.size = w.heap.size + 2) := by show W0.heap.size = _; rw [← hW0]; simp
  have HX : Hid (W0.heap[w.heap.size]? = some (.cells #[.int .i64 t, .int .i64 i, .int .i64 k, .slice a m.length cap] 88 (0, 0))) := by
    show W0.heap[w.heap.size]? = _
    rw [← hW0]; exact (((Below.refl (w.heap.size + 1) (w.alloc _)).alloc (by simp) _).block _ (by simp)).trans (World.alloc_heap_new w _)
  have HR : Hid (W0.heap[w.heap.size + 1]? = some (.cells #[.int .i64 0, .int .i64 0, .int .i64 0, .slice none 0 0] 88 (0, 0))) := by
    show W0.heap[w.heap.size + 1]? = _
    rw [← hW0]; simpa using World.alloc_heap_new (w.alloc (.cells #[.int .i64 t, .int .i64 i, .int .i64 k, .slice a m.length cap] 88)) _
  have h0 : Rr w0 W0 R l p e := h.mono HB0.out
  have ck1 := fun w' => ckEntry_any t i k a m.length cap w'
  clear hW0
  by_cases he : doneE l p e = 0
  · rw [if_pos he] at hE
    go_enter Tryz.func279, Tryz.ntmps279
    go_wp2_with fail
    rw [HW0.out]
    refine (rrDone_any h0).mono ?_
    rintro r w1 ⟨rfl, hB1⟩
    rw [he]
    obtain ⟨⟨q0, q1, q2, q3⟩, -⟩ := cells4 ((hB1.block w.heap.size (by have := HS.out; omega)).trans HX.out)
    rw [← hE] at ck1
    go_wp2_with fail
    refine (ck1 w1).mono ?_
    rintro r w2 ⟨rfl, hB2⟩
    have hB2' : Below W0.heap.size W0 w2 := hB1.trans (hB2.mono hB1.size)
    by_cases hEn : E = 0
    · clear hE
      subst hEn
      have hr2 := (hB2'.block (w.heap.size + 1) (by have := HS.out; omega)).trans HR.out
      obtain ⟨⟨q0, q1, q2, q3⟩, -⟩ := cells4 ((hB2'.block w.heap.size (by have := HS.out; omega)).trans HX.out)
      obtain ⟨⟨r0, r1, r2, r3⟩, f0, f1, f2, f3⟩ := cells4 hr2
      have HF : Hid (Below w.heap.size w w2) := HB0.out.trans (hB2'.mono HB0.out.size)
      have HR2 : Hid (w2.heap[w.heap.size + 1]? = some (.cells #[.int .i64 0, .int .i64 0, .int .i64 0, .slice none 0 0] 88 (0, 0))) := hr2
      clear hr2 hB2 hB2' hB1 h0 h ck1
      go_wp2
      refine bodyPost_ret (results_24 rfl _ _ (w.heap.size + 1) rfl (set4 HR2.out _ _ _ _)) rfl ?_
      exact ⟨by simp, belset4 HF.out (by omega) _ _ _ _⟩
    · have hke : ((E : Int) != 0) = true := by simp; omega
      clear hE ck1 h0 h
      have hra : ((w2).alloc (.cells #[.int .i64 0, .int .i64 0, .int .i64 0, .slice none 0 0] 88)).heap[w.heap.size + 1]? = some (.cells #[.int .i64 0, .int .i64 0, .int .i64 0, .slice none 0 0] 88 (0, 0)) :=
        ((((Below.refl W0.heap.size W0).trans hB2').alloc (by have := hB2'.size; omega) _).block (w.heap.size + 1) (by have := HS.out; omega)).trans HR.out
      obtain ⟨⟨r0, r1, r2, r3⟩, f0, f1, f2, f3⟩ := cells4 hra
      have HF : Hid (Below w.heap.size w ((w2).alloc (.cells #[.int .i64 0, .int .i64 0, .int .i64 0, .slice none 0 0] 88))) := (HB0.out.trans (hB2'.mono HB0.out.size)).alloc (by have := HB0.out.size; have := hB2'.size; omega) _
      have HR2 : Hid (((w2).alloc (.cells #[.int .i64 0, .int .i64 0, .int .i64 0, .slice none 0 0] 88)).heap[w.heap.size + 1]? = some (.cells #[.int .i64 0, .int .i64 0, .int .i64 0, .slice none 0 0] 88 (0, 0))) := hra
      clear hra
      go_wp2
      refine bodyPost_ret (results_24 rfl _ _ (w.heap.size + 1) rfl (set4 HR2.out _ _ _ _)) rfl ?_
      exact ⟨by simp, belset4 HF.out (by omega) _ _ _ _⟩
  · rw [if_neg he] at hE
    have hEn : ¬ E = 0 := by omega
    have hke : ((E : Int) == 0) = false := by simp; omega
    have hke2 : ((E : Int) != 0) = true := by simp; omega
    go_enter Tryz.func279, Tryz.ntmps279
    go_wp2_with fail
    rw [HW0.out]
    refine (rrDone_any h0).mono ?_
    rintro r w1 ⟨rfl, hB1⟩
    rw [← hE]
    clear hE ck1 h0 h
    have hra : ((w1).alloc (.cells #[.int .i64 0, .int .i64 0, .int .i64 0, .slice none 0 0] 88)).heap[w.heap.size + 1]? = some (.cells #[.int .i64 0, .int .i64 0, .int .i64 0, .slice none 0 0] 88 (0, 0)) :=
      ((((Below.refl W0.heap.size W0).trans hB1).alloc (by have := hB1.size; omega) _).block (w.heap.size + 1) (by have := HS.out; omega)).trans HR.out
    obtain ⟨⟨r0, r1, r2, r3⟩, f0, f1, f2, f3⟩ := cells4 hra
    have HF : Hid (Below w.heap.size w ((w1).alloc (.cells #[.int .i64 0, .int .i64 0, .int .i64 0, .slice none 0 0] 88))) := (HB0.out.trans (hB1.mono HB0.out.size)).alloc (by have := HB0.out.size; have := hB1.size; omega) _
    have HR2 : Hid (((w1).alloc (.cells #[.int .i64 0, .int .i64 0, .int .i64 0, .slice none 0 0] 88)).heap[w.heap.size + 1]? = some (.cells #[.int .i64 0, .int .i64 0, .int .i64 0, .slice none 0 0] 88 (0, 0))) := hra
    clear hra
    go_wp2
    refine bodyPost_ret (results_24 rfl _ _ (w.heap.size + 1) rfl (set4 HR2.out _ _ _ _)) rfl ?_
    exact ⟨by simp, belset4 HF.out (by omega) _ _ _ _⟩
theorem wholeSEntry {w0 : World} {t i k : Int} {m : List UInt8} {a : Option Addr} {cap : Nat} {R : Nat} {l : List UInt8} {p e : Nat} {w : World} (h : Rr w0 w R l p e) {E : Nat} (hE : Hid (E = if doneE l p e = 0 then ckEntry t i k m.length else doneE l p e)) :
    Calls Tryz.prog 279 #[.pointer (some ⟨R, 0, none⟩), .iface 171 (.agg #[]), .agg #[.int .i64 t, .int .i64 i, .int .i64 k, .slice a m.length cap]] w fun r w' =>
      ∃ (z0 : Int) (z1 : Int) (z2 : Int) (z3a : Option Addr) (z3n : Nat) (z3c : Nat), r = .returned (.tuple #[.agg #[.int .i64 z0, .int .i64 z1, .int .i64 z2, .slice z3a z3n z3c], .int .i64 (E : Int)]) ∧ Hid ((.agg #[.int .i64 z0, .int .i64 z1, .int .i64 z2, .slice z3a z3n z3c] : Value) = if E = 0 then .agg #[.int .i64 t, .int .i64 i, .int .i64 k, .slice a m.length cap] else .agg #[.int .i64 0, .int .i64 0, .int .i64 0, .slice none 0 0]) ∧ Rr w0 w' R l p e ∧ Below w.heap.size w w' := by
  refine (wholeEntry_any t i k m a cap R l p e w h E hE.out).mono ?_
  rintro r w' ⟨rfl, hB⟩
  by_cases h0 : E = 0
  · rw [if_pos h0]; exact ⟨_, _, _, _, _, _, rfl, rfl, h.mono hB, hB⟩
  · rw [if_neg h0]; exact ⟨0, 0, 0, none, 0, 0, rfl, rfl, h.mono hB, hB⟩
set_option maxRecDepth 100000 in
set_option maxHeartbeats 2000000 in
theorem getEntry_any (b : List UInt8) (v : Value) (M : Nat) (w : World) (hv : Sl M w v b) (hM : M ≤ w.heap.size) (hb : b.length ≤ 1099511627776) : Calls Tryz.prog 258 #[.agg #[], v] w fun r w' =>
    ∃ u, r = .returned (.tuple #[.agg #[.int .i64 ((goEntry b).1 : Int), .int .i64 ((goEntry b).2.1 : Int), .int .i64 ((goEntry b).2.2.1 : Int), u], .int .i64 (geEntry b : Int)]) ∧ Ow w.heap.size w' u (goEntry b).2.2.2 ∧ Below w.heap.size w w' := by
  obtain ⟨a, cap, rfl, -⟩ := id hv
  obtain ⟨W0, hW0⟩ : ∃ W0, (w.alloc (.cells #[] 171)).alloc (.cells #[.int .i64 0, .int .i64 0, .int .i64 0, .slice none 0 0] 88) = W0 := ⟨_, rfl⟩
  have HW0 : Hid ((w.alloc (.cells #[] 171)).alloc (.cells #[.int .i64 0, .int .i64 0, .int .i64 0, .slice none 0 0] 88) = W0) := hW0
  have HB0 : Hid (Below w.heap.size w W0) := by show Below w.heap.size w W0; rw [← hW0]; exact (((Below.refl _ w).alloc (by simp) _).alloc (by simp) _)
  have HS : Hid (W0.heap.size = w.heap.size + 2) := by show W0.heap.size = _; rw [← hW0]; simp
  have HR : Hid (W0.heap[w.heap.size + 1]? = some (.cells #[.int .i64 0, .int .i64 0, .int .i64 0, .slice none 0 0] 88 (0, 0))) := by
    show W0.heap[w.heap.size + 1]? = _
    rw [← hW0]; simpa using World.alloc_heap_new (w.alloc (.cells #[] 171)) _
  have hv0 := hv.below (HB0.out.mono hM)
  clear hW0
  unfold goEntry geEntry rdEntry
  obtain ⟨n1, a1, e1, H1⟩ : ∃ n1 a1 e1, Hid (rdN b (0, 0) = (n1, (a1, e1))) := ⟨_, _, _, rfl⟩
  obtain ⟨n2, a2, e2, H2⟩ : ∃ n2 a2 e2, Hid (rdN b (a1, e1) = (n2, (a2, e2))) := ⟨_, _, _, rfl⟩
  obtain ⟨n3, a3, e3, H3⟩ : ∃ n3 a3 e3, Hid (rdN b (a2, e2) = (n3, (a3, e3))) := ⟨_, _, _, rfl⟩
  obtain ⟨n4, a4, e4, H4⟩ : ∃ n4 a4 e4, Hid (rdB b 4096 (a3, e3) = (n4, (a4, e4))) := ⟨_, _, _, rfl⟩
  simp only [H1.out, H2.out, H3.out, H4.out]
  obtain ⟨E, hE⟩ : ∃ E, E = if doneE b a4 e4 = 0 then ckEntry (n1 : Int) (n2 : Int) (n3 : Int) (n4).length else doneE b a4 e4 := ⟨_, rfl⟩
  rw [← hE]
  have HE : Hid (E = if doneE b a4 e4 = 0 then ckEntry (n1 : Int) (n2 : Int) (n3 : Int) (n4).length else doneE b a4 e4) := hE
  clear hE
  obtain ⟨g, HG⟩ : ∃ g, Hid ((if E = 0 then (n1, n2, n3, n4) else (0, 0, 0, [])) = g) := ⟨_, rfl⟩
  rw [HG.out]
  go_enter Tryz.func258, Tryz.ntmps258
  go_wp2_with fail
  rw [HW0.out]
  refine (newR_any W0 hv0 hb).mono ?_
  rintro r w1 ⟨R, rfl, h1⟩
  go_wp2_with fail
  have h1' : Rr W0 w1.drew R b 0 0 := h1.mono ⟨rfl, rfl, rfl, Nat.le_refl _, fun _ _ => rfl⟩
  go_region_held3 (fun _ => True) (trivial)
    (first | (go_at_call 211; refine (rrI (by assumption) (by assumption)).mono ?_; rintro r w2 ⟨rfl, h2⟩)
           | (go_at_call 259; refine (rrB (by assumption) (by assumption)).mono ?_; rintro r w4 ⟨vv, rfl, hO4, h4, hz4⟩; obtain ⟨av, cv, hvv, -, -⟩ := hO4.shape; subst hvv)
           | (go_at_call 279; refine (wholeSEntry (by assumption) HE).mono ?_; rintro r w5 ⟨z0, z1, z2, z3a, z3n, z3c, rfl, HZ, h5, hB5⟩; have HR5 : Hid (w5.heap[w.heap.size + 1]? = some (.cells #[.int .i64 0, .int .i64 0, .int .i64 0, .slice none 0 0] 88 (0, 0))) := (h5.bel.block _ (by have := HS.out; omega)).trans HR.out; obtain ⟨⟨r0, r1, r2, r3⟩, f0, f1, f2, f3⟩ := cells4 HR5.out))
  go_wp2
  refine bodyPost_ret (results_24 rfl _ _ (w.heap.size + 1) rfl (set4 HR5.out _ _ _ _)) rfl ?_
  have hg := HG.out
  have hz := HZ.out
  by_cases h0 : E = 0
  · rw [if_pos h0] at hg hz
    subst hg
    have hO5 := (hO4.below hB5 (Nat.le_refl _)).base (N' := w.heap.size) (by have := HB0.out.size; have := h2.bel.size; omega)
    have hO6 := hO5.kept (grownset4 w5 (w.heap.size + 1) (.int .i64 z0) (.int .i64 z1) (.int .i64 z2) (.slice z3a z3n z3c)) (.inr (hO5.not_at HR5.out (by decide)))
    refine ⟨_, ?_, hO6, belset4 (HB0.out.trans (h5.bel.mono HB0.out.size)) (by omega) _ _ _ _⟩
    show Ending.returned (.tuple #[.agg #[.int .i64 z0, .int .i64 z1, .int .i64 z2, .slice z3a z3n z3c], .int .i64 (E : Int)]) = _
    rw [hz]
  · rw [if_neg h0] at hg hz
    subst hg
    refine ⟨.slice none 0 0, ?_, Ow.nil _ _, belset4 (HB0.out.trans (h5.bel.mono HB0.out.size)) (by omega) _ _ _ _⟩
    show Ending.returned (.tuple #[.agg #[.int .i64 z0, .int .i64 z1, .int .i64 z2, .slice z3a z3n z3c], .int .i64 (E : Int)]) = _
    rw [hz]
    rfl
set_option maxRecDepth 100000 in
set_option maxHeartbeats 2000000 in
theorem refGetEntry_any (b : List UInt8) (v : Value) (M : Nat) (w : World) (hv : Sl M w v b) (hM : M ≤ w.heap.size) (hb : b.length ≤ 20000) : Calls Tryz.prog 180 #[v] w fun r w' =>
    ∃ u, r = .returned (.tuple #[.agg #[.int .i64 ((goEntry b).1 : Int), .int .i64 ((goEntry b).2.1 : Int), .int .i64 ((goEntry b).2.2.1 : Int), u], .int .i64 (geEntry b : Int)]) ∧ Sl w'.heap.size w' u (goEntry b).2.2.2 ∧ Below w.heap.size w w' := by
  obtain ⟨a, cap, rfl, -⟩ := id hv
  have hB0 : Below w.heap.size w (w.alloc (.cells #[.int .i64 0, .int .i64 0, .int .i64 0, .slice none 0 0] 88)) := (Below.refl _ w).alloc (Nat.le_refl _) _
  have hq := newQ (hv.below (hB0.mono hM)) (by simp; omega) hb
  simp only [World.size_alloc] at hq
  have HR : Hid ((w.alloc (.cells #[.int .i64 0, .int .i64 0, .int .i64 0, .slice none 0 0] 88)).heap[w.heap.size]? = some (.cells #[.int .i64 0, .int .i64 0, .int .i64 0, .slice none 0 0] 88 (0, 0))) := World.alloc_heap_new w _
  have HB0 : Hid (Below w.heap.size w (w.alloc (.cells #[.int .i64 0, .int .i64 0, .int .i64 0, .slice none 0 0] 88))) := hB0
  clear hB0
  unfold goEntry geEntry rdEntry
  obtain ⟨n1, a1, e1, H1⟩ : ∃ n1 a1 e1, Hid (rdN b (0, 0) = (n1, (a1, e1))) := ⟨_, _, _, rfl⟩
  obtain ⟨n2, a2, e2, H2⟩ : ∃ n2 a2 e2, Hid (rdN b (a1, e1) = (n2, (a2, e2))) := ⟨_, _, _, rfl⟩
  obtain ⟨n3, a3, e3, H3⟩ : ∃ n3 a3 e3, Hid (rdN b (a2, e2) = (n3, (a3, e3))) := ⟨_, _, _, rfl⟩
  obtain ⟨n4, a4, e4, H4⟩ : ∃ n4 a4 e4, Hid (rdB b 4096 (a3, e3) = (n4, (a4, e4))) := ⟨_, _, _, rfl⟩
  simp only [H1.out, H2.out, H3.out, H4.out]
  obtain ⟨E, hE⟩ : ∃ E, E = if doneE b a4 e4 = 0 then ckEntry (n1 : Int) (n2 : Int) (n3 : Int) (n4).length else doneE b a4 e4 := ⟨_, rfl⟩
  rw [← hE]
  have HE : Hid (E = if doneE b a4 e4 = 0 then ckEntry (n1 : Int) (n2 : Int) (n3 : Int) (n4).length else doneE b a4 e4) := hE
  clear hE
  obtain ⟨g, HG⟩ : ∃ g, Hid ((if E = 0 then (n1, n2, n3, n4) else (0, 0, 0, [])) = g) := ⟨_, rfl⟩
  rw [HG.out]
  go_enter Tryz.func180, Tryz.ntmps180
  go_wp2_with fail
  refine (rqI hq H1).mono ?_
  rintro r w2 ⟨rfl, h2⟩
  go_wp2_with fail
  refine (rqI h2 H2).mono ?_
  rintro r w3 ⟨rfl, h3⟩
  go_wp2_with fail
  refine (rqI h3 H3).mono ?_
  rintro r w4 ⟨rfl, h4⟩
  go_wp2_with fail
  refine (rqB h4 H4).mono ?_
  rintro r w5 ⟨vv, rfl, hS, h5⟩
  obtain ⟨av, cv, hvv, -⟩ := id hS
  subst hvv
  go_wp2_with fail
  have hBx : Below w5.heap.size w5 (w5.alloc (.cells #[.int .i64 (n1 : Int), .int .i64 (n2 : Int), .int .i64 (n3 : Int), .slice av n4.length cv] 88)) := (Below.refl _ _).alloc (Nat.le_refl _) _
  have HX : Hid ((w5.alloc (.cells #[.int .i64 (n1 : Int), .int .i64 (n2 : Int), .int .i64 (n3 : Int), .slice av n4.length cv] 88)).heap[w5.heap.size]? = some (.cells #[.int .i64 (n1 : Int), .int .i64 (n2 : Int), .int .i64 (n3 : Int), .slice av n4.length cv] 88 (0, 0))) := World.alloc_heap_new w5 _
  have hx := h5.mono hBx
  refine (rqDone_any hx).mono ?_
  rintro r w8 ⟨rfl, hB8⟩
  have hx8 := hx.mono hB8
  have ck1 := fun w' => refCkEntry_any (n1 : Int) (n2 : Int) (n3 : Int) av n4.length cv w'
  have HX8 : Hid (w8.heap[w5.heap.size]? = some (.cells #[.int .i64 (n1 : Int), .int .i64 (n2 : Int), .int .i64 (n3 : Int), .slice av n4.length cv] 88 (0, 0))) := (hB8.block _ (by simp)).trans HX.out
  have HR8 : Hid (w8.heap[w.heap.size]? = some (.cells #[.int .i64 0, .int .i64 0, .int .i64 0, .slice none 0 0] 88 (0, 0))) := (hx8.bel.block _ (by simp)).trans HR.out
  have HL : Hid (w5.heap.size < w8.heap.size) := by have := hB8.size; show w5.heap.size < w8.heap.size; simp at this; omega
  have HZ8 : Hid (w.heap.size < w8.heap.size) := by have := hx8.bel.size; show w.heap.size < w8.heap.size; simp at this; omega
  have HB8 : Hid (Below w.heap.size w w8) := HB0.out.trans (hx8.bel.mono (by simp))
  have hS8 := (hS.below hBx).below (hB8.mono (by simp))
  clear hx hx8 hBx
  by_cases he : doneE b a4 e4 = 0
  · have hE := HE.out
    rw [if_pos he] at hE
    rw [← hE] at ck1
    rw [he]
    obtain ⟨⟨q0, q1, q2, q3⟩, -⟩ := cells4 HX8.out
    go_wp2_with fail
    refine (ck1 w8).mono ?_
    rintro r w9 ⟨rfl, hB9⟩
    have HX9 : Hid (w9.heap[w5.heap.size]? = some (.cells #[.int .i64 (n1 : Int), .int .i64 (n2 : Int), .int .i64 (n3 : Int), .slice av n4.length cv] 88 (0, 0))) := (hB9.block _ HL.out).trans HX8.out
    have HR9 : Hid (w9.heap[w.heap.size]? = some (.cells #[.int .i64 0, .int .i64 0, .int .i64 0, .slice none 0 0] 88 (0, 0))) := (hB9.block _ HZ8.out).trans HR8.out
    have HF : Hid (Below w.heap.size w w9) := HB8.out.trans (hB9.mono HB8.out.size)
    obtain ⟨⟨q0, q1, q2, q3⟩, -⟩ := cells4 HX9.out
    obtain ⟨⟨r0, r1, r2, r3⟩, f0, f1, f2, f3⟩ := cells4 HR9.out
    clear ck1 hE
    by_cases hEn : E = 0
    · rw [if_pos hEn] at HG
      have hg := HG.out
      subst hg
      subst hEn
      go_wp2
      refine bodyPost_ret (results_24 rfl _ _ w.heap.size rfl (set4 HR9.out _ _ _ _)) rfl ?_
      have hS9 := hS8.below (hB9.mono (by have := HL.out; omega))
      refine ⟨.slice av n4.length cv, rfl, ?_, belset4 HF.out (by omega) _ _ _ _⟩
      exact (hS9.grow (by have := hB9.size; have := HL.out; omega) (grownset4 w9 w.heap.size _ _ _ _) (hS9.not_at HR9.out (by intro i b; match i with | 0 | 1 | 2 | 3 => simp [encB] | _ + 4 => simp)))
    · have hke : ((E : Int) != 0) = true := by simp; omega
      rw [if_neg hEn] at HG
      have hg := HG.out
      subst hg
      go_wp2
      refine bodyPost_ret (results_24 rfl _ _ w.heap.size rfl (set4 HR9.out _ _ _ _)) rfl ?_
      exact ⟨.slice none 0 0, rfl, Sl.nil _ _, belset4 HF.out (by omega) _ _ _ _⟩
  · have hE := HE.out
    rw [if_neg he] at hE
    rw [← hE]
    have hEn : ¬ E = 0 := by omega
    have hke : ((E : Int) == 0) = false := by simp; omega
    have hke2 : ((E : Int) != 0) = true := by simp; omega
    rw [if_neg hEn] at HG
    have hg := HG.out
    subst hg
    obtain ⟨⟨r0, r1, r2, r3⟩, f0, f1, f2, f3⟩ := cells4 HR8.out
    clear ck1 hE
    go_wp2
    refine bodyPost_ret (results_24 rfl _ _ w.heap.size rfl (set4 HR8.out _ _ _ _)) rfl ?_
    exact ⟨.slice none 0 0, rfl, Sl.nil _ _, belset4 HB8.out (by omega) _ _ _ _⟩
end Go.Proofs.YtnahghldlkjleaaGreatDoor.Cd
