/-
  A read command whole.
-/
import Derived.Test.YtfnnbfgfmbiababWhole
import Derived.Test.YtfnnbfgfmbiababChkD
namespace Go.Proofs.Ytfnnbfgfmbiabab
open Go.RowKit Go.Shelf

set_option maxRecDepth 100000 in
set_option maxHeartbeats 2000000 in
theorem wholeCommand_any {w0 : World} (o c s : Int) (k v d : List UInt8) (R : Nat) (l : List UInt8) (p e : Nat) (w : World) (h : Rr w0 w R l p e) (E : Nat) (hE : E = if doneE l p e = 0 then ckCommand o c s k v d else doneE l p e) :
    Calls Try.prog 134 #[.pointer (some ⟨R, 0, none⟩), .iface 58 (.agg #[]), .agg #[.int .i64 o, .int .i64 c, .int .i64 s, .string ⟨k.toArray⟩, .string ⟨v.toArray⟩, .string ⟨d.toArray⟩]] w fun r w' =>
      r = .returned (.tuple #[if E = 0 then .agg #[.int .i64 o, .int .i64 c, .int .i64 s, .string ⟨k.toArray⟩, .string ⟨v.toArray⟩, .string ⟨d.toArray⟩] else .agg #[.int .i64 0, .int .i64 0, .int .i64 0, .string ⟨#[]⟩, .string ⟨#[]⟩, .string ⟨#[]⟩], .int .i64 (E : Int)]) ∧ Below w.heap.size w w' := by
  obtain ⟨W0, hW0⟩ : ∃ W0, (w.alloc (.cells #[.int .i64 o, .int .i64 c, .int .i64 s, .string ⟨k.toArray⟩, .string ⟨v.toArray⟩, .string ⟨d.toArray⟩] 45)).alloc (.cells #[.int .i64 0, .int .i64 0, .int .i64 0, .string ⟨#[]⟩, .string ⟨#[]⟩, .string ⟨#[]⟩] 45) = W0 := ⟨_, rfl⟩
  have HW0 : Hid ((w.alloc (.cells #[.int .i64 o, .int .i64 c, .int .i64 s, .string ⟨k.toArray⟩, .string ⟨v.toArray⟩, .string ⟨d.toArray⟩] 45)).alloc (.cells #[.int .i64 0, .int .i64 0, .int .i64 0, .string ⟨#[]⟩, .string ⟨#[]⟩, .string ⟨#[]⟩] 45) = W0) := hW0
  have HB0 : Hid (Below w.heap.size w W0) := by show Below w.heap.size w W0; rw [← hW0]; exact (((Below.refl _ w).alloc (by simp) _).alloc (by simp) _)
  have HS : Hid (W0.heap.size = w.heap.size + 2) := by show W0.heap.size = _; rw [← hW0]; simp
  have HX : Hid (W0.heap[w.heap.size]? = some (.cells #[.int .i64 o, .int .i64 c, .int .i64 s, .string ⟨k.toArray⟩, .string ⟨v.toArray⟩, .string ⟨d.toArray⟩] 45 (0, 0))) := by
    show W0.heap[w.heap.size]? = _
    rw [← hW0]; exact (((Below.refl (w.heap.size + 1) (w.alloc _)).alloc (by simp) _).block _ (by simp)).trans (World.alloc_heap_new w _)
  have HR : Hid (W0.heap[w.heap.size + 1]? = some (.cells #[.int .i64 0, .int .i64 0, .int .i64 0, .string ⟨#[]⟩, .string ⟨#[]⟩, .string ⟨#[]⟩] 45 (0, 0))) := by
    show W0.heap[w.heap.size + 1]? = _
    rw [← hW0]; simpa using World.alloc_heap_new (w.alloc (.cells #[.int .i64 o, .int .i64 c, .int .i64 s, .string ⟨k.toArray⟩, .string ⟨v.toArray⟩, .string ⟨d.toArray⟩] 45)) _
  have h0 : Rr w0 W0 R l p e := h.mono HB0.out
  have ck1 := fun w' => ckCommand_any o c s k v d w'
  clear hW0
  by_cases he : doneE l p e = 0
  · rw [if_pos he] at hE
    go_enter Try.func134, Try.ntmps134
    go_wp2_with fail
    rw [HW0.out]
    refine (rrDone_any h0).mono ?_
    rintro r w1 ⟨rfl, hB1⟩
    rw [he]
    obtain ⟨⟨q0, q1, q2, q3, q4, q5⟩, -⟩ := cells6 ((hB1.block w.heap.size (by have := HS.out; omega)).trans HX.out)
    rw [← hE] at ck1
    go_wp2_with fail
    refine (ck1 w1).mono ?_
    rintro r w2 ⟨rfl, hB2⟩
    have hB2' : Below W0.heap.size W0 w2 := hB1.trans (hB2.mono hB1.size)
    by_cases hEn : E = 0
    · clear hE
      subst hEn
      have hr2 := (hB2'.block (w.heap.size + 1) (by have := HS.out; omega)).trans HR.out
      obtain ⟨⟨q0, q1, q2, q3, q4, q5⟩, -⟩ := cells6 ((hB2'.block w.heap.size (by have := HS.out; omega)).trans HX.out)
      obtain ⟨⟨r0, r1, r2, r3, r4, r5⟩, f0, f1, f2, f3, f4, f5⟩ := cells6 hr2
      have HF : Hid (Below w.heap.size w w2) := HB0.out.trans (hB2'.mono HB0.out.size)
      have HR2 : Hid (w2.heap[w.heap.size + 1]? = some (.cells #[.int .i64 0, .int .i64 0, .int .i64 0, .string ⟨#[]⟩, .string ⟨#[]⟩, .string ⟨#[]⟩] 45 (0, 0))) := hr2
      clear hr2 hB2 hB2' hB1 h0 h ck1
      go_wp2
      refine bodyPost_ret (results_70 rfl _ _ (w.heap.size + 1) rfl (set6 HR2.out _ _ _ _ _ _)) rfl ?_
      exact ⟨by simp, belset6 HF.out (by omega) _ _ _ _ _ _⟩
    · have hke : ((E : Int) != 0) = true := by simp; omega
      clear hE ck1 h0 h
      have hra : ((w2).alloc (.cells #[.int .i64 0, .int .i64 0, .int .i64 0, .string ⟨#[]⟩, .string ⟨#[]⟩, .string ⟨#[]⟩] 45)).heap[w.heap.size + 1]? = some (.cells #[.int .i64 0, .int .i64 0, .int .i64 0, .string ⟨#[]⟩, .string ⟨#[]⟩, .string ⟨#[]⟩] 45 (0, 0)) :=
        ((((Below.refl W0.heap.size W0).trans hB2').alloc (by have := hB2'.size; omega) _).block (w.heap.size + 1) (by have := HS.out; omega)).trans HR.out
      obtain ⟨⟨r0, r1, r2, r3, r4, r5⟩, f0, f1, f2, f3, f4, f5⟩ := cells6 hra
      have HF : Hid (Below w.heap.size w ((w2).alloc (.cells #[.int .i64 0, .int .i64 0, .int .i64 0, .string ⟨#[]⟩, .string ⟨#[]⟩, .string ⟨#[]⟩] 45))) := (HB0.out.trans (hB2'.mono HB0.out.size)).alloc (by have := HB0.out.size; have := hB2'.size; omega) _
      have HR2 : Hid (((w2).alloc (.cells #[.int .i64 0, .int .i64 0, .int .i64 0, .string ⟨#[]⟩, .string ⟨#[]⟩, .string ⟨#[]⟩] 45)).heap[w.heap.size + 1]? = some (.cells #[.int .i64 0, .int .i64 0, .int .i64 0, .string ⟨#[]⟩, .string ⟨#[]⟩, .string ⟨#[]⟩] 45 (0, 0))) := hra
      clear hra
      go_wp2
      refine bodyPost_ret (results_70 rfl _ _ (w.heap.size + 1) rfl (set6 HR2.out _ _ _ _ _ _)) rfl ?_
      exact ⟨by simp, belset6 HF.out (by omega) _ _ _ _ _ _⟩
  · rw [if_neg he] at hE
    have hEn : ¬ E = 0 := by omega
    have hke : ((E : Int) == 0) = false := by simp; omega
    have hke2 : ((E : Int) != 0) = true := by simp; omega
    go_enter Try.func134, Try.ntmps134
    go_wp2_with fail
    rw [HW0.out]
    refine (rrDone_any h0).mono ?_
    rintro r w1 ⟨rfl, hB1⟩
    rw [← hE]
    clear hE ck1 h0 h
    have hra : ((w1).alloc (.cells #[.int .i64 0, .int .i64 0, .int .i64 0, .string ⟨#[]⟩, .string ⟨#[]⟩, .string ⟨#[]⟩] 45)).heap[w.heap.size + 1]? = some (.cells #[.int .i64 0, .int .i64 0, .int .i64 0, .string ⟨#[]⟩, .string ⟨#[]⟩, .string ⟨#[]⟩] 45 (0, 0)) :=
      ((((Below.refl W0.heap.size W0).trans hB1).alloc (by have := hB1.size; omega) _).block (w.heap.size + 1) (by have := HS.out; omega)).trans HR.out
    obtain ⟨⟨r0, r1, r2, r3, r4, r5⟩, f0, f1, f2, f3, f4, f5⟩ := cells6 hra
    have HF : Hid (Below w.heap.size w ((w1).alloc (.cells #[.int .i64 0, .int .i64 0, .int .i64 0, .string ⟨#[]⟩, .string ⟨#[]⟩, .string ⟨#[]⟩] 45))) := (HB0.out.trans (hB1.mono HB0.out.size)).alloc (by have := HB0.out.size; have := hB1.size; omega) _
    have HR2 : Hid (((w1).alloc (.cells #[.int .i64 0, .int .i64 0, .int .i64 0, .string ⟨#[]⟩, .string ⟨#[]⟩, .string ⟨#[]⟩] 45)).heap[w.heap.size + 1]? = some (.cells #[.int .i64 0, .int .i64 0, .int .i64 0, .string ⟨#[]⟩, .string ⟨#[]⟩, .string ⟨#[]⟩] 45 (0, 0))) := hra
    clear hra
    go_wp2
    refine bodyPost_ret (results_70 rfl _ _ (w.heap.size + 1) rfl (set6 HR2.out _ _ _ _ _ _)) rfl ?_
    exact ⟨by simp, belset6 HF.out (by omega) _ _ _ _ _ _⟩

end Go.Proofs.Ytfnnbfgfmbiabab
