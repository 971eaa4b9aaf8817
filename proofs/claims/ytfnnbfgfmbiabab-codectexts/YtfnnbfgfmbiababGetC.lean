/-
  Get of the plain kinds, the code's and the document's.
-/
import Derived.Test.YtfnnbfgfmbiababGetA
import Derived.Test.YtfnnbfgfmbiababWholeC
import Derived.Deep.RegionHeld3
namespace Go.Proofs.Ytfnnbfgfmbiabab
open Go.RowKit Go.Shelf

theorem wholeSCommand {w0 : World} {o c s : Int} {k v d : List UInt8} {R : Nat} {l : List UInt8} {p e : Nat} {w : World} (h : Rr w0 w R l p e) {E : Nat} (hE : Hid (E = if doneE l p e = 0 then ckCommand o c s k v d else doneE l p e)) :
    Calls Try.prog 134 #[.pointer (some ⟨R, 0, none⟩), .iface 58 (.agg #[]), .agg #[.int .i64 o, .int .i64 c, .int .i64 s, .string ⟨k.toArray⟩, .string ⟨v.toArray⟩, .string ⟨d.toArray⟩]] w fun r w' =>
      ∃ (z0 : Int) (z1 : Int) (z2 : Int) (z3 : List UInt8) (z4 : List UInt8) (z5 : List UInt8), r = .returned (.tuple #[.agg #[.int .i64 z0, .int .i64 z1, .int .i64 z2, .string ⟨z3.toArray⟩, .string ⟨z4.toArray⟩, .string ⟨z5.toArray⟩], .int .i64 (E : Int)]) ∧ Hid ((.agg #[.int .i64 z0, .int .i64 z1, .int .i64 z2, .string ⟨z3.toArray⟩, .string ⟨z4.toArray⟩, .string ⟨z5.toArray⟩] : Value) = if E = 0 then .agg #[.int .i64 o, .int .i64 c, .int .i64 s, .string ⟨k.toArray⟩, .string ⟨v.toArray⟩, .string ⟨d.toArray⟩] else .agg #[.int .i64 0, .int .i64 0, .int .i64 0, .string ⟨#[]⟩, .string ⟨#[]⟩, .string ⟨#[]⟩]) ∧ Rr w0 w' R l p e ∧ Below w.heap.size w w' := by
  refine (wholeCommand_any o c s k v d R l p e w h E hE.out).mono ?_
  rintro r w' ⟨rfl, hB⟩
  by_cases h0 : E = 0
  · rw [if_pos h0]; exact ⟨_, _, _, _, _, _, rfl, rfl, h.mono hB, hB⟩
  · rw [if_neg h0]; exact ⟨0, 0, 0, [], [], [], rfl, rfl, h.mono hB, hB⟩
set_option maxRecDepth 100000 in
set_option maxHeartbeats 2000000 in
theorem getCommand_any (b : List UInt8) (v : Value) (M : Nat) (w : World) (hv : Sl M w v b) (hM : M ≤ w.heap.size) (hb : b.length ≤ 1099511627776) : Calls Try.prog 132 #[.agg #[], v] w fun r w' =>
    r = .returned (.tuple #[.agg #[.int .i64 ((goCommand b).1 : Int), .int .i64 ((goCommand b).2.1 : Int), .int .i64 ((goCommand b).2.2.1 : Int), .string ⟨((goCommand b).2.2.2.1).toArray⟩, .string ⟨((goCommand b).2.2.2.2.1).toArray⟩, .string ⟨((goCommand b).2.2.2.2.2).toArray⟩], .int .i64 (geCommand b : Int)]) ∧ Below w.heap.size w w' := by
  obtain ⟨a, cap, rfl, -⟩ := id hv
  obtain ⟨W0, hW0⟩ : ∃ W0, (w.alloc (.cells #[] 58)).alloc (.cells #[.int .i64 0, .int .i64 0, .int .i64 0, .string ⟨#[]⟩, .string ⟨#[]⟩, .string ⟨#[]⟩] 45) = W0 := ⟨_, rfl⟩
  have HW0 : Hid ((w.alloc (.cells #[] 58)).alloc (.cells #[.int .i64 0, .int .i64 0, .int .i64 0, .string ⟨#[]⟩, .string ⟨#[]⟩, .string ⟨#[]⟩] 45) = W0) := hW0
  have HB0 : Hid (Below w.heap.size w W0) := by show Below w.heap.size w W0; rw [← hW0]; exact (((Below.refl _ w).alloc (by simp) _).alloc (by simp) _)
  have HS : Hid (W0.heap.size = w.heap.size + 2) := by show W0.heap.size = _; rw [← hW0]; simp
  have HR : Hid (W0.heap[w.heap.size + 1]? = some (.cells #[.int .i64 0, .int .i64 0, .int .i64 0, .string ⟨#[]⟩, .string ⟨#[]⟩, .string ⟨#[]⟩] 45 (0, 0))) := by
    show W0.heap[w.heap.size + 1]? = _
    rw [← hW0]; simpa using World.alloc_heap_new (w.alloc (.cells #[] 58)) _
  have hv0 := hv.below (HB0.out.mono hM)
  clear hW0
  unfold goCommand geCommand rdCommand
  obtain ⟨n1, a1, e1, H1⟩ : ∃ n1 a1 e1, Hid (rdN b (0, 0) = (n1, (a1, e1))) := ⟨_, _, _, rfl⟩
  obtain ⟨n2, a2, e2, H2⟩ : ∃ n2 a2 e2, Hid (rdN b (a1, e1) = (n2, (a2, e2))) := ⟨_, _, _, rfl⟩
  obtain ⟨n3, a3, e3, H3⟩ : ∃ n3 a3 e3, Hid (rdN b (a2, e2) = (n3, (a3, e3))) := ⟨_, _, _, rfl⟩
  obtain ⟨n4, a4, e4, H4⟩ : ∃ n4 a4 e4, Hid (rdB b 64 (a3, e3) = (n4, (a4, e4))) := ⟨_, _, _, rfl⟩
  obtain ⟨n5, a5, e5, H5⟩ : ∃ n5 a5 e5, Hid (rdB b 1024 (a4, e4) = (n5, (a5, e5))) := ⟨_, _, _, rfl⟩
  obtain ⟨n6, a6, e6, H6⟩ : ∃ n6 a6 e6, Hid (rdB b 1024 (a5, e5) = (n6, (a6, e6))) := ⟨_, _, _, rfl⟩
  simp only [H1.out, H2.out, H3.out, H4.out, H5.out, H6.out]
  obtain ⟨E, hE⟩ : ∃ E, E = if doneE b a6 e6 = 0 then ckCommand (n1 : Int) (n2 : Int) (n3 : Int) n4 n5 n6 else doneE b a6 e6 := ⟨_, rfl⟩
  rw [← hE]
  have HE : Hid (E = if doneE b a6 e6 = 0 then ckCommand (n1 : Int) (n2 : Int) (n3 : Int) n4 n5 n6 else doneE b a6 e6) := hE
  clear hE
  obtain ⟨g, HG⟩ : ∃ g, Hid ((if E = 0 then (n1, n2, n3, n4, n5, n6) else (0, 0, 0, [], [], [])) = g) := ⟨_, rfl⟩
  rw [HG.out]
  go_enter Try.func132, Try.ntmps132
  go_wp2_with fail
  rw [HW0.out]
  refine (newR_any W0 hv0 hb).mono ?_
  rintro r w1 ⟨R, rfl, h1⟩
  go_wp2_with fail
  have h1' : Rr W0 w1.drew R b 0 0 := h1.mono ⟨rfl, rfl, rfl, Nat.le_refl _, fun _ _ => rfl⟩
  go_region_held3 (fun _ => True) (trivial)
    (first | (go_at_call 67; refine (rrI (by assumption) (by assumption)).mono ?_; rintro r w2 ⟨rfl, h2⟩)
           | (go_at_call 135; refine (rrT (by assumption) (by assumption)).mono ?_; rintro r w4 ⟨rfl, h4⟩)
           | (go_at_call 134; refine (wholeSCommand (by assumption) HE).mono ?_; rintro r w5 ⟨z0, z1, z2, z3, z4, z5, rfl, HZ, h5, hB5⟩; have HR5 : Hid (w5.heap[w.heap.size + 1]? = some (.cells #[.int .i64 0, .int .i64 0, .int .i64 0, .string ⟨#[]⟩, .string ⟨#[]⟩, .string ⟨#[]⟩] 45 (0, 0))) := (h5.bel.block _ (by have := HS.out; omega)).trans HR.out; obtain ⟨⟨r0, r1, r2, r3, r4, r5⟩, f0, f1, f2, f3, f4, f5⟩ := cells6 HR5.out))
  go_wp2
  refine bodyPost_ret (results_70 rfl _ _ (w.heap.size + 1) rfl (set6 HR5.out _ _ _ _ _ _)) rfl ?_
  refine ⟨?_, belset6 (HB0.out.trans (h5.bel.mono HB0.out.size)) (by omega) _ _ _ _ _ _⟩
  show Ending.returned (.tuple #[.agg #[.int .i64 z0, .int .i64 z1, .int .i64 z2, .string ⟨z3.toArray⟩, .string ⟨z4.toArray⟩, .string ⟨z5.toArray⟩], .int .i64 (E : Int)]) = _
  rw [HZ.out, ← HG.out]
  by_cases h0 : E = 0
  · simp [h0]
  · simp [h0]

end Go.Proofs.Ytfnnbfgfmbiabab
