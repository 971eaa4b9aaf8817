/-
  does, one kind of operations.
-/
import Derived.Test.YthaoobfldponpaaDm
namespace Go.Proofs.Ythaoobfldponpaa
open Go.RowKit
set_option linter.unusedVariables false

set_option maxRecDepth 100000 in
set_option maxHeartbeats 8000000 in
theorem does0f {N : Nat} {S S' : Nat → Prop} {w : World} {p R q R' : Nat} {la lb : List Int} {va vb : Value} (h : Qp N S S' w p R q R' la lb va vb) (hN : N ≤ w.heap.size) (k n ln : Int) (hf : ¬ la.length < R) :
    Calls Try.prog 11 #[.pointer (some ⟨p, 0, none⟩), .pointer (some ⟨q, 0, none⟩), va, vb, .int .i64 (R : Int), .int .i64 (R' : Int), .agg #[.int .i64 0, .int .i64 n, .int .i64 ln]] w fun e w' => Dn N w p R q R' la lb e w' := by
  have hR := h.qq.p.rm
  have hR' := h.qq.q.rm
  have hla := h.qq.p.len
  have hlb := h.qq.q.len
  obtain ⟨W, HW⟩ : ∃ W, Hid (w.alloc (.cells #[.int .i64 0, .int .i64 n, .int .i64 ln] 28) = W) := ⟨_, rfl⟩
  have HB : Hid (Below w.heap.size w W) := by rw [← HW.out]; exact (Below.refl _ _).alloc (Nat.le_refl _) _
  have HBX : Hid (W.heap[w.heap.size]? = some (.cells #[.int .i64 0, .int .i64 n, .int .i64 ln] 28 (0, 0))) := by rw [← HW.out]; exact heap_alloc_new w _
  have HQ : Hid (Qp N S S' W p R q R' la lb va vb) := h.below HB.out
  have HN : Hid (N ≤ W.heap.size) := Nat.le_trans hN HB.out.size
  have HWN : Hid (N ≤ w.heap.size) := hN
  have HBN : Hid (Below N w W) := HB.out.mono hN
  obtain ⟨aa, ac, rfl, hac1, hac2⟩ := h.ra.shape
  obtain ⟨ba, bc, rfl, hbc1, hbc2⟩ := h.rb.shape
  have hac3 : ac ≤ 9223372036854775807 := by unfold maxLen at hac2; omega
  have hbc3 : bc ≤ 9223372036854775807 := by unfold maxLen at hbc2; omega
  have HCX : Hid (∀ V : World, V.heap[w.heap.size]? = some (.cells #[.int .i64 0, .int .i64 n, .int .i64 ln] 28 (0, 0)) → V.cell? ⟨w.heap.size, 0, none⟩ = some (.int .i64 0) ∧ V.cell? ⟨w.heap.size, 1, none⟩ = some (.int .i64 n)) := fun V hV => by constructor <;> (simp only [World.cell?, hV]; rfl)
  have HKEEP : Hid (∀ {X : Nat → Prop} (V : World), Out X W V → (∀ i, X i → S i ∨ S' i) → V.heap[w.heap.size]? = some (.cells #[.int .i64 0, .int .i64 n, .int .i64 ln] 28 (0, 0))) := fun V hO hX => (hO.block _ (Array.getElem?_eq_some_iff.1 HBX.out).1 (fun e => by
    rcases hX _ e with e | e
    · have := h.qq.p.inn _ e; omega
    · have := h.qq.q.inn _ e; omega)).trans HBX.out
  have HAC : Hid (la.length ≤ ac ∧ ac ≤ maxLen) := ⟨hac1, hac2⟩
  have HBC : Hid (lb.length ≤ bc ∧ bc ≤ maxLen) := ⟨hbc1, hbc2⟩
  clear h hN hac1 hac2 hbc1 hbc2
  have hd1 : decide (la.length < R) = false := by simpa using hf
  have CP := put_any HQ.out.qq.p HN.out n
  rw [hd1] at CP
  have e1 : putL R la n = la := by unfold putL; rw [if_neg hf]
  rw [e1] at CP
  have HCP : Hid (Calls _ _ _ _ _) := CP
  have hlt : R ≤ la.length := by omega
  clear CP e1 hd1 hf
  obtain ⟨x0, x1⟩ := HCX.out W HBX.out
  go_enter Try.func11, Try.ntmps11
  go_wp2_with fail
  rw [HW.out]
  refine HCP.out.mono ?_
  rintro e w2 ⟨rfl, t⟩
  obtain ⟨h1, h2, h3⟩ := HQ.out.one t
  have HB2 : Hid (Below N w w2) := HBN.out.trans (t.bel HN.out)
  have HF : Hid (Qp _ _ _ _ _ _ _ _ _ _ _ _) := ⟨h1, h2.1, h3.1, h2.2, h3.2⟩
  clear t h1 h2 h3 HCP
  go_wp2
  go_ret3
  exact ⟨_, _, _, _, rfl, HF.out, HB2.out⟩

end Go.Proofs.Ythaoobfldponpaa
