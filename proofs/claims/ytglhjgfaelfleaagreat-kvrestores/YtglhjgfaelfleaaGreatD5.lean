/-
  What Do does.
-/
import Derived.Test.YtglhjgfaelfleaaGreatD4
import Derived.Test.YtglhjgfaelfleaaGreatGc
import Derived.Deep.CutRange
namespace Go.Proofs.YtglhjgfaelfleaaGreat
open Go.RowKit

/-- The command's box and the result's cells lie there. -/
structure Fx (w W : World) (o cl sq : Int) (k v d : Bs) : Prop where
  hB : Below w.heap.size w W
  q0 : W.cell? ⟨w.heap.size, 0, none⟩ = some (.int .i64 o)
  q1 : W.cell? ⟨w.heap.size, 1, none⟩ = some (.int .i64 cl)
  q2 : W.cell? ⟨w.heap.size, 2, none⟩ = some (.int .i64 sq)
  q3 : W.cell? ⟨w.heap.size, 3, none⟩ = some (.string ⟨k.toArray⟩)
  q4 : W.cell? ⟨w.heap.size, 4, none⟩ = some (.string ⟨v.toArray⟩)
  q5 : W.cell? ⟨w.heap.size, 5, none⟩ = some (.string ⟨d.toArray⟩)
  r0 : W.cell? ⟨w.heap.size + 1, 0, none⟩ = some (.int .i64 0)
  r1 : W.cell? ⟨w.heap.size + 1, 1, none⟩ = some (.string ⟨[].toArray⟩)
  f0 : W.frozen? ⟨w.heap.size + 1, 0, none⟩ = false
  f1 : W.frozen? ⟨w.heap.size + 1, 1, none⟩ = false
  z0 : w.heap.size + 2 ≤ W.heap.size
theorem bcell {W w1 : World} (hb : Below W.heap.size W w1) : (∀ b o, b < W.heap.size → w1.cell? ⟨b, o, none⟩ = W.cell? ⟨b, o, none⟩) ∧ (∀ b o, b < W.heap.size → w1.frozen? ⟨b, o, none⟩ = W.frozen? ⟨b, o, none⟩) :=
  ⟨fun b o h => hb.cell (p := ⟨b, o, none⟩) h, fun b o h => hb.frozen (p := ⟨b, o, none⟩) h⟩
/-- Two cells of a reply. -/
structure Cel (W : World) (r : Nat) (x y : Value) : Prop where
  lt : r < W.heap.size
  x0 : W.cell? ⟨r, 0, none⟩ = some x
  x1 : W.cell? ⟨r, 1, none⟩ = some y
  y0 : W.frozen? ⟨r, 0, none⟩ = false
  y1 : W.frozen? ⟨r, 1, none⟩ = false
theorem cel_of {W : World} {r : Nat} {x y : Value} (e : W.heap[r]? = some (.cells #[x, y] 40)) : Cel W r x y := by
  refine ⟨(Array.getElem?_eq_some_iff.1 e).1, ?_, ?_, ?_, ?_⟩
  · simp only [World.cell?, e]; rfl
  · simp only [World.cell?, e]; rfl
  · simp [World.frozen?, e]
  · simp [World.frozen?, e]
/-- The operation is done. -/
structure Core (w W2 w3 : World) (b mp ms : Nat) (K : KV) : Prop where
  st : St w3 b mp ms K
  o1 : Out (· = mp) w w3
  o2 : Out (· = mp) W2 w3
/-- The operation is done, and its reply lies somewhere. -/
structure FinC (w W2 wx : World) (D b mp ms : Nat) (K : KV) (rc : Int) (rv : Bs) : Prop where
  hD : W2.heap.size ≤ D
  lD : D < wx.heap.size
  d0 : wx.cell? ⟨D, 0, none⟩ = some (.int .i64 rc)
  d1 : wx.cell? ⟨D, 1, none⟩ = some (.string ⟨rv.toArray⟩)
  st : St wx b mp ms K
  o1 : Out (· = mp) w wx
  o2 : Out (· = mp) W2 wx
def Fin (w W2 wx : World) (v9 : Value) (b mp ms : Nat) (K : KV) (rc : Int) (rv : Bs) : Prop := ∃ D, v9 = .pointer (some ⟨D, 0, none⟩) ∧ FinC w W2 wx D b mp ms K rc rv
theorem fin_set {w W2 w3 : World} {D b mp ms : Nat} {K : KV} {rc : Int} {rv : Bs} {x y : Value} (h : Core w W2 w3 b mp ms K) (hc : Cel w3 D x y) (hD : W2.heap.size ≤ D) (hw : w.heap.size ≤ W2.heap.size) (hL : b < w.heap.size ∧ mp < w.heap.size ∧ ms < w.heap.size) :
    Fin w W2 ((w3.setCell ⟨D, 0, none⟩ (.int .i64 rc)).setCell ⟨D, 1, none⟩ (.string ⟨rv.toArray⟩)) (.pointer (some ⟨D, 0, none⟩)) b mp ms K rc rv :=
  ⟨D, rfl, hD, by rw [size_set, size_set]; exact hc.lt, (setc2 hc.x0 hc.x1).1, (setc2 hc.x0 hc.x1).2, res_st h.st (by omega), res_out h.o1 (by omega), res_out h.o2 hD⟩
theorem fin_new {w W2 w3 : World} {b mp ms : Nat} {K : KV} {rc : Int} {rv : Bs} (h : Core w W2 w3 b mp ms K) :
    Fin w W2 (w3.alloc (.cells #[.int .i64 rc, .string ⟨rv.toArray⟩] 40)) (.pointer (some ⟨w3.heap.size, 0, none⟩)) b mp ms K rc rv :=
  have c := cel_of (heap_alloc_new w3 (.cells #[.int .i64 rc, .string ⟨rv.toArray⟩] 40))
  ⟨_, rfl, h.o2.size, c.lt, c.x0, c.x1, h.st.alloc _, h.o1.alloc _, h.o2.alloc _⟩
theorem endc {W : World} {r : Nat} {u0 u1 x0 x1 : Value} {o : Obj} (hr : r < W.heap.size) (h0 : W.cell? ⟨r, 0, none⟩ = some x0) (h1 : W.cell? ⟨r, 1, none⟩ = some x1) : (((W.setCell ⟨r, 0, none⟩ u0).setCell ⟨r, 1, none⟩ u1).alloc o).cell? ⟨r, 0, none⟩ = some u0 ∧ (((W.setCell ⟨r, 0, none⟩ u0).setCell ⟨r, 1, none⟩ u1).alloc o).cell? ⟨r, 1, none⟩ = some u1 := by
  have e := fun i => ((Below.refl ((W.setCell ⟨r, 0, none⟩ u0).setCell ⟨r, 1, none⟩ u1).heap.size _).alloc (Nat.le_refl _) o).cell (p := ⟨r, i, none⟩) (by simpa using hr)
  rw [e 0, e 1]
  exact setc2 h0 h1
theorem Fx.below {w W W' : World} {o cl sq : Int} {k v d : Bs} (h : Fx w W o cl sq k v d) (hB : Below W.heap.size W W') : Fx w W' o cl sq k v d := by
  have l1 : w.heap.size < W.heap.size := by have := h.z0; omega
  have l2 : w.heap.size + 1 < W.heap.size := by have := h.z0; omega
  exact ⟨h.hB.trans (hB.mono h.hB.size), (hB.cell (p := ⟨_, 0, none⟩) l1).trans h.q0, (hB.cell (p := ⟨_, 1, none⟩) l1).trans h.q1, (hB.cell (p := ⟨_, 2, none⟩) l1).trans h.q2, (hB.cell (p := ⟨_, 3, none⟩) l1).trans h.q3, (hB.cell (p := ⟨_, 4, none⟩) l1).trans h.q4, (hB.cell (p := ⟨_, 5, none⟩) l1).trans h.q5,
    (hB.cell (p := ⟨_, 0, none⟩) l2).trans h.r0, (hB.cell (p := ⟨_, 1, none⟩) l2).trans h.r1, (hB.frozen (p := ⟨_, 0, none⟩) l2).trans h.f0, (hB.frozen (p := ⟨_, 1, none⟩) l2).trans h.f1, Nat.le_trans h.z0 hB.size⟩
/-- The same cells behind what turns one map alone. -/
theorem Fx.turn {w W W' : World} {mp : Nat} {o cl sq : Int} {k v d : Bs} (h : Fx w W o cl sq k v d) (hO : Out (· = mp) W W') (hm : mp < w.heap.size) : (W'.cell? ⟨w.heap.size, 0, none⟩ = some (.int .i64 o) ∧ W'.cell? ⟨w.heap.size, 1, none⟩ = some (.int .i64 cl) ∧ W'.cell? ⟨w.heap.size, 2, none⟩ = some (.int .i64 sq) ∧ W'.cell? ⟨w.heap.size, 3, none⟩ = some (.string ⟨k.toArray⟩) ∧ W'.cell? ⟨w.heap.size, 4, none⟩ = some (.string ⟨v.toArray⟩) ∧ W'.cell? ⟨w.heap.size, 5, none⟩ = some (.string ⟨d.toArray⟩)) ∧
    W'.cell? ⟨w.heap.size + 1, 0, none⟩ = some (.int .i64 0) ∧ W'.cell? ⟨w.heap.size + 1, 1, none⟩ = some (.string ⟨[].toArray⟩) ∧ W'.frozen? ⟨w.heap.size + 1, 0, none⟩ = false ∧ W'.frozen? ⟨w.heap.size + 1, 1, none⟩ = false := by
  have l1 : w.heap.size < W.heap.size := by have := h.z0; omega
  have l2 : w.heap.size + 1 < W.heap.size := by have := h.z0; omega
  have n1 : ¬ w.heap.size = mp := by omega
  have n2 : ¬ w.heap.size + 1 = mp := by omega
  exact ⟨⟨(hO.cell l1 n1).1.trans h.q0, (hO.cell l1 n1).1.trans h.q1, (hO.cell l1 n1).1.trans h.q2, (hO.cell l1 n1).1.trans h.q3, (hO.cell l1 n1).1.trans h.q4, (hO.cell l1 n1).1.trans h.q5⟩, (hO.cell l2 n2).1.trans h.r0, (hO.cell l2 n2).1.trans h.r1, (hO.cell l2 n2).2.trans h.f0, (hO.cell l2 n2).2.trans h.f1⟩

set_option maxRecDepth 100000 in
set_option maxHeartbeats 4000000 in
theorem do_err {w : World} {b mp ms : Nat} {K : KV} (h : St w b mp ms K) (o cl sq : Int) (k v d : Bs) (hck : ckCommand o cl sq k v d ≠ 0) :
    Calls Tryz.prog 14 #[.pointer (some ⟨b, 0, none⟩), .agg #[.int .i64 o, .int .i64 cl, .int .i64 sq, .string ⟨k.toArray⟩, .string ⟨v.toArray⟩, .string ⟨d.toArray⟩]] w fun e w' => e = .returned (.tuple #[.agg #[.int .i64 0, .string ⟨[].toArray⟩], .int .i64 (ckCommand o cl sq k v d : Int)]) ∧ Below w.heap.size w w' := by
  obtain ⟨W0, HW0⟩ : ∃ W0, Hid ((w.alloc (.cells #[.int .i64 o, .int .i64 cl, .int .i64 sq, .string ⟨k.toArray⟩, .string ⟨v.toArray⟩, .string ⟨d.toArray⟩] 44)).alloc (.cells #[.int .i64 0, .string ⟨[].toArray⟩] 40) = W0) := ⟨_, rfl⟩
  have HF0 : Hid (Fx w W0 o cl sq k v d) := by
    obtain ⟨F⟩ := fr_mk h o cl sq k v d
    rw [HW0.out] at F
    exact ⟨F.hB, F.q0, F.q1, F.q2, F.q3, F.q4, F.q5, F.r0, F.r1, F.f0, F.f1, by have := F.z0; omega⟩
  have HS : Hid (∀ W, Below w.heap.size w W → St W b mp ms K) := fun W hB => h.below hB
  have HL : Hid (b < w.heap.size ∧ mp < w.heap.size ∧ ms < w.heap.size) := h.lt
  have HO : Hid (K.Ok) := h.ok
  obtain ⟨-, q0, q1, q2, q3, q4, q5, r0, r1, f0, f1, z0⟩ := HF0.out
  have hb := h.lt.1
  obtain ⟨E, HE⟩ : ∃ E, Hid (ckCommand o cl sq k v d = E) := ⟨_, rfl⟩
  have CK : ∀ W, Calls Tryz.prog 37 _ W _ := fun W => ckCommand_any o cl sq k v d W
  rw [HE.out] at CK
  have hne : ((E : Int) != 0) = true := by have := HE.out ▸ hck; simp; omega
  rw [HE.out]
  clear hck h
  go_enter Tryz.func14, Tryz.ntmps14
  go_upto_region 1 with fail
  rw [HW0.out]
  go_wp2_with (go_at_call 37; refine (CK _).mono ?_; rintro e w1 ⟨rfl, hB1⟩; have HF1 : Hid (Fx w w1 o cl sq k v d) := HF0.out.below hB1; obtain ⟨-, q0, q1, q2, q3, q4, q5, r0, r1, f0, f1, z0⟩ := HF1.out; have HB1 : Hid _ := hB1; clear hB1 CK)
  refine bodyPost_ret (v := .tuple #[.agg #[.int .i64 0, .string ⟨[].toArray⟩], .int .i64 E]) (by simp [results, Tryz.results14, go_sem, r0, r1]) rfl ⟨rfl, ?_⟩
  exact Below.set' (Below.set' HF1.out.hB (by omega)) (by omega)

set_option maxRecDepth 100000 in
set_option maxHeartbeats 4000000 in
theorem do_set {w : World} {b mp ms : Nat} {K : KV} (h : St w b mp ms K) (o cl sq : Int) (k v d : Bs) (hck : ckCommand o cl sq k v d = 0) (hcl : 0 ≤ cl ∧ cl ≤ 4611686018427387904) {rc : Int} {rv : Bs} (hse : settled K.ss cl sq = some ⟨rc, rv⟩) :
    Calls Tryz.prog 14 #[.pointer (some ⟨b, 0, none⟩), .agg #[.int .i64 o, .int .i64 cl, .int .i64 sq, .string ⟨k.toArray⟩, .string ⟨v.toArray⟩, .string ⟨d.toArray⟩]] w fun e w' => e = .returned (.tuple #[.agg #[.int .i64 rc, .string ⟨rv.toArray⟩], .int .i64 (ckCommand o cl sq k v d : Int)]) ∧ Below w.heap.size w w' := by
  obtain ⟨W0, HW0⟩ : ∃ W0, Hid ((w.alloc (.cells #[.int .i64 o, .int .i64 cl, .int .i64 sq, .string ⟨k.toArray⟩, .string ⟨v.toArray⟩, .string ⟨d.toArray⟩] 44)).alloc (.cells #[.int .i64 0, .string ⟨[].toArray⟩] 40) = W0) := ⟨_, rfl⟩
  have HF0 : Hid (Fx w W0 o cl sq k v d) := by
    obtain ⟨F⟩ := fr_mk h o cl sq k v d
    rw [HW0.out] at F
    exact ⟨F.hB, F.q0, F.q1, F.q2, F.q3, F.q4, F.q5, F.r0, F.r1, F.f0, F.f1, by have := F.z0; omega⟩
  have HS : Hid (∀ W, Below w.heap.size w W → St W b mp ms K) := fun W hB => h.below hB
  have HL : Hid (b < w.heap.size ∧ mp < w.heap.size ∧ ms < w.heap.size) := h.lt
  have HO : Hid (K.Ok) := h.ok
  obtain ⟨-, q0, q1, q2, q3, q4, q5, r0, r1, f0, f1, z0⟩ := HF0.out
  have hb := h.lt.1
  obtain ⟨E, HE⟩ : ∃ E, Hid (ckCommand o cl sq k v d = E) := ⟨_, rfl⟩
  have CK : ∀ W, Calls Tryz.prog 37 _ W _ := fun W => ckCommand_any o cl sq k v d W
  rw [HE.out] at CK
  obtain rfl : E = 0 := by rw [← HE.out]; exact hck
  rw [HE.out]
  have CS : Hid (∀ W, Below w.heap.size w W → Calls Tryz.prog 38 #[.pointer (some ⟨b, 0, none⟩), .int .i64 cl, .int .i64 sq] W fun e w' => e = .returned (.tuple #[.agg #[.int .i64 rc, .string ⟨rv.toArray⟩], .bool true]) ∧ Below W.heap.size W w') := fun W hB => by
    have := settled_any (h.below hB) cl sq hcl
    rw [hse] at this
    exact this
  clear hck h hse
  go_enter Tryz.func14, Tryz.ntmps14
  go_upto_region 1 with fail
  rw [HW0.out]
  go_wp2_with (first | (go_at_call 37; refine (CK _).mono ?_; rintro e w1 ⟨rfl, hB1⟩; have HF1 : Hid (Fx w w1 o cl sq k v d) := HF0.out.below hB1; obtain ⟨-, q0, q1, q2, q3, q4, q5, r0, r1, f0, f1, z0⟩ := HF1.out; have HB1 : Hid _ := hB1; clear hB1 CK) | (go_at_call 38; refine (CS.out _ HF1.out.hB).mono ?_; rintro e w2 ⟨rfl, hB2⟩; have HF2 : Hid (Fx w w2 o cl sq k v d) := HF1.out.below hB2; obtain ⟨-, q0, q1, q2, q3, q4, q5, r0, r1, f0, f1, z0⟩ := HF2.out; have HB2 : Hid _ := hB2; clear hB2; have l1 : w.heap.size < w2.heap.size := (by omega); have l2 : w.heap.size + 1 < w2.heap.size := (by omega)))
  refine bodyPost_ret (v := .tuple #[.agg #[.int .i64 rc, .string ⟨rv.toArray⟩], .int .i64 0]) (by have e := fun oo => endc (o := oo) (u0 := .int .i64 rc) (u1 := .string ⟨rv.toArray⟩) l2 r0 r1; simp [results, Tryz.results14, go_sem, e]) rfl ⟨rfl, ?_⟩
  (repeat (first | (with_reducible refine Below.set' ?_ (by omega)) | (with_reducible refine Below.alloc' ?_ _))); exact HF2.out.hB
end Go.Proofs.YtglhjgfaelfleaaGreat
