/-
  What put, remove and swap do.
-/
import Derived.Test.YtglhjgfaelfleaaGreatD2
import Derived.RegionTactic
import Derived.ChangeAlike
import Derived.Deep.CutRange
namespace Go.Proofs.YtglhjgfaelfleaaGreat
open Go.RowKit

theorem Below.drewN' {N : Nat} {w w' : World} (h : Below N w w') (n : Nat) : Below N w (w'.drewN n) := ⟨h.os, h.tape, h.output, h.size, h.block⟩
theorem Below.drew' {N : Nat} {w w' : World} (h : Below N w w') : Below N w w'.drew := ⟨h.os, h.tape, h.output, h.size, h.block⟩
theorem Below.set' {N : Nat} {w w' : World} {b o : Nat} {u : Value} (h : Below N w w') (hb : N ≤ b) : Below N w (w'.setCell ⟨b, o, none⟩ u) := h.setCell (p := ⟨b, o, none⟩) hb u
theorem Below.alloc' {w w' : World} (h : Below w.heap.size w w') (o : Obj) : Below w.heap.size w (w'.alloc o) := h.alloc h.size o
theorem Out.cell {X : Nat → Prop} {W W' : World} (hO : Out X W W') {r o : Nat} (hr : r < W.heap.size) (hx : ¬ X r) : W'.cell? ⟨r, o, none⟩ = W.cell? ⟨r, o, none⟩ ∧ W'.frozen? ⟨r, o, none⟩ = W.frozen? ⟨r, o, none⟩ := by
  have e := hO.block r hr hx
  simp only [World.cell?, World.frozen?, e, and_self]
theorem newc0 (w : World) (x y : Value) : (w.alloc (.cells #[x, y] 74)).cell? ⟨w.heap.size, 0, none⟩ = some x := by simp [go_sem]
theorem newc1 (w : World) (x y : Value) : (w.alloc (.cells #[x, y] 74)).cell? ⟨w.heap.size, 1, none⟩ = some y := by simp [go_sem]
theorem newf (w : World) (x y : Value) (i : Nat) : (w.alloc (.cells #[x, y] 74)).frozen? ⟨w.heap.size, i, none⟩ = false := by simp [go_sem]
theorem setc2 {W : World} {r : Nat} {u0 u1 x0 x1 : Value} (h0 : W.cell? ⟨r, 0, none⟩ = some x0) (h1 : W.cell? ⟨r, 1, none⟩ = some x1) : ((W.setCell ⟨r, 0, none⟩ u0).setCell ⟨r, 1, none⟩ u1).cell? ⟨r, 0, none⟩ = some u0 ∧ ((W.setCell ⟨r, 0, none⟩ u0).setCell ⟨r, 1, none⟩ u1).cell? ⟨r, 1, none⟩ = some u1 := by
  constructor <;> simp [go_sem, h0, h1]
theorem res_st {W : World} {b mp ms r : Nat} {K : KV} {u0 u1 : Value} (h : St W b mp ms K) (hr : b ≠ r ∧ mp ≠ r ∧ ms ≠ r) : St ((W.setCell ⟨r, 0, none⟩ u0).setCell ⟨r, 1, none⟩ u1) b mp ms K :=
  h.out (X := fun i => i = r) ((Out.set (X := fun i => i = r) rfl).put rfl) hr.1 hr.2.1 hr.2.2
theorem res_out {X : Nat → Prop} {w W' : World} {r : Nat} {u0 u1 : Value} (hO : Out X w W') (hr : w.heap.size ≤ r) : Out X w ((W'.setCell ⟨r, 0, none⟩ u0).setCell ⟨r, 1, none⟩ u1) :=
  hO.trans (Y := fun i => i = r) ((Out.set (X := fun i => i = r) rfl).put rfl) (fun i hi hl => by omega)
/-- The command's box and the result's cells are laid. -/
structure FrC (w W : World) (o cl sq : Int) (k v d : Bs) : Prop where
  hB : Below w.heap.size w W
  q0 : W.cell? ⟨w.heap.size, 0, none⟩ = some (.int .i64 o)
  q1 : W.cell? ⟨w.heap.size, 1, none⟩ = some (.int .i64 cl)
  q2 : W.cell? ⟨w.heap.size, 2, none⟩ = some (.int .i64 sq)
  q3 : W.cell? ⟨w.heap.size, 3, none⟩ = some (.string ⟨k.toArray⟩)
  q4 : W.cell? ⟨w.heap.size, 4, none⟩ = some (.string ⟨v.toArray⟩)
  q5 : W.cell? ⟨w.heap.size, 5, none⟩ = some (.string ⟨d.toArray⟩)
  r0 : W.cell? ⟨w.heap.size + 1, 0, none⟩ = some (.int .i64 0)
  r1 : W.cell? ⟨w.heap.size + 1, 1, none⟩ = some (.string ⟨[].toArray⟩)
  f0 : W.frozen? ⟨w.heap.size + 1, 0, none⟩ = false
  f1 : W.frozen? ⟨w.heap.size + 1, 1, none⟩ = false
  z0 : W.heap.size = w.heap.size + 2
inductive Fr (w W : World) (b mp ms : Nat) (K : KV) (o cl sq : Int) (k v d : Bs) : Prop
  | mk (F : FrC w W o cl sq k v d) : Fr w W b mp ms K o cl sq k v d
theorem fr_mk {w : World} {b mp ms : Nat} {K : KV} (_h : St w b mp ms K) (o cl sq : Int) (k v d : Bs) : Fr w ((w.alloc (.cells #[.int .i64 o, .int .i64 cl, .int .i64 sq, .string ⟨k.toArray⟩, .string ⟨v.toArray⟩, .string ⟨d.toArray⟩] 44)).alloc (.cells #[.int .i64 0, .string ⟨[].toArray⟩] 40)) b mp ms K o cl sq k v d := by
  refine ⟨⟨Below.alloc' (Below.alloc' (Below.refl _ w) _) _, ?_, ?_, ?_, ?_, ?_, ?_, ?_, ?_, ?_, ?_, by simp⟩⟩ <;> simp [go_sem]

set_option maxRecDepth 100000 in
set_option maxHeartbeats 2000000 in
theorem put_full {w : World} {b mp ms : Nat} {K : KV} (h : St w b mp ms K) (o cl sq : Int) (k v d : Bs) (hk : k.length ≤ 1099511627776) (hq : lookP k K.ps = none) (h128 : 128 ≤ K.ps.length) :
    Calls Tryz.prog 67 #[.pointer (some ⟨b, 0, none⟩), .agg #[.int .i64 o, .int .i64 cl, .int .i64 sq, .string ⟨k.toArray⟩, .string ⟨v.toArray⟩, .string ⟨d.toArray⟩]] w fun e w' => e = .returned (.agg #[.int .i64 5, .string ⟨[].toArray⟩]) ∧ Below w.heap.size w w' := by
  obtain ⟨W0, HW0⟩ : ∃ W0, Hid ((w.alloc (.cells #[.int .i64 o, .int .i64 cl, .int .i64 sq, .string ⟨k.toArray⟩, .string ⟨v.toArray⟩, .string ⟨d.toArray⟩] 44)).alloc (.cells #[.int .i64 0, .string ⟨[].toArray⟩] 40) = W0) := ⟨_, rfl⟩
  obtain ⟨F⟩ : Fr w W0 b mp ms K o cl sq k v d := by rw [← HW0.out]; exact fr_mk h o cl sq k v d
  obtain ⟨hB0, q0, q1, q2, q3, q4, q5, r0, r1, f0, f1, z0⟩ := F
  have hS0 := h.below hB0
  obtain ⟨c0, c1⟩ := hS0.cells
  have hl : (Instr.lookup 71 (.map (some mp)) (.string ⟨k.toArray⟩) true).run Tryz.prog W0.drew = _ := (hS0.drewN 1).lookP k hk
  have hl3 : ∀ o3, (Instr.lookup 71 (.map (some mp)) (.string ⟨k.toArray⟩) true).run Tryz.prog (W0.alloc o3).drew = _ := fun o3 => ((hS0.alloc o3).drewN 1).lookP k hk
  rw [hq] at hl hl3
  simp only [pvOf, Option.isSome] at hl hl3
  have l0 : b < W0.heap.size := hS0.lt.1
  have n0 : ∀ x y, ((W0.drewN 1).alloc (.cells #[x, y] 74)).cell? ⟨W0.heap.size, 0, none⟩ = some x := fun x y => newc0 (W0.drewN 1) x y
  have n1 : ∀ x y, ((W0.drewN 1).alloc (.cells #[x, y] 74)).cell? ⟨W0.heap.size, 1, none⟩ = some y := fun x y => newc1 (W0.drewN 1) x y
  have n2 : ∀ x y i, ((W0.drewN 1).alloc (.cells #[x, y] 74)).frozen? ⟨W0.heap.size, i, none⟩ = false := fun x y i => newf (W0.drewN 1) x y i
  have l1 : w.heap.size < W0.heap.size := by omega
  have l2 : w.heap.size + 1 < W0.heap.size := by omega
  have HS0 : Hid (St W0 b mp ms K) := hS0
  have HB0 : Hid (Below w.heap.size w W0) := hB0
  have HL : Hid (b < w.heap.size ∧ mp < w.heap.size ∧ ms < w.heap.size) := h.lt
  have HZ : Hid (W0.heap.size = w.heap.size + 2) := z0
  clear hS0 hB0 z0 h hq
  have h128' : (128 : Int) ≤ (K.ps.length : Int) := by omega
  go_enter Tryz.func67, Tryz.ntmps67
  go_upto_region 1 with fail
  rw [HW0.out]
  go_cut [5, 6] from 8 to 16 (fun v5 v6 wx => v6 = .bool false ∧ (∃ D, v5 = .pointer (some ⟨D, 0, none⟩) ∧ wx.cell? ⟨D, 0, none⟩ = some (.string ⟨[].toArray⟩) ∧ wx.cell? ⟨D, 1, none⟩ = some (.string ⟨[].toArray⟩)) ∧ Below W0.heap.size W0 wx)
  case first =>
    go_wp2
    go_region
    all_goals go_wp2_with fail
    all_goals go_meet
    all_goals
      refine ⟨rfl, ⟨_, rfl, ?_, ?_⟩, ?_⟩
      · first | (simp [go_sem]; done) | exact (setc2 (n0 _ _) (n1 _ _)).1
      · first | (simp [go_sem]; done) | exact (setc2 (n0 _ _) (n1 _ _)).2
      (repeat (first | (with_reducible refine Below.set' ?_ (by omega)) | (with_reducible refine Below.alloc' ?_ _) | (with_reducible refine Below.drewN' ?_ _) | (with_reducible refine Below.drew' ?_))); exact Below.refl _ _
  case rest =>
    obtain ⟨rfl, ⟨D, rfl, d0, d1⟩, hBc⟩ := hcut
    generalize wc = W1 at *
    have hS1 := HS0.out.below hBc
    have hB1 : Below w.heap.size w W1 := HB0.out.trans (hBc.mono HB0.out.size)
    have q0 := (hBc.cell (p := ⟨w.heap.size, 0, none⟩) l1).trans q0
    have q3 := (hBc.cell (p := ⟨w.heap.size, 3, none⟩) l1).trans q3
    have q4 := (hBc.cell (p := ⟨w.heap.size, 4, none⟩) l1).trans q4
    have q5 := (hBc.cell (p := ⟨w.heap.size, 5, none⟩) l1).trans q5
    have r0 := (hBc.cell (p := ⟨w.heap.size + 1, 0, none⟩) l2).trans r0
    have r1 := (hBc.cell (p := ⟨w.heap.size + 1, 1, none⟩) l2).trans r1
    have f0 := (hBc.frozen (p := ⟨w.heap.size + 1, 0, none⟩) l2).trans f0
    have f1 := (hBc.frozen (p := ⟨w.heap.size + 1, 1, none⟩) l2).trans f1
    have hln := fun ty => hS1.lenP ty
    obtain ⟨c0, c1⟩ := hS1.cells
    have l3 : w.heap.size + 1 < W1.heap.size := Nat.lt_of_lt_of_le l2 hBc.size
    have HS1 : Hid (St W1 b mp ms K) := hS1
    have HB1 : Hid (Below w.heap.size w W1) := hB1
    clear hS1 hB1 hBc hl hl3
    go_wp2
    refine bodyPost_ret (v := .agg #[.int .i64 5, .string ⟨[].toArray⟩]) (by simp [results, Tryz.results67, go_sem, r0, r1]) rfl ⟨rfl, ?_⟩
    exact Below.set' (Below.set' HB1.out (by omega)) (by omega)

set_option maxRecDepth 100000 in
set_option maxHeartbeats 2000000 in
theorem put_new {w : World} {b mp ms : Nat} {K : KV} (h : St w b mp ms K) (o cl sq : Int) (k v d : Bs) (hk : k.length ≤ 1099511627776) (hq : lookP k K.ps = none) (h128 : K.ps.length < 128) (hok : KV.Ok { K with ps := putK kP (k, v) K.ps }) :
    Calls Tryz.prog 67 #[.pointer (some ⟨b, 0, none⟩), .agg #[.int .i64 o, .int .i64 cl, .int .i64 sq, .string ⟨k.toArray⟩, .string ⟨v.toArray⟩, .string ⟨d.toArray⟩]] w fun e w' => e = .returned (.agg #[.int .i64 1, .string ⟨[].toArray⟩]) ∧ St w' b mp ms { K with ps := putK kP (k, v) K.ps } ∧ Out (· = mp) w w' := by
  obtain ⟨W0, HW0⟩ : ∃ W0, Hid ((w.alloc (.cells #[.int .i64 o, .int .i64 cl, .int .i64 sq, .string ⟨k.toArray⟩, .string ⟨v.toArray⟩, .string ⟨d.toArray⟩] 44)).alloc (.cells #[.int .i64 0, .string ⟨[].toArray⟩] 40) = W0) := ⟨_, rfl⟩
  obtain ⟨F⟩ : Fr w W0 b mp ms K o cl sq k v d := by rw [← HW0.out]; exact fr_mk h o cl sq k v d
  obtain ⟨hB0, q0, q1, q2, q3, q4, q5, r0, r1, f0, f1, z0⟩ := F
  have hS0 := h.below hB0
  obtain ⟨c0, c1⟩ := hS0.cells
  have hl : (Instr.lookup 71 (.map (some mp)) (.string ⟨k.toArray⟩) true).run Tryz.prog W0.drew = _ := (hS0.drewN 1).lookP k hk
  have hl3 : ∀ o3, (Instr.lookup 71 (.map (some mp)) (.string ⟨k.toArray⟩) true).run Tryz.prog (W0.alloc o3).drew = _ := fun o3 => ((hS0.alloc o3).drewN 1).lookP k hk
  rw [hq] at hl hl3
  simp only [pvOf, Option.isSome] at hl hl3
  have l0 : b < W0.heap.size := hS0.lt.1
  have n0 : ∀ x y, ((W0.drewN 1).alloc (.cells #[x, y] 74)).cell? ⟨W0.heap.size, 0, none⟩ = some x := fun x y => newc0 (W0.drewN 1) x y
  have n1 : ∀ x y, ((W0.drewN 1).alloc (.cells #[x, y] 74)).cell? ⟨W0.heap.size, 1, none⟩ = some y := fun x y => newc1 (W0.drewN 1) x y
  have n2 : ∀ x y i, ((W0.drewN 1).alloc (.cells #[x, y] 74)).frozen? ⟨W0.heap.size, i, none⟩ = false := fun x y i => newf (W0.drewN 1) x y i
  have l1 : w.heap.size < W0.heap.size := by omega
  have l2 : w.heap.size + 1 < W0.heap.size := by omega
  have HS0 : Hid (St W0 b mp ms K) := hS0
  have HB0 : Hid (Below w.heap.size w W0) := hB0
  have HL : Hid (b < w.heap.size ∧ mp < w.heap.size ∧ ms < w.heap.size) := h.lt
  have HZ : Hid (W0.heap.size = w.heap.size + 2) := z0
  clear hS0 hB0 z0 h hq
  have HOK : Hid (KV.Ok { K with ps := putK kP (k, v) K.ps }) := hok
  have HM : Hid (¬ w.heap.size + 1 = mp) := by have := HL.out; show ¬ _; omega
  clear hok
  have h128' : decide ((128 : Int) ≤ (K.ps.length : Int)) = false := by simp; omega
  go_enter Tryz.func67, Tryz.ntmps67
  go_upto_region 1 with fail
  rw [HW0.out]
  go_cut [5, 6] from 8 to 16 (fun v5 v6 wx => v6 = .bool false ∧ (∃ D, v5 = .pointer (some ⟨D, 0, none⟩) ∧ wx.cell? ⟨D, 0, none⟩ = some (.string ⟨[].toArray⟩) ∧ wx.cell? ⟨D, 1, none⟩ = some (.string ⟨[].toArray⟩)) ∧ Below W0.heap.size W0 wx)
  case first =>
    go_wp2
    go_region
    all_goals go_wp2_with fail
    all_goals go_meet
    all_goals
      refine ⟨rfl, ⟨_, rfl, ?_, ?_⟩, ?_⟩
      · first | (simp [go_sem]; done) | exact (setc2 (n0 _ _) (n1 _ _)).1
      · first | (simp [go_sem]; done) | exact (setc2 (n0 _ _) (n1 _ _)).2
      (repeat (first | (with_reducible refine Below.set' ?_ (by omega)) | (with_reducible refine Below.alloc' ?_ _) | (with_reducible refine Below.drewN' ?_ _) | (with_reducible refine Below.drew' ?_))); exact Below.refl _ _
  case rest =>
    obtain ⟨rfl, ⟨D, rfl, d0, d1⟩, hBc⟩ := hcut
    generalize wc = W1 at *
    have hS1 := HS0.out.below hBc
    have hB1 : Below w.heap.size w W1 := HB0.out.trans (hBc.mono HB0.out.size)
    have q0 := (hBc.cell (p := ⟨w.heap.size, 0, none⟩) l1).trans q0
    have q3 := (hBc.cell (p := ⟨w.heap.size, 3, none⟩) l1).trans q3
    have q4 := (hBc.cell (p := ⟨w.heap.size, 4, none⟩) l1).trans q4
    have q5 := (hBc.cell (p := ⟨w.heap.size, 5, none⟩) l1).trans q5
    have r0 := (hBc.cell (p := ⟨w.heap.size + 1, 0, none⟩) l2).trans r0
    have r1 := (hBc.cell (p := ⟨w.heap.size + 1, 1, none⟩) l2).trans r1
    have f0 := (hBc.frozen (p := ⟨w.heap.size + 1, 0, none⟩) l2).trans f0
    have f1 := (hBc.frozen (p := ⟨w.heap.size + 1, 1, none⟩) l2).trans f1
    have hln := fun ty => hS1.lenP ty
    obtain ⟨c0, c1⟩ := hS1.cells
    have l3 : w.heap.size + 1 < W1.heap.size := Nat.lt_of_lt_of_le l2 hBc.size
    have HS1 : Hid (St W1 b mp ms K) := hS1
    have HB1 : Hid (Below w.heap.size w W1) := hB1
    clear hS1 hB1 hBc hl hl3
    go_wp2_with (go_at_call 46; refine (set_any HS1.out k v hk HOK.out).mono ?_; rintro r w2 ⟨rfl, h2, hO2⟩; obtain ⟨m0, n0⟩ := hO2.cell (r := w.heap.size + 1) (o := 0) l3 HM.out; obtain ⟨m1, n1⟩ := hO2.cell (r := w.heap.size + 1) (o := 1) l3 HM.out; rw [r0] at m0; rw [r1] at m1; rw [f0] at n0; rw [f1] at n1; have H2 : Hid _ := h2; have HO2 : Hid _ := hO2; clear h2 hO2 q0 q3 q4 q5 r0 r1 f0 f1)
    refine bodyPost_ret (v := .agg #[.int .i64 1, .string ⟨[].toArray⟩]) (by simp [results, Tryz.results67, go_sem, m0, m1]) rfl ⟨rfl, ?_, ?_⟩
    · exact res_st H2.out (by have := HL.out; omega)
    · exact res_out ((Out.of_below (X := (· = mp)) HB1.out).trans HO2.out (fun _ hi _ => hi)) (by omega)

set_option maxRecDepth 100000 in
set_option maxHeartbeats 2000000 in
theorem put_old {w : World} {b mp ms : Nat} {K : KV} (h : St w b mp ms K) (o cl sq : Int) (k v d : Bs) (hk : k.length ≤ 1099511627776) {p1 p2 : Bs} (hq : lookP k K.ps = some (p1, p2)) (hok : KV.Ok { K with ps := putK kP (k, v) K.ps }) :
    Calls Tryz.prog 67 #[.pointer (some ⟨b, 0, none⟩), .agg #[.int .i64 o, .int .i64 cl, .int .i64 sq, .string ⟨k.toArray⟩, .string ⟨v.toArray⟩, .string ⟨d.toArray⟩]] w fun e w' => e = .returned (.agg #[.int .i64 1, .string ⟨[].toArray⟩]) ∧ St w' b mp ms { K with ps := putK kP (k, v) K.ps } ∧ Out (· = mp) w w' := by
  obtain ⟨W0, HW0⟩ : ∃ W0, Hid ((w.alloc (.cells #[.int .i64 o, .int .i64 cl, .int .i64 sq, .string ⟨k.toArray⟩, .string ⟨v.toArray⟩, .string ⟨d.toArray⟩] 44)).alloc (.cells #[.int .i64 0, .string ⟨[].toArray⟩] 40) = W0) := ⟨_, rfl⟩
  obtain ⟨F⟩ : Fr w W0 b mp ms K o cl sq k v d := by rw [← HW0.out]; exact fr_mk h o cl sq k v d
  obtain ⟨hB0, q0, q1, q2, q3, q4, q5, r0, r1, f0, f1, z0⟩ := F
  have hS0 := h.below hB0
  obtain ⟨c0, c1⟩ := hS0.cells
  have hl : (Instr.lookup 71 (.map (some mp)) (.string ⟨k.toArray⟩) true).run Tryz.prog W0.drew = _ := (hS0.drewN 1).lookP k hk
  have hl3 : ∀ o3, (Instr.lookup 71 (.map (some mp)) (.string ⟨k.toArray⟩) true).run Tryz.prog (W0.alloc o3).drew = _ := fun o3 => ((hS0.alloc o3).drewN 1).lookP k hk
  rw [hq] at hl hl3
  simp only [pvOf, Option.isSome] at hl hl3
  have l0 : b < W0.heap.size := hS0.lt.1
  have n0 : ∀ x y, ((W0.drewN 1).alloc (.cells #[x, y] 74)).cell? ⟨W0.heap.size, 0, none⟩ = some x := fun x y => newc0 (W0.drewN 1) x y
  have n1 : ∀ x y, ((W0.drewN 1).alloc (.cells #[x, y] 74)).cell? ⟨W0.heap.size, 1, none⟩ = some y := fun x y => newc1 (W0.drewN 1) x y
  have n2 : ∀ x y i, ((W0.drewN 1).alloc (.cells #[x, y] 74)).frozen? ⟨W0.heap.size, i, none⟩ = false := fun x y i => newf (W0.drewN 1) x y i
  have l1 : w.heap.size < W0.heap.size := by omega
  have l2 : w.heap.size + 1 < W0.heap.size := by omega
  have HS0 : Hid (St W0 b mp ms K) := hS0
  have HB0 : Hid (Below w.heap.size w W0) := hB0
  have HL : Hid (b < w.heap.size ∧ mp < w.heap.size ∧ ms < w.heap.size) := h.lt
  have HZ : Hid (W0.heap.size = w.heap.size + 2) := z0
  clear hS0 hB0 z0 h hq
  have HOK : Hid (KV.Ok { K with ps := putK kP (k, v) K.ps }) := hok
  have HM : Hid (¬ w.heap.size + 1 = mp) := by have := HL.out; show ¬ _; omega
  clear hok
  go_enter Tryz.func67, Tryz.ntmps67
  go_upto_region 1 with fail
  rw [HW0.out]
  go_cut [5, 6] from 8 to 16 (fun v5 v6 wx => v6 = .bool true ∧ (∃ D, v5 = .pointer (some ⟨D, 0, none⟩) ∧ wx.cell? ⟨D, 0, none⟩ = some (.string ⟨p1.toArray⟩) ∧ wx.cell? ⟨D, 1, none⟩ = some (.string ⟨p2.toArray⟩)) ∧ Below W0.heap.size W0 wx)
  case first =>
    go_wp2
    go_region
    all_goals go_wp2_with fail
    all_goals go_meet
    all_goals
      refine ⟨rfl, ⟨_, rfl, ?_, ?_⟩, ?_⟩
      · first | (simp [go_sem]; done) | exact (setc2 (n0 _ _) (n1 _ _)).1
      · first | (simp [go_sem]; done) | exact (setc2 (n0 _ _) (n1 _ _)).2
      (repeat (first | (with_reducible refine Below.set' ?_ (by omega)) | (with_reducible refine Below.alloc' ?_ _) | (with_reducible refine Below.drewN' ?_ _) | (with_reducible refine Below.drew' ?_))); exact Below.refl _ _
  case rest =>
    obtain ⟨rfl, ⟨D, rfl, d0, d1⟩, hBc⟩ := hcut
    generalize wc = W1 at *
    have hS1 := HS0.out.below hBc
    have hB1 : Below w.heap.size w W1 := HB0.out.trans (hBc.mono HB0.out.size)
    have q0 := (hBc.cell (p := ⟨w.heap.size, 0, none⟩) l1).trans q0
    have q3 := (hBc.cell (p := ⟨w.heap.size, 3, none⟩) l1).trans q3
    have q4 := (hBc.cell (p := ⟨w.heap.size, 4, none⟩) l1).trans q4
    have q5 := (hBc.cell (p := ⟨w.heap.size, 5, none⟩) l1).trans q5
    have r0 := (hBc.cell (p := ⟨w.heap.size + 1, 0, none⟩) l2).trans r0
    have r1 := (hBc.cell (p := ⟨w.heap.size + 1, 1, none⟩) l2).trans r1
    have f0 := (hBc.frozen (p := ⟨w.heap.size + 1, 0, none⟩) l2).trans f0
    have f1 := (hBc.frozen (p := ⟨w.heap.size + 1, 1, none⟩) l2).trans f1
    have hln := fun ty => hS1.lenP ty
    obtain ⟨c0, c1⟩ := hS1.cells
    have l3 : w.heap.size + 1 < W1.heap.size := Nat.lt_of_lt_of_le l2 hBc.size
    have HS1 : Hid (St W1 b mp ms K) := hS1
    have HB1 : Hid (Below w.heap.size w W1) := hB1
    clear hS1 hB1 hBc hl hl3
    go_wp2_with (go_at_call 46; refine (set_any HS1.out k v hk HOK.out).mono ?_; rintro r w2 ⟨rfl, h2, hO2⟩; obtain ⟨m0, n0⟩ := hO2.cell (r := w.heap.size + 1) (o := 0) l3 HM.out; obtain ⟨m1, n1⟩ := hO2.cell (r := w.heap.size + 1) (o := 1) l3 HM.out; rw [r0] at m0; rw [r1] at m1; rw [f0] at n0; rw [f1] at n1; have H2 : Hid _ := h2; have HO2 : Hid _ := hO2; clear h2 hO2 q0 q3 q4 q5 r0 r1 f0 f1)
    refine bodyPost_ret (v := .agg #[.int .i64 1, .string ⟨[].toArray⟩]) (by simp [results, Tryz.results67, go_sem, m0, m1]) rfl ⟨rfl, ?_, ?_⟩
    · exact res_st H2.out (by have := HL.out; omega)
    · exact res_out ((Out.of_below (X := (· = mp)) HB1.out).trans HO2.out (fun _ hi _ => hi)) (by omega)

set_option maxRecDepth 100000 in
set_option maxHeartbeats 2000000 in
theorem swap_none {w : World} {b mp ms : Nat} {K : KV} (h : St w b mp ms K) (o cl sq : Int) (k v d : Bs) (hk : k.length ≤ 1099511627776) (hq : lookP k K.ps = none) :
    Calls Tryz.prog 69 #[.pointer (some ⟨b, 0, none⟩), .agg #[.int .i64 o, .int .i64 cl, .int .i64 sq, .string ⟨k.toArray⟩, .string ⟨v.toArray⟩, .string ⟨d.toArray⟩]] w fun e w' => e = .returned (.agg #[.int .i64 2, .string ⟨[].toArray⟩]) ∧ Below w.heap.size w w' := by
  obtain ⟨W0, HW0⟩ : ∃ W0, Hid ((w.alloc (.cells #[.int .i64 o, .int .i64 cl, .int .i64 sq, .string ⟨k.toArray⟩, .string ⟨v.toArray⟩, .string ⟨d.toArray⟩] 44)).alloc (.cells #[.int .i64 0, .string ⟨[].toArray⟩] 40) = W0) := ⟨_, rfl⟩
  obtain ⟨F⟩ : Fr w W0 b mp ms K o cl sq k v d := by rw [← HW0.out]; exact fr_mk h o cl sq k v d
  obtain ⟨hB0, q0, q1, q2, q3, q4, q5, r0, r1, f0, f1, z0⟩ := F
  have hS0 := h.below hB0
  obtain ⟨c0, c1⟩ := hS0.cells
  have hl : (Instr.lookup 71 (.map (some mp)) (.string ⟨k.toArray⟩) true).run Tryz.prog W0.drew = _ := (hS0.drewN 1).lookP k hk
  have hl3 : ∀ o3, (Instr.lookup 71 (.map (some mp)) (.string ⟨k.toArray⟩) true).run Tryz.prog (W0.alloc o3).drew = _ := fun o3 => ((hS0.alloc o3).drewN 1).lookP k hk
  rw [hq] at hl hl3
  simp only [pvOf, Option.isSome] at hl hl3
  have l0 : b < W0.heap.size := hS0.lt.1
  have n0 : ∀ x y, ((W0.drewN 1).alloc (.cells #[x, y] 74)).cell? ⟨W0.heap.size, 0, none⟩ = some x := fun x y => newc0 (W0.drewN 1) x y
  have n1 : ∀ x y, ((W0.drewN 1).alloc (.cells #[x, y] 74)).cell? ⟨W0.heap.size, 1, none⟩ = some y := fun x y => newc1 (W0.drewN 1) x y
  have n2 : ∀ x y i, ((W0.drewN 1).alloc (.cells #[x, y] 74)).frozen? ⟨W0.heap.size, i, none⟩ = false := fun x y i => newf (W0.drewN 1) x y i
  have l1 : w.heap.size < W0.heap.size := by omega
  have l2 : w.heap.size + 1 < W0.heap.size := by omega
  have HS0 : Hid (St W0 b mp ms K) := hS0
  have HB0 : Hid (Below w.heap.size w W0) := hB0
  have HL : Hid (b < w.heap.size ∧ mp < w.heap.size ∧ ms < w.heap.size) := h.lt
  have HZ : Hid (W0.heap.size = w.heap.size + 2) := z0
  clear hS0 hB0 z0 h hq
  go_enter Tryz.func69, Tryz.ntmps69
  go_upto_region 1 with fail
  rw [HW0.out]
  go_cut [5, 6] from 8 to 16 (fun v5 v6 wx => v6 = .bool false ∧ (∃ D, v5 = .pointer (some ⟨D, 0, none⟩) ∧ wx.cell? ⟨D, 0, none⟩ = some (.string ⟨[].toArray⟩) ∧ wx.cell? ⟨D, 1, none⟩ = some (.string ⟨[].toArray⟩)) ∧ Below W0.heap.size W0 wx)
  case first =>
    go_wp2
    go_region
    all_goals go_wp2_with fail
    all_goals go_meet
    all_goals
      refine ⟨rfl, ⟨_, rfl, ?_, ?_⟩, ?_⟩
      · first | (simp [go_sem]; done) | exact (setc2 (n0 _ _) (n1 _ _)).1
      · first | (simp [go_sem]; done) | exact (setc2 (n0 _ _) (n1 _ _)).2
      (repeat (first | (with_reducible refine Below.set' ?_ (by omega)) | (with_reducible refine Below.alloc' ?_ _) | (with_reducible refine Below.drewN' ?_ _) | (with_reducible refine Below.drew' ?_))); exact Below.refl _ _
  case rest =>
    obtain ⟨rfl, ⟨D, rfl, d0, d1⟩, hBc⟩ := hcut
    generalize wc = W1 at *
    have hS1 := HS0.out.below hBc
    have hB1 : Below w.heap.size w W1 := HB0.out.trans (hBc.mono HB0.out.size)
    have q0 := (hBc.cell (p := ⟨w.heap.size, 0, none⟩) l1).trans q0
    have q3 := (hBc.cell (p := ⟨w.heap.size, 3, none⟩) l1).trans q3
    have q4 := (hBc.cell (p := ⟨w.heap.size, 4, none⟩) l1).trans q4
    have q5 := (hBc.cell (p := ⟨w.heap.size, 5, none⟩) l1).trans q5
    have r0 := (hBc.cell (p := ⟨w.heap.size + 1, 0, none⟩) l2).trans r0
    have r1 := (hBc.cell (p := ⟨w.heap.size + 1, 1, none⟩) l2).trans r1
    have f0 := (hBc.frozen (p := ⟨w.heap.size + 1, 0, none⟩) l2).trans f0
    have f1 := (hBc.frozen (p := ⟨w.heap.size + 1, 1, none⟩) l2).trans f1
    have hln := fun ty => hS1.lenP ty
    obtain ⟨c0, c1⟩ := hS1.cells
    have l3 : w.heap.size + 1 < W1.heap.size := Nat.lt_of_lt_of_le l2 hBc.size
    have HS1 : Hid (St W1 b mp ms K) := hS1
    have HB1 : Hid (Below w.heap.size w W1) := hB1
    clear hS1 hB1 hBc hl hl3
    go_wp2
    refine bodyPost_ret (v := .agg #[.int .i64 2, .string ⟨[].toArray⟩]) (by simp [results, Tryz.results69, go_sem, r0, r1]) rfl ⟨rfl, ?_⟩
    exact Below.set' (Below.set' HB1.out (by omega)) (by omega)

set_option maxRecDepth 100000 in
set_option maxHeartbeats 2000000 in
theorem swap_other {w : World} {b mp ms : Nat} {K : KV} (h : St w b mp ms K) (o cl sq : Int) (k v d : Bs) (hk : k.length ≤ 1099511627776) {p1 p2 : Bs} (hq : lookP k K.ps = some (p1, p2)) (hne : p2 ≠ d) :
    Calls Tryz.prog 69 #[.pointer (some ⟨b, 0, none⟩), .agg #[.int .i64 o, .int .i64 cl, .int .i64 sq, .string ⟨k.toArray⟩, .string ⟨v.toArray⟩, .string ⟨d.toArray⟩]] w fun e w' => e = .returned (.agg #[.int .i64 3, .string ⟨p2.toArray⟩]) ∧ Below w.heap.size w w' := by
  obtain ⟨W0, HW0⟩ : ∃ W0, Hid ((w.alloc (.cells #[.int .i64 o, .int .i64 cl, .int .i64 sq, .string ⟨k.toArray⟩, .string ⟨v.toArray⟩, .string ⟨d.toArray⟩] 44)).alloc (.cells #[.int .i64 0, .string ⟨[].toArray⟩] 40) = W0) := ⟨_, rfl⟩
  obtain ⟨F⟩ : Fr w W0 b mp ms K o cl sq k v d := by rw [← HW0.out]; exact fr_mk h o cl sq k v d
  obtain ⟨hB0, q0, q1, q2, q3, q4, q5, r0, r1, f0, f1, z0⟩ := F
  have hS0 := h.below hB0
  obtain ⟨c0, c1⟩ := hS0.cells
  have hl : (Instr.lookup 71 (.map (some mp)) (.string ⟨k.toArray⟩) true).run Tryz.prog W0.drew = _ := (hS0.drewN 1).lookP k hk
  have hl3 : ∀ o3, (Instr.lookup 71 (.map (some mp)) (.string ⟨k.toArray⟩) true).run Tryz.prog (W0.alloc o3).drew = _ := fun o3 => ((hS0.alloc o3).drewN 1).lookP k hk
  rw [hq] at hl hl3
  simp only [pvOf, Option.isSome] at hl hl3
  have l0 : b < W0.heap.size := hS0.lt.1
  have n0 : ∀ x y, ((W0.drewN 1).alloc (.cells #[x, y] 74)).cell? ⟨W0.heap.size, 0, none⟩ = some x := fun x y => newc0 (W0.drewN 1) x y
  have n1 : ∀ x y, ((W0.drewN 1).alloc (.cells #[x, y] 74)).cell? ⟨W0.heap.size, 1, none⟩ = some y := fun x y => newc1 (W0.drewN 1) x y
  have n2 : ∀ x y i, ((W0.drewN 1).alloc (.cells #[x, y] 74)).frozen? ⟨W0.heap.size, i, none⟩ = false := fun x y i => newf (W0.drewN 1) x y i
  have l1 : w.heap.size < W0.heap.size := by omega
  have l2 : w.heap.size + 1 < W0.heap.size := by omega
  have HS0 : Hid (St W0 b mp ms K) := hS0
  have HB0 : Hid (Below w.heap.size w W0) := hB0
  have HL : Hid (b < w.heap.size ∧ mp < w.heap.size ∧ ms < w.heap.size) := h.lt
  have HZ : Hid (W0.heap.size = w.heap.size + 2) := z0
  clear hS0 hB0 z0 h hq
  have hne' : (p2 == d) = false := by simpa using hne
  go_enter Tryz.func69, Tryz.ntmps69
  go_upto_region 1 with fail
  rw [HW0.out]
  go_cut [5, 6] from 8 to 16 (fun v5 v6 wx => v6 = .bool true ∧ (∃ D, v5 = .pointer (some ⟨D, 0, none⟩) ∧ wx.cell? ⟨D, 0, none⟩ = some (.string ⟨p1.toArray⟩) ∧ wx.cell? ⟨D, 1, none⟩ = some (.string ⟨p2.toArray⟩)) ∧ Below W0.heap.size W0 wx)
  case first =>
    go_wp2
    go_region
    all_goals go_wp2_with fail
    all_goals go_meet
    all_goals
      refine ⟨rfl, ⟨_, rfl, ?_, ?_⟩, ?_⟩
      · first | (simp [go_sem]; done) | exact (setc2 (n0 _ _) (n1 _ _)).1
      · first | (simp [go_sem]; done) | exact (setc2 (n0 _ _) (n1 _ _)).2
      (repeat (first | (with_reducible refine Below.set' ?_ (by omega)) | (with_reducible refine Below.alloc' ?_ _) | (with_reducible refine Below.drewN' ?_ _) | (with_reducible refine Below.drew' ?_))); exact Below.refl _ _
  case rest =>
    obtain ⟨rfl, ⟨D, rfl, d0, d1⟩, hBc⟩ := hcut
    generalize wc = W1 at *
    have hS1 := HS0.out.below hBc
    have hB1 : Below w.heap.size w W1 := HB0.out.trans (hBc.mono HB0.out.size)
    have q0 := (hBc.cell (p := ⟨w.heap.size, 0, none⟩) l1).trans q0
    have q3 := (hBc.cell (p := ⟨w.heap.size, 3, none⟩) l1).trans q3
    have q4 := (hBc.cell (p := ⟨w.heap.size, 4, none⟩) l1).trans q4
    have q5 := (hBc.cell (p := ⟨w.heap.size, 5, none⟩) l1).trans q5
    have r0 := (hBc.cell (p := ⟨w.heap.size + 1, 0, none⟩) l2).trans r0
    have r1 := (hBc.cell (p := ⟨w.heap.size + 1, 1, none⟩) l2).trans r1
    have f0 := (hBc.frozen (p := ⟨w.heap.size + 1, 0, none⟩) l2).trans f0
    have f1 := (hBc.frozen (p := ⟨w.heap.size + 1, 1, none⟩) l2).trans f1
    have hln := fun ty => hS1.lenP ty
    obtain ⟨c0, c1⟩ := hS1.cells
    have l3 : w.heap.size + 1 < W1.heap.size := Nat.lt_of_lt_of_le l2 hBc.size
    have HS1 : Hid (St W1 b mp ms K) := hS1
    have HB1 : Hid (Below w.heap.size w W1) := hB1
    clear hS1 hB1 hBc hl hl3
    go_wp2
    refine bodyPost_ret (v := .agg #[.int .i64 3, .string ⟨p2.toArray⟩]) (by simp [results, Tryz.results69, go_sem, r0, r1]) rfl ⟨rfl, ?_⟩
    exact Below.set' (Below.set' HB1.out (by omega)) (by omega)

set_option maxRecDepth 100000 in
set_option maxHeartbeats 2000000 in
theorem swap_same {w : World} {b mp ms : Nat} {K : KV} (h : St w b mp ms K) (o cl sq : Int) (k v d : Bs) (hk : k.length ≤ 1099511627776) {p1 : Bs} (hq : lookP k K.ps = some (p1, d)) (hok : KV.Ok { K with ps := putK kP (k, v) K.ps }) :
    Calls Tryz.prog 69 #[.pointer (some ⟨b, 0, none⟩), .agg #[.int .i64 o, .int .i64 cl, .int .i64 sq, .string ⟨k.toArray⟩, .string ⟨v.toArray⟩, .string ⟨d.toArray⟩]] w fun e w' => e = .returned (.agg #[.int .i64 1, .string ⟨[].toArray⟩]) ∧ St w' b mp ms { K with ps := putK kP (k, v) K.ps } ∧ Out (· = mp) w w' := by
  obtain ⟨W0, HW0⟩ : ∃ W0, Hid ((w.alloc (.cells #[.int .i64 o, .int .i64 cl, .int .i64 sq, .string ⟨k.toArray⟩, .string ⟨v.toArray⟩, .string ⟨d.toArray⟩] 44)).alloc (.cells #[.int .i64 0, .string ⟨[].toArray⟩] 40) = W0) := ⟨_, rfl⟩
  obtain ⟨F⟩ : Fr w W0 b mp ms K o cl sq k v d := by rw [← HW0.out]; exact fr_mk h o cl sq k v d
  obtain ⟨hB0, q0, q1, q2, q3, q4, q5, r0, r1, f0, f1, z0⟩ := F
  have hS0 := h.below hB0
  obtain ⟨c0, c1⟩ := hS0.cells
  have hl : (Instr.lookup 71 (.map (some mp)) (.string ⟨k.toArray⟩) true).run Tryz.prog W0.drew = _ := (hS0.drewN 1).lookP k hk
  have hl3 : ∀ o3, (Instr.lookup 71 (.map (some mp)) (.string ⟨k.toArray⟩) true).run Tryz.prog (W0.alloc o3).drew = _ := fun o3 => ((hS0.alloc o3).drewN 1).lookP k hk
  rw [hq] at hl hl3
  simp only [pvOf, Option.isSome] at hl hl3
  have l0 : b < W0.heap.size := hS0.lt.1
  have n0 : ∀ x y, ((W0.drewN 1).alloc (.cells #[x, y] 74)).cell? ⟨W0.heap.size, 0, none⟩ = some x := fun x y => newc0 (W0.drewN 1) x y
  have n1 : ∀ x y, ((W0.drewN 1).alloc (.cells #[x, y] 74)).cell? ⟨W0.heap.size, 1, none⟩ = some y := fun x y => newc1 (W0.drewN 1) x y
  have n2 : ∀ x y i, ((W0.drewN 1).alloc (.cells #[x, y] 74)).frozen? ⟨W0.heap.size, i, none⟩ = false := fun x y i => newf (W0.drewN 1) x y i
  have l1 : w.heap.size < W0.heap.size := by omega
  have l2 : w.heap.size + 1 < W0.heap.size := by omega
  have HS0 : Hid (St W0 b mp ms K) := hS0
  have HB0 : Hid (Below w.heap.size w W0) := hB0
  have HL : Hid (b < w.heap.size ∧ mp < w.heap.size ∧ ms < w.heap.size) := h.lt
  have HZ : Hid (W0.heap.size = w.heap.size + 2) := z0
  clear hS0 hB0 z0 h hq
  have HOK : Hid (KV.Ok { K with ps := putK kP (k, v) K.ps }) := hok
  have HM : Hid (¬ w.heap.size + 1 = mp) := by have := HL.out; show ¬ _; omega
  clear hok
  go_enter Tryz.func69, Tryz.ntmps69
  go_upto_region 1 with fail
  rw [HW0.out]
  go_cut [5, 6] from 8 to 16 (fun v5 v6 wx => v6 = .bool true ∧ (∃ D, v5 = .pointer (some ⟨D, 0, none⟩) ∧ wx.cell? ⟨D, 0, none⟩ = some (.string ⟨p1.toArray⟩) ∧ wx.cell? ⟨D, 1, none⟩ = some (.string ⟨d.toArray⟩)) ∧ Below W0.heap.size W0 wx)
  case first =>
    go_wp2
    go_region
    all_goals go_wp2_with fail
    all_goals go_meet
    all_goals
      refine ⟨rfl, ⟨_, rfl, ?_, ?_⟩, ?_⟩
      · first | (simp [go_sem]; done) | exact (setc2 (n0 _ _) (n1 _ _)).1
      · first | (simp [go_sem]; done) | exact (setc2 (n0 _ _) (n1 _ _)).2
      (repeat (first | (with_reducible refine Below.set' ?_ (by omega)) | (with_reducible refine Below.alloc' ?_ _) | (with_reducible refine Below.drewN' ?_ _) | (with_reducible refine Below.drew' ?_))); exact Below.refl _ _
  case rest =>
    obtain ⟨rfl, ⟨D, rfl, d0, d1⟩, hBc⟩ := hcut
    generalize wc = W1 at *
    have hS1 := HS0.out.below hBc
    have hB1 : Below w.heap.size w W1 := HB0.out.trans (hBc.mono HB0.out.size)
    have q0 := (hBc.cell (p := ⟨w.heap.size, 0, none⟩) l1).trans q0
    have q3 := (hBc.cell (p := ⟨w.heap.size, 3, none⟩) l1).trans q3
    have q4 := (hBc.cell (p := ⟨w.heap.size, 4, none⟩) l1).trans q4
    have q5 := (hBc.cell (p := ⟨w.heap.size, 5, none⟩) l1).trans q5
    have r0 := (hBc.cell (p := ⟨w.heap.size + 1, 0, none⟩) l2).trans r0
    have r1 := (hBc.cell (p := ⟨w.heap.size + 1, 1, none⟩) l2).trans r1
    have f0 := (hBc.frozen (p := ⟨w.heap.size + 1, 0, none⟩) l2).trans f0
    have f1 := (hBc.frozen (p := ⟨w.heap.size + 1, 1, none⟩) l2).trans f1
    have hln := fun ty => hS1.lenP ty
    obtain ⟨c0, c1⟩ := hS1.cells
    have l3 : w.heap.size + 1 < W1.heap.size := Nat.lt_of_lt_of_le l2 hBc.size
    have HS1 : Hid (St W1 b mp ms K) := hS1
    have HB1 : Hid (Below w.heap.size w W1) := hB1
    clear hS1 hB1 hBc hl hl3
    go_wp2_with (go_at_call 46; refine (set_any HS1.out k v hk HOK.out).mono ?_; rintro r w2 ⟨rfl, h2, hO2⟩; obtain ⟨m0, n0⟩ := hO2.cell (r := w.heap.size + 1) (o := 0) l3 HM.out; obtain ⟨m1, n1⟩ := hO2.cell (r := w.heap.size + 1) (o := 1) l3 HM.out; rw [r0] at m0; rw [r1] at m1; rw [f0] at n0; rw [f1] at n1; have H2 : Hid _ := h2; have HO2 : Hid _ := hO2; clear h2 hO2 q0 q3 q4 q5 r0 r1 f0 f1)
    refine bodyPost_ret (v := .agg #[.int .i64 1, .string ⟨[].toArray⟩]) (by simp [results, Tryz.results69, go_sem, m0, m1]) rfl ⟨rfl, ?_, ?_⟩
    · exact res_st H2.out (by have := HL.out; omega)
    · exact res_out ((Out.of_below (X := (· = mp)) HB1.out).trans HO2.out (fun _ hi _ => hi)) (by omega)

set_option maxRecDepth 100000 in
set_option maxHeartbeats 2000000 in
theorem remove_none {w : World} {b mp ms : Nat} {K : KV} (h : St w b mp ms K) (o cl sq : Int) (k v d : Bs) (hk : k.length ≤ 1099511627776) (hq : lookP k K.ps = none) :
    Calls Tryz.prog 68 #[.pointer (some ⟨b, 0, none⟩), .agg #[.int .i64 o, .int .i64 cl, .int .i64 sq, .string ⟨k.toArray⟩, .string ⟨v.toArray⟩, .string ⟨d.toArray⟩]] w fun e w' => e = .returned (.agg #[.int .i64 2, .string ⟨[].toArray⟩]) ∧ Below w.heap.size w w' := by
  obtain ⟨W0, HW0⟩ : ∃ W0, Hid ((w.alloc (.cells #[.int .i64 o, .int .i64 cl, .int .i64 sq, .string ⟨k.toArray⟩, .string ⟨v.toArray⟩, .string ⟨d.toArray⟩] 44)).alloc (.cells #[.int .i64 0, .string ⟨[].toArray⟩] 40) = W0) := ⟨_, rfl⟩
  obtain ⟨F⟩ : Fr w W0 b mp ms K o cl sq k v d := by rw [← HW0.out]; exact fr_mk h o cl sq k v d
  obtain ⟨hB0, q0, q1, q2, q3, q4, q5, r0, r1, f0, f1, z0⟩ := F
  have hS0 := h.below hB0
  obtain ⟨c0, c1⟩ := hS0.cells
  have hl : (Instr.lookup 71 (.map (some mp)) (.string ⟨k.toArray⟩) true).run Tryz.prog W0.drew = _ := (hS0.drewN 1).lookP k hk
  have hl3 : ∀ o3, (Instr.lookup 71 (.map (some mp)) (.string ⟨k.toArray⟩) true).run Tryz.prog (W0.alloc o3).drew = _ := fun o3 => ((hS0.alloc o3).drewN 1).lookP k hk
  rw [hq] at hl hl3
  simp only [pvOf, Option.isSome] at hl hl3
  have l0 : b < W0.heap.size := hS0.lt.1
  have n0 : ∀ x y, ((W0.drewN 1).alloc (.cells #[x, y] 74)).cell? ⟨W0.heap.size, 0, none⟩ = some x := fun x y => newc0 (W0.drewN 1) x y
  have n1 : ∀ x y, ((W0.drewN 1).alloc (.cells #[x, y] 74)).cell? ⟨W0.heap.size, 1, none⟩ = some y := fun x y => newc1 (W0.drewN 1) x y
  have n2 : ∀ x y i, ((W0.drewN 1).alloc (.cells #[x, y] 74)).frozen? ⟨W0.heap.size, i, none⟩ = false := fun x y i => newf (W0.drewN 1) x y i
  have l1 : w.heap.size < W0.heap.size := by omega
  have l2 : w.heap.size + 1 < W0.heap.size := by omega
  have HS0 : Hid (St W0 b mp ms K) := hS0
  have HB0 : Hid (Below w.heap.size w W0) := hB0
  have HL : Hid (b < w.heap.size ∧ mp < w.heap.size ∧ ms < w.heap.size) := h.lt
  have HZ : Hid (W0.heap.size = w.heap.size + 2) := z0
  clear hS0 hB0 z0 h hq
  go_enter Tryz.func68, Tryz.ntmps68
  go_upto_region 1 with fail
  rw [HW0.out]
  go_cut [5, 6] from 8 to 16 (fun v5 v6 wx => v6 = .bool false ∧ (∃ D, v5 = .pointer (some ⟨D, 0, none⟩) ∧ wx.cell? ⟨D, 0, none⟩ = some (.string ⟨[].toArray⟩) ∧ wx.cell? ⟨D, 1, none⟩ = some (.string ⟨[].toArray⟩)) ∧ Below W0.heap.size W0 wx)
  case first =>
    go_wp2
    go_region
    all_goals go_wp2_with fail
    all_goals go_meet
    all_goals
      refine ⟨rfl, ⟨_, rfl, ?_, ?_⟩, ?_⟩
      · first | (simp [go_sem]; done) | exact (setc2 (n0 _ _) (n1 _ _)).1
      · first | (simp [go_sem]; done) | exact (setc2 (n0 _ _) (n1 _ _)).2
      (repeat (first | (with_reducible refine Below.set' ?_ (by omega)) | (with_reducible refine Below.alloc' ?_ _) | (with_reducible refine Below.drewN' ?_ _) | (with_reducible refine Below.drew' ?_))); exact Below.refl _ _
  case rest =>
    obtain ⟨rfl, ⟨D, rfl, d0, d1⟩, hBc⟩ := hcut
    generalize wc = W1 at *
    have hS1 := HS0.out.below hBc
    have hB1 : Below w.heap.size w W1 := HB0.out.trans (hBc.mono HB0.out.size)
    have q0 := (hBc.cell (p := ⟨w.heap.size, 0, none⟩) l1).trans q0
    have q3 := (hBc.cell (p := ⟨w.heap.size, 3, none⟩) l1).trans q3
    have q4 := (hBc.cell (p := ⟨w.heap.size, 4, none⟩) l1).trans q4
    have q5 := (hBc.cell (p := ⟨w.heap.size, 5, none⟩) l1).trans q5
    have r0 := (hBc.cell (p := ⟨w.heap.size + 1, 0, none⟩) l2).trans r0
    have r1 := (hBc.cell (p := ⟨w.heap.size + 1, 1, none⟩) l2).trans r1
    have f0 := (hBc.frozen (p := ⟨w.heap.size + 1, 0, none⟩) l2).trans f0
    have f1 := (hBc.frozen (p := ⟨w.heap.size + 1, 1, none⟩) l2).trans f1
    have hln := fun ty => hS1.lenP ty
    obtain ⟨c0, c1⟩ := hS1.cells
    have l3 : w.heap.size + 1 < W1.heap.size := Nat.lt_of_lt_of_le l2 hBc.size
    have HS1 : Hid (St W1 b mp ms K) := hS1
    have HB1 : Hid (Below w.heap.size w W1) := hB1
    clear hS1 hB1 hBc hl hl3
    go_wp2
    refine bodyPost_ret (v := .agg #[.int .i64 2, .string ⟨[].toArray⟩]) (by simp [results, Tryz.results68, go_sem, r0, r1]) rfl ⟨rfl, ?_⟩
    exact Below.set' (Below.set' HB1.out (by omega)) (by omega)

set_option maxRecDepth 100000 in
set_option maxHeartbeats 2000000 in
theorem remove_some {w : World} {b mp ms : Nat} {K : KV} (h : St w b mp ms K) (o cl sq : Int) (k v d : Bs) (hk : k.length ≤ 1099511627776) {p1 p2 : Bs} (hq : lookP k K.ps = some (p1, p2)) (hok : KV.Ok { K with ps := delK kP (.string k) K.ps }) :
    Calls Tryz.prog 68 #[.pointer (some ⟨b, 0, none⟩), .agg #[.int .i64 o, .int .i64 cl, .int .i64 sq, .string ⟨k.toArray⟩, .string ⟨v.toArray⟩, .string ⟨d.toArray⟩]] w fun e w' => e = .returned (.agg #[.int .i64 1, .string ⟨[].toArray⟩]) ∧ St w' b mp ms { K with ps := delK kP (.string k) K.ps } ∧ Out (· = mp) w w' := by
  obtain ⟨W0, HW0⟩ : ∃ W0, Hid ((w.alloc (.cells #[.int .i64 o, .int .i64 cl, .int .i64 sq, .string ⟨k.toArray⟩, .string ⟨v.toArray⟩, .string ⟨d.toArray⟩] 44)).alloc (.cells #[.int .i64 0, .string ⟨[].toArray⟩] 40) = W0) := ⟨_, rfl⟩
  obtain ⟨F⟩ : Fr w W0 b mp ms K o cl sq k v d := by rw [← HW0.out]; exact fr_mk h o cl sq k v d
  obtain ⟨hB0, q0, q1, q2, q3, q4, q5, r0, r1, f0, f1, z0⟩ := F
  have hS0 := h.below hB0
  obtain ⟨c0, c1⟩ := hS0.cells
  have hl : (Instr.lookup 71 (.map (some mp)) (.string ⟨k.toArray⟩) true).run Tryz.prog W0.drew = _ := (hS0.drewN 1).lookP k hk
  have hl3 : ∀ o3, (Instr.lookup 71 (.map (some mp)) (.string ⟨k.toArray⟩) true).run Tryz.prog (W0.alloc o3).drew = _ := fun o3 => ((hS0.alloc o3).drewN 1).lookP k hk
  rw [hq] at hl hl3
  simp only [pvOf, Option.isSome] at hl hl3
  have l0 : b < W0.heap.size := hS0.lt.1
  have n0 : ∀ x y, ((W0.drewN 1).alloc (.cells #[x, y] 74)).cell? ⟨W0.heap.size, 0, none⟩ = some x := fun x y => newc0 (W0.drewN 1) x y
  have n1 : ∀ x y, ((W0.drewN 1).alloc (.cells #[x, y] 74)).cell? ⟨W0.heap.size, 1, none⟩ = some y := fun x y => newc1 (W0.drewN 1) x y
  have n2 : ∀ x y i, ((W0.drewN 1).alloc (.cells #[x, y] 74)).frozen? ⟨W0.heap.size, i, none⟩ = false := fun x y i => newf (W0.drewN 1) x y i
  have l1 : w.heap.size < W0.heap.size := by omega
  have l2 : w.heap.size + 1 < W0.heap.size := by omega
  have HS0 : Hid (St W0 b mp ms K) := hS0
  have HB0 : Hid (Below w.heap.size w W0) := hB0
  have HL : Hid (b < w.heap.size ∧ mp < w.heap.size ∧ ms < w.heap.size) := h.lt
  have HZ : Hid (W0.heap.size = w.heap.size + 2) := z0
  clear hS0 hB0 z0 h hq
  have HOK : Hid (KV.Ok { K with ps := delK kP (.string k) K.ps }) := hok
  have HM : Hid (¬ w.heap.size + 1 = mp) := by have := HL.out; show ¬ _; omega
  clear hok
  go_enter Tryz.func68, Tryz.ntmps68
  go_upto_region 1 with fail
  rw [HW0.out]
  go_cut [5, 6] from 8 to 16 (fun v5 v6 wx => v6 = .bool true ∧ (∃ D, v5 = .pointer (some ⟨D, 0, none⟩) ∧ wx.cell? ⟨D, 0, none⟩ = some (.string ⟨p1.toArray⟩) ∧ wx.cell? ⟨D, 1, none⟩ = some (.string ⟨p2.toArray⟩)) ∧ Below W0.heap.size W0 wx)
  case first =>
    go_wp2
    go_region
    all_goals go_wp2_with fail
    all_goals go_meet
    all_goals
      refine ⟨rfl, ⟨_, rfl, ?_, ?_⟩, ?_⟩
      · first | (simp [go_sem]; done) | exact (setc2 (n0 _ _) (n1 _ _)).1
      · first | (simp [go_sem]; done) | exact (setc2 (n0 _ _) (n1 _ _)).2
      (repeat (first | (with_reducible refine Below.set' ?_ (by omega)) | (with_reducible refine Below.alloc' ?_ _) | (with_reducible refine Below.drewN' ?_ _) | (with_reducible refine Below.drew' ?_))); exact Below.refl _ _
  case rest =>
    obtain ⟨rfl, ⟨D, rfl, d0, d1⟩, hBc⟩ := hcut
    generalize wc = W1 at *
    have hS1 := HS0.out.below hBc
    have hB1 : Below w.heap.size w W1 := HB0.out.trans (hBc.mono HB0.out.size)
    have q0 := (hBc.cell (p := ⟨w.heap.size, 0, none⟩) l1).trans q0
    have q3 := (hBc.cell (p := ⟨w.heap.size, 3, none⟩) l1).trans q3
    have q4 := (hBc.cell (p := ⟨w.heap.size, 4, none⟩) l1).trans q4
    have q5 := (hBc.cell (p := ⟨w.heap.size, 5, none⟩) l1).trans q5
    have r0 := (hBc.cell (p := ⟨w.heap.size + 1, 0, none⟩) l2).trans r0
    have r1 := (hBc.cell (p := ⟨w.heap.size + 1, 1, none⟩) l2).trans r1
    have f0 := (hBc.frozen (p := ⟨w.heap.size + 1, 0, none⟩) l2).trans f0
    have f1 := (hBc.frozen (p := ⟨w.heap.size + 1, 1, none⟩) l2).trans f1
    have hln := fun ty => hS1.lenP ty
    obtain ⟨c0, c1⟩ := hS1.cells
    have l3 : w.heap.size + 1 < W1.heap.size := Nat.lt_of_lt_of_le l2 hBc.size
    have HS1 : Hid (St W1 b mp ms K) := hS1
    have HB1 : Hid (Below w.heap.size w W1) := hB1
    clear hS1 hB1 hBc hl hl3
    obtain ⟨w2, hr2, h2, hO2, -⟩ := (HS1.out.drewN 1).delP k hk 0 HOK.out
    have hr2' : ∀ ty, (Builtin.delete_ #[71, 9] ty #[.map (some mp), .string ⟨k.toArray⟩]).run Tryz.prog W1.drew = .ok (.tuple #[]) w2 := fun ty => hr2
    obtain ⟨m0, n0⟩ := hO2.cell (r := w.heap.size + 1) (o := 0) l3 HM.out
    obtain ⟨m1, n1⟩ := hO2.cell (r := w.heap.size + 1) (o := 1) l3 HM.out
    replace m0 := m0.trans r0
    replace m1 := m1.trans r1
    replace n0 := n0.trans f0
    replace n1 := n1.trans f1
    have H2 : Hid _ := h2
    have HO2 : Hid _ := hO2
    clear h2 hO2 hr2
    go_wp2
    go_region
    all_goals go_wp2
    all_goals
      refine bodyPost_ret (v := .agg #[.int .i64 1, .string ⟨[].toArray⟩]) (by simp [results, Tryz.results68, go_sem, m0, m1]) rfl ⟨rfl, ?_, ?_⟩
      · exact res_st H2.out (by have := HL.out; omega)
      · exact res_out ((Out.of_below (X := (· = mp)) (Below.drewN' HB1.out 1)).trans HO2.out (fun _ hi _ => hi)) (by omega)
end Go.Proofs.YtglhjgfaelfleaaGreat
