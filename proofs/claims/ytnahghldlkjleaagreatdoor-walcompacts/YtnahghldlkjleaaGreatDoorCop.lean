/-
  Compact.
-/
import Derived.Test.YtnahghldlkjleaaGreatDoorCom
namespace Go.Proofs.YtnahghldlkjleaaGreatDoor
open Go.RowKit
set_option linter.unusedVariables false

theorem frozen_of {w : World} {B o : Nat} {cs : Array Value} {t : TypeId} (h : w.heap[B]? = some (.cells cs t (0, 0))) : w.frozen? ⟨B, o, none⟩ = false := by simp [World.frozen?, h]
theorem Wth.under {A A' : Nat → Prop} {w W w2 : World} {wb d : Nat} {X0 X : WS} (h : Wl A w wb d X0) (hB : Below w.heap.size w W) (hA : ∀ i, A' i → A i ∨ w.heap.size ≤ i) (k : Wth A' W w2 wb d X) : Wth A w w2 wb d X := by
  have hO : Out A w w2 := (Out.of_below (X := A) hB).trans k.out (fun i hi hlt => (hA i hi).elim id (fun h => by omega))
  obtain ⟨S, L, b, sv, kk, q⟩ := k.q
  refine ⟨⟨S, L, b, sv, kk, q.wide (fun i hi => ?_) (grew_inn h.inn hO.size) (vr_step h.vr hO)⟩, hO⟩
  have hlt := q.inn i hi
  rcases hi with hi | hi
  · exact (hA i hi).imp id (fun h2 => ⟨h2, hlt⟩)
  · exact .inr ⟨Nat.le_trans hB.size hi.1, hlt⟩
theorem Wl.plus {A : Nat → Prop} {w W : World} {wb d : Nat} {X : WS} (h : Wl A w wb d X) (hB : Below w.heap.size w W) {B : Nat} (h1 : w.heap.size ≤ B) (h2 : B < W.heap.size) : Wl (fun i => A i ∨ i = B) W wb d X := by
  obtain ⟨S, L, b, sv, k, q⟩ := h
  exact ⟨S, L, b, sv, k, (q.below hB).wide (fun i hi => .inl hi) (fun i hi => hi.elim (fun h => Nat.lt_of_lt_of_le (q.inn i h) hB.size) (fun e => by omega)) (fun V hV => q.vr V ((Out.of_below (X := A) hB).trans hV (fun i hi hlt => hi.elim id (fun e => by omega))))⟩

set_option maxRecDepth 100000 in
theorem write_okR {A : Nat → Prop} {w : World} {wb d : Nat} {X X' : WS} (h : Wl A w wb d X) (F : Nat) (caps : Array Value) (hent : ∀ (args : Array Value) (w : World), (callFunc F args).run Tryz.prog w = .ok (.enter F args) w) (B : Nat) (o : Obj) (hBs : B < w.heap.size) (hBw : B ≠ wb)
    (hc : ∀ W, Below w.heap.size w W → Calls Tryz.prog F caps W fun e w' => e = .returned (.tuple #[]) ∧ Wth A W w' wb d X' ∧ w'.heap[B]? = some o) :
    Calls Tryz.prog 48 #[.pointer (some ⟨wb, 0, none⟩), .func (.func F) #[] caps] w fun e w' => e = .returned (.int .i64 0) ∧ Wth A w w' wb d { X' with br := false } ∧ w'.heap[B]? = some o := by
  have hB : Below w.heap.size w (w.alloc (.cells #[.int .i64 0] 45)) := (Below.refl _ w).alloc (Nat.le_refl _) _
  have HF : Hid (Calls Tryz.prog 74 #[.func (.func F) #[] caps] w fun e w' => e = .returned (.int .i64 0) ∧ (∃ v, w'.cell? ⟨wb, 4, none⟩ = some v) ∧ w'.frozen? ⟨wb, 4, none⟩ = false ∧ Hid (Wth A w (w'.setCell ⟨wb, 4, none⟩ (.bool false)) wb d { X' with br := false } ∧ (w'.setCell ⟨wb, 4, none⟩ (.bool false)).heap[B]? = some o)) := by
    refine (face_ok F caps w (fun w' => Wth A w w' wb d X' ∧ w'.heap[B]? = some o) hent ?_).mono ?_
    · refine (hc _ hB).mono ?_
      rintro e w1 ⟨rfl, hT, hO⟩
      have hna : ¬ A w.heap.size := fun ha => by have := h.inn _ ha; omega
      have hx : w1.heap[w.heap.size]? = some (.cells #[.int .i64 0] 45 (0, 0)) := (hT.out.block _ (by simp) hna).trans (heap_alloc_new w _)
      exact ⟨rfl, hx, hT.side h hB (Nat.le_refl _) (by simp) 0 _, (Below.heap_setCell _ _ _ _ (by show _ ≠ _; simp; omega)).trans hO⟩
    · rintro e w' ⟨rfl, hT, hO⟩
      obtain ⟨k1, k2, k3⟩ := hT.q.mark false
      exact ⟨rfl, k1, k2, hT.trans k3, (Below.heap_setCell _ _ _ _ (by exact hBw)).trans hO⟩
  clear h hc hB
  go_enter Tryz.func48, Tryz.ntmps48
  go_wp2_with (go_at_call 74; refine HF.out.mono ?_; rintro e w1 ⟨rfl, ⟨v, k1⟩, k2, HT⟩)
  go_ret
  exact ⟨rfl, HT.out⟩

theorem entC1 (args : Array Value) (w : World) : (callFunc 53 args).run Tryz.prog w = .ok (.enter 53 args) w := by
  simp [callFunc, Tryz.func53, Tryz.f53, mark]
set_option maxRecDepth 100000 in
theorem comp1_any {A : Nat → Prop} {W : World} {wb d B0 B1 B2 : Nat} {X X' : WS} {ix : Int} {r : Nat} (h2A : Wl (fun i => A i ∨ i = B2) W wb d X) (hc : Calls Tryz.prog 54 #[.pointer (some ⟨wb, 0, none⟩), .int .i64 ix] W fun e w' => e = .returned (.int .i64 (r : Int)) ∧ Wth A W w' wb d X')
    (h0 : W.heap[B0]? = some (.cells #[.pointer (some ⟨wb, 0, none⟩)] 31 (0, 0))) (h1 : W.heap[B1]? = some (.cells #[.int .i64 ix] 3 (0, 0))) (h2 : W.heap[B2]? = some (.cells #[.int .i64 0] 3 (0, 0))) (n2 : ¬ A B2) :
    Calls Tryz.prog 53 #[.pointer (some ⟨B0, 0, none⟩), .pointer (some ⟨B1, 0, none⟩), .pointer (some ⟨B2, 0, none⟩)] W fun e w' => e = .returned (.tuple #[]) ∧ Wth (fun i => A i ∨ i = B2) W w' wb d X' ∧ w'.heap[B2]? = some (.cells #[.int .i64 (r : Int)] 3 (0, 0)) := by
  have k0 : W.cell? ⟨B0, 0, none⟩ = some (.pointer (some ⟨wb, 0, none⟩)) := by simp only [World.cell?, h0]; rfl
  have k1 : W.cell? ⟨B1, 0, none⟩ = some (.int .i64 ix) := by simp only [World.cell?, h1]; rfl
  have b2lt := (Array.getElem?_eq_some_iff.1 h2).1
  have HC : Hid (Calls Tryz.prog 54 #[.pointer (some ⟨wb, 0, none⟩), .int .i64 ix] W fun e w' => e = .returned (.int .i64 (r : Int)) ∧ w'.cell? ⟨B2, 0, none⟩ = some (.int .i64 0) ∧ w'.frozen? ⟨B2, 0, none⟩ = false ∧ Hid (Wth (fun i => A i ∨ i = B2) W (w'.setCell ⟨B2, 0, none⟩ (.int .i64 (r : Int))) wb d X' ∧ (w'.setCell ⟨B2, 0, none⟩ (.int .i64 (r : Int))).heap[B2]? = some (.cells #[.int .i64 (r : Int)] 3 (0, 0)))) := by
    refine hc.mono ?_
    rintro e w1 ⟨rfl, hT⟩
    have hx : w1.heap[B2]? = some (.cells #[.int .i64 0] 3 (0, 0)) := (hT.out.block _ b2lt n2).trans h2
    refine ⟨rfl, by simp only [World.cell?, hx]; rfl, by simp [World.frozen?, hx], ?_, by rw [heap_set hx 0]; rfl⟩
    have hO : Out (fun i => A i ∨ i = B2) W (w1.setCell ⟨B2, 0, none⟩ (.int .i64 (r : Int))) := (hT.out.mono (fun i hi => .inl hi)).put (.inr rfl)
    obtain ⟨S, L, b, sv, k, q⟩ := hT.q
    have hn : ∀ i, grew A W w1 i → ¬ i = B2 := by
      rintro i (hi | hi) rfl
      · exact n2 hi
      · omega
    have q2 := q.out (X' := fun i => i = B2) (w' := w1.setCell ⟨B2, 0, none⟩ (.int .i64 (r : Int))) (Out.set rfl) hn (fun V hV => h2A.vr V (hO.trans hV (fun i hi hlt => hi.elim .inl (fun h3 => absurd h3.1 (by omega)))))
    refine ⟨⟨S, L, b, sv, k, q2.wide (fun i hi => ?_) (grew_inn h2A.inn hO.size) (vr_step h2A.vr hO)⟩, hO⟩
    rcases hi with hi | hi
    · exact .inl (.inl hi)
    · exact .inr ⟨hi.1, by rw [size_set]; exact hi.2⟩
  clear h2A hc h0 h1 h2 n2 b2lt
  go_enter Tryz.func53, Tryz.ntmps53
  go_wp2_with (go_at_call 54; refine HC.out.mono ?_; rintro e w1 ⟨rfl, k2, f2, HT⟩)
  go_end0
  exact ⟨rfl, HT.out⟩

set_option maxRecDepth 100000 in
set_option maxHeartbeats 1000000 in
theorem Compact_ok {A : Nat → Prop} {w : World} {wb d : Nat} {X X' : WS} (h : Wl A w wb d X) (hbr : X.br = false) (ix : Int) (h0 : 0 ≤ ix) (h1 : ix ≤ X.J.li) (r : Nat) (hc : ∀ W, Below w.heap.size w W → Calls Tryz.prog 54 #[.pointer (some ⟨wb, 0, none⟩), .int .i64 ix] W fun e w' => e = .returned (.int .i64 (r : Int)) ∧ Wth A W w' wb d X') :
    Calls Tryz.prog 20 #[.pointer (some ⟨wb, 0, none⟩), .int .i64 ix] w fun e w' => e = .returned (.tuple #[.int .i64 (r : Int), .int .i64 0]) ∧ Wth A w w' wb d { X' with br := false } := by
  obtain ⟨W0, hW0⟩ : ∃ W0, (w.alloc (.cells #[.pointer (some ⟨wb, 0, none⟩)] 31)).alloc (.cells #[.int .i64 ix] 3) = W0 := ⟨_, rfl⟩
  have HW : Hid (_ = W0) := hW0
  have hB0 : Below w.heap.size w W0 := by rw [← hW0]; exact ((Below.refl _ w).alloc (Nat.le_refl _) _).alloc (by simp) _
  have hz0 : W0.heap.size = w.heap.size + 2 := by rw [← hW0]; simp
  have hx0 : W0.heap[w.heap.size]? = some (.cells #[.pointer (some ⟨wb, 0, none⟩)] 31 (0, 0)) := by rw [← hW0]; exact (two_new w _ _).1
  have hx1 : W0.heap[w.heap.size + 1]? = some (.cells #[.int .i64 ix] 3 (0, 0)) := by rw [← hW0]; exact (two_new w _ _).2
  have hW1 := h.below hB0
  have HK : Hid (∀ V, Below W0.heap.size W0 V → V.cell? ⟨w.heap.size, 0, none⟩ = some (.pointer (some ⟨wb, 0, none⟩)) ∧ V.cell? ⟨w.heap.size + 1, 0, none⟩ = some (.int .i64 ix)) := fun V hB => by
    have y0 := bel_heap hB hx0
    have y1 := bel_heap hB hx1
    exact ⟨by simp only [World.cell?, y0]; rfl, by simp only [World.cell?, y1]; rfl⟩
  have wlt : wb < w.heap.size := by
    obtain ⟨S, L, b, sv, k, q⟩ := h
    exact (Array.getElem?_eq_some_iff.1 q.hw).1
  obtain ⟨b, w3, w4, HLA⟩ : ∃ b, W0.cell? ⟨wb, 3, none⟩ = some (.pointer (some ⟨b, 0, none⟩)) ∧ W0.cell? ⟨wb, 4, none⟩ = some (.bool false) ∧ Hid (Calls Tryz.prog 52 #[.pointer (some ⟨b, 0, none⟩)] W0 fun e w' => e = .returned (.tuple #[.int .i64 X.J.li, .int .i64 X.J.lt]) ∧ ∃ n, w' = W0.drewN n) := by
    obtain ⟨S, L, b, sv, k, q⟩ := hW1
    refine ⟨b, (cells5w q.hw).1.2.2.2.1, ?_, last_any q.hj⟩
    rw [← hbr]
    exact (cells5w q.hw).1.2.2.2.2
  have HWR : Hid (∀ q, Calls Tryz.prog 48 #[.pointer (some ⟨wb, 0, none⟩), .func (.func 53) #[] #[.pointer (some ⟨w.heap.size, 0, none⟩), .pointer (some ⟨w.heap.size + 1, 0, none⟩), .pointer (some ⟨W0.heap.size, 0, none⟩)]] (((W0.drewN q).alloc (.cells #[.int .i64 0] 3)).setCell ⟨W0.heap.size, 0, none⟩ (.int .i64 0)) fun e w' => e = .returned (.int .i64 0) ∧ w'.cell? ⟨W0.heap.size, 0, none⟩ = some (.int .i64 (r : Int)) ∧ Hid (Wth A w w' wb d { X' with br := false })) := fun q => by
    obtain ⟨W2, hW2⟩ : ∃ W2, ((W0.drewN q).alloc (.cells #[.int .i64 0] 3)).setCell ⟨W0.heap.size, 0, none⟩ (.int .i64 0) = W2 := ⟨_, rfl⟩
    rw [hW2]
    have hB2 : Below W0.heap.size W0 W2 := by rw [← hW2]; exact bel_set' (bel_alloc' (below_drewN (Below.refl _ _) q) _) (Nat.le_refl _)
    have hx2 : W2.heap[W0.heap.size]? = some (.cells #[.int .i64 0] 3 (0, 0)) := by
      have h9 : ((W0.drewN q).alloc (.cells #[.int .i64 0] 3)).heap[W0.heap.size]? = some (.cells #[.int .i64 0] 3 (0, 0)) := heap_alloc_new (W0.drewN q) _
      rw [← hW2, heap_set h9 0]; rfl
    have hBw : Below w.heap.size w W2 := hB0.trans (hB2.mono hB0.size)
    have h2lt := (Array.getElem?_eq_some_iff.1 hx2).1
    have hp := h.plus hBw (B := W0.heap.size) hB0.size h2lt
    have hna : ¬ A W0.heap.size := fun ha => by have := h.inn _ ha; omega
    refine (write_okR (X' := X') hp _ _ entC1 W0.heap.size (.cells #[.int .i64 (r : Int)] 3 (0, 0)) h2lt (by omega) (fun W hBW => ?_)).mono ?_
    · have hBa : Below w.heap.size w W := hBw.trans (hBW.mono hBw.size)
      exact comp1_any (hp.below hBW) (hc W hBa) (bel_heap hBW (bel_heap hB2 hx0)) (bel_heap hBW (bel_heap hB2 hx1)) (bel_heap hBW hx2) hna
    · rintro e w' ⟨rfl, hT, hO⟩
      refine ⟨rfl, by simp only [World.cell?, hO]; rfl, hT.under h hBw ?_⟩
      rintro i (hi | rfl)
      · exact .inl hi
      · exact .inr hB0.size
  have HN : Hid (∀ q, ((W0.drewN q).alloc (.cells #[.int .i64 0] 3)).cell? ⟨W0.heap.size, 0, none⟩ = some (.int .i64 0) ∧ ((W0.drewN q).alloc (.cells #[.int .i64 0] 3)).frozen? ⟨W0.heap.size, 0, none⟩ = false) := fun q => by
    have h9 : ((W0.drewN q).alloc (.cells #[.int .i64 0] 3)).heap[W0.heap.size]? = some (.cells #[.int .i64 0] 3 (0, 0)) := heap_alloc_new (W0.drewN q) _
    exact ⟨by simp only [World.cell?, h9]; rfl, frozen_of h9⟩
  have HK2 : Hid (∀ q, (((W0.drewN q).alloc (.cells #[.int .i64 0] 3)).setCell ⟨W0.heap.size, 0, none⟩ (.int .i64 0)).cell? ⟨w.heap.size, 0, none⟩ = some (.pointer (some ⟨wb, 0, none⟩))) := fun q => (HK.out _ (bel_set' (bel_alloc' (below_drewN (Below.refl _ _) q) _) (Nat.le_refl _))).1
  have hmf : ∀ (fn : Fn) (first cap : Array Value) (w : World), (Instr.makeFunc fn first cap).run Tryz.prog w = .ok (.func fn first cap) w := fun _ _ _ _ => rfl
  have d1 : decide (ix < 0) = false := by simp; omega
  have d2 : decide (ix > X.J.li) = false := by simp; omega
  obtain ⟨c0, c1⟩ := HK.out W0 (Below.refl _ _)
  clear h hbr h0 h1 hc hW0 hB0 hx0 hx1 hW1 wlt hz0
  generalize X.J.li = li at *
  generalize X.J.lt = lt at *
  go_enter Tryz.func20, Tryz.ntmps20
  go_upto_region 1 with fail
  rw [HW.out]
  go_wp2_with (first
    | (go_at_call 52; refine HLA.out.mono ?_; rintro e w1 ⟨rfl, q, rfl⟩; obtain ⟨kn, fn⟩ := HN.out q; have kk := HK2.out q)
    | (go_at_call 48; refine Calls.mono (HWR.out q) ?_; rintro e w2 ⟨rfl, kr, HT⟩)
    | fail)
  go_ret2
  exact ⟨rfl, HT.out⟩

set_option maxRecDepth 100000 in
set_option maxHeartbeats 1000000 in
theorem Compact_err {A : Nat → Prop} {w : World} {wb d : Nat} {X : WS} (h : Wl A w wb d X) (hbr : X.br = false) (ix : Int) (h0 : ix < 0 ∨ X.J.li < ix) :
    Calls Tryz.prog 20 #[.pointer (some ⟨wb, 0, none⟩), .int .i64 ix] w fun e w' => e = .returned (.tuple #[.int .i64 0, .int .i64 1]) ∧ Below w.heap.size w w' := by
  obtain ⟨W0, hW0⟩ : ∃ W0, (w.alloc (.cells #[.pointer (some ⟨wb, 0, none⟩)] 31)).alloc (.cells #[.int .i64 ix] 3) = W0 := ⟨_, rfl⟩
  have HW : Hid (_ = W0) := hW0
  have hB0 : Below w.heap.size w W0 := by rw [← hW0]; exact ((Below.refl _ w).alloc (Nat.le_refl _) _).alloc (by simp) _
  have hx0 : W0.heap[w.heap.size]? = some (.cells #[.pointer (some ⟨wb, 0, none⟩)] 31 (0, 0)) := by rw [← hW0]; exact (two_new w _ _).1
  have hx1 : W0.heap[w.heap.size + 1]? = some (.cells #[.int .i64 ix] 3 (0, 0)) := by rw [← hW0]; exact (two_new w _ _).2
  have hW1 := h.below hB0
  have c0 : W0.cell? ⟨w.heap.size, 0, none⟩ = some (.pointer (some ⟨wb, 0, none⟩)) := by simp only [World.cell?, hx0]; rfl
  have c1 : W0.cell? ⟨w.heap.size + 1, 0, none⟩ = some (.int .i64 ix) := by simp only [World.cell?, hx1]; rfl
  obtain ⟨b, w3, w4, HLA⟩ : ∃ b, W0.cell? ⟨wb, 3, none⟩ = some (.pointer (some ⟨b, 0, none⟩)) ∧ W0.cell? ⟨wb, 4, none⟩ = some (.bool false) ∧ Hid (Calls Tryz.prog 52 #[.pointer (some ⟨b, 0, none⟩)] W0 fun e w' => e = .returned (.tuple #[.int .i64 X.J.li, .int .i64 X.J.lt]) ∧ ∃ n, w' = W0.drewN n) := by
    obtain ⟨S, L, b, sv, k, q⟩ := hW1
    refine ⟨b, (cells5w q.hw).1.2.2.2.1, ?_, last_any q.hj⟩
    rw [← hbr]
    exact (cells5w q.hw).1.2.2.2.2
  have HB : Hid (∀ q, Below w.heap.size w (W0.drewN q)) := fun q => below_drewN hB0 q
  have hd : (decide (ix < 0) = true) ∨ (decide (ix < 0) = false ∧ decide (ix > X.J.li) = true) := by
    by_cases hn : ix < 0
    · exact .inl (by simpa using hn)
    · exact .inr ⟨by simp; omega, by simp; omega⟩
  clear h hbr h0 hW0 hB0 hx0 hx1 hW1
  generalize X.J.li = li at *
  generalize X.J.lt = lt at *
  rcases hd with d1 | ⟨d1, d2⟩
  · go_enter Tryz.func20, Tryz.ntmps20
    go_upto_region 1 with fail
    rw [HW.out]
    go_wp2_with (go_at_call 52; refine HLA.out.mono ?_; rintro e w1 ⟨rfl, q, rfl⟩)
    go_ret2
    exact ⟨rfl, HB.out q⟩
  · go_enter Tryz.func20, Tryz.ntmps20
    go_upto_region 1 with fail
    rw [HW.out]
    go_wp2_with (go_at_call 52; refine HLA.out.mono ?_; rintro e w1 ⟨rfl, q, rfl⟩)
    go_ret2
    exact ⟨rfl, HB.out q⟩
end Go.Proofs.YtnahghldlkjleaaGreatDoor
