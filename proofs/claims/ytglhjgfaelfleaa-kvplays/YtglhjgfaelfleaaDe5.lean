/-
  The document's store: what a command does to the keys.
-/
import Derived.Test.YtglhjgfaelfleaaDe0
namespace Go.Proofs.Ytglhjgfaelfleaa
open Go.RowKit
set_option linter.unusedVariables false

set_option maxRecDepth 100000 in
set_option maxHeartbeats 800000 in
theorem rd_set2 {N : Nat} {W : World} {d : Nat} {vp vs : Value} {K : KV} (h : DS N W d vp vs K) (hN : N ≤ W.heap.size) (op cl sq : Int) (ky vl od : Bs) (hth : atP ky K.ps = true) (hlt : plc ky K.ps < K.ps.length) (h2 : op = 2) (pk pv : Bs) (hp : K.ps[plc ky K.ps] = (pk, pv)) (hpk : pk = ky) :
    Calls Try.prog 30 #[.pointer (some ⟨d, 0, none⟩), .agg #[.int .i64 op, .int .i64 cl, .int .i64 sq, .string ⟨ky.toArray⟩, .string ⟨vl.toArray⟩, .string ⟨od.toArray⟩]] W fun e w' => DoR N W d vp vs K (K.ps.set (plc ky K.ps) (ky, vl), ⟨1, []⟩) e w' := by
  have HCA : Hid (∀ V, Below W.heap.size W V → Calls Try.prog 31 #[.pointer (some ⟨d, 0, none⟩), .string ⟨ky.toArray⟩] V fun e w' => e = .returned (.tuple #[.int .i64 (plc ky K.ps : Int), .bool (atP ky K.ps)]) ∧ Below V.heap.size V w') := fun V hB => at_any (h.below hB) ky
  rw [hth] at HCA
  have HD : Hid (DS N W d vp vs K) := h
  have hfew := h.ok.few
  have hpl := plc_le ky K.ps
  obtain ⟨pa, pc, rfl, -, -⟩ := h.rp.shape
  have HNN : Hid (N ≤ W.heap.size) := hN
  clear h hN hth
  obtain ⟨W1, HW1⟩ : ∃ W1, Hid ((W.alloc (.cells #[.int .i64 op, .int .i64 cl, .int .i64 sq, .string ⟨ky.toArray⟩, .string ⟨vl.toArray⟩, .string ⟨od.toArray⟩] 38)).alloc (.cells #[.int .i64 0, .string ⟨[].toArray⟩] 33) = W1) := ⟨_, rfl⟩
  have HB1 : Hid (Below W.heap.size W W1) := by rw [← HW1.out]; exact Below.alloc' (Below.alloc' (Below.refl _ _) _) _
  have HC1 : Hid (Dc W1 W.heap.size op cl sq ky vl od) := by rw [← HW1.out]; exact Dc.below (heap_alloc_new W _) ((Below.refl _ _).alloc (Nat.le_refl _) _)
  have HX1 : Hid (Rb W1 (W.heap.size + 1) 0 []) := by rw [← HW1.out]; exact box2 W _ _
  subst h2
  subst pk
  have HP : Hid (K.ps[plc ky K.ps] = (ky, pv)) := hp
  clear hp
  generalize plc ky K.ps = k at *
  go_enter Try.func30, Try.ntmps30
  go_wp2_with fail
  rw [HW1.out]
  refine (HCA.out W1 HB1.out).mono ?_
  rintro e W2 ⟨rfl, hB2⟩
  have HB2 : Hid (Below W.heap.size W W2) := HB1.out.trans (hB2.mono HB1.out.size)
  have hb2 : Rb W2 (W.heap.size + 1) 0 [] := HX1.out.below hB2
  have HX2 : Hid (Rb W2 (W.heap.size + 1) 0 []) := hb2
  have HC2 : Hid (Dc W2 W.heap.size _ cl sq ky vl _) := HC1.out.below hB2
  obtain ⟨m0, m1⟩ := hb2.cells
  obtain ⟨f0, f1⟩ := hb2.free
  obtain ⟨a0, a1, a2, a3, a4, a5⟩ := HC2.out.cells
  dsimp only at a0 a1 a2 a3 a4 a5
  have HD2 : Hid (DS N W2 d _ vs _) := HD.out.below HB2.out
  obtain ⟨c0, c1⟩ := HD2.out.cells
  have lr : W.heap.size + 1 < W2.heap.size := (Array.getElem?_eq_some_iff.1 hb2).1
  have ld : d < W2.heap.size := (Array.getElem?_eq_some_iff.1 HD2.out.hd).1
  have lw : W.heap.size < W2.heap.size := by omega
  have hd0 : d < W.heap.size := (Array.getElem?_eq_some_iff.1 HD.out.hd).1
  have hdn : ¬ d = W.heap.size + 1 := by omega
  have hdn' : ¬ W.heap.size + 1 = d := by omega
  clear hB2 HB1 HX1 HW1 HCA hb2 HC1
  obtain ⟨g, cp, hv, -, hgl, hgx, hcell⟩ := HD2.out.rp.at0 (by omega)
  simp only [Value.slice.injEq] at hv
  obtain ⟨hpa, -, -⟩ := hv
  subst hpa
  have x1 := hcell k 1 hlt (by decide)
  rw [HP.out] at x1
  have x1' : W2.cell? ⟨g, k * 2 + 1, none⟩ = some (.string ⟨pv.toArray⟩) := x1
  have hlt' : (k : Int) < (K.ps.length : Int) := by omega
  have hi0 : (0 : Int) ≤ (k : Int) := by omega
  have hfz : W2.frozen? ⟨g, k * 2 + 1, none⟩ = false := by obtain ⟨cur, hcur⟩ := hgx; simp [World.frozen?, hcur]
  have hgd : ¬ g = d := fun e => HD2.out.rp.apart HD2.out.hd (by decide) (by rw [← e]; rfl)
  have hgd' : ¬ d = g := fun e => hgd e.symm
  have hgW : ¬ g = W.heap.size := fun e => HD2.out.rp.apart HC2.out (by decide) (by rw [← e]; rfl)
  have hgW' : ¬ W.heap.size = g := fun e => hgW e.symm
  have hgX : ¬ g = W.heap.size + 1 := fun e => HD2.out.rp.apart HX2.out (by decide) (by rw [← e]; rfl)
  have hgX' : ¬ W.heap.size + 1 = g := fun e => hgX e.symm
  have HSET : Hid (∀ n, Ro RQ N ((W2.drewN n).setCell ⟨g, k * 2 + 1, none⟩ (.string ⟨vl.toArray⟩)) (.slice (some ⟨g, 0, none⟩) K.ps.length pc) (K.ps.set k (ky, vl))) := fun n => Ro.set (R := RQ) (HD2.out.rp.below (Below.drewN' (Below.refl _ _) n) (Nat.le_refl _)) k 1 hlt (by decide) _ _ (by rw [HP.out]; rfl)
  clear hcell x1
  go_wp2_with fail
  go_quiet (fail)
  go_wp2_with fail
  go_region_held3 (fun w' => w'.cell? ⟨d, 0, none⟩ = some (.slice (some ⟨g, 0, none⟩) K.ps.length pc) ∧ w'.cell? ⟨W.heap.size, 4, none⟩ = some (.string ⟨vl.toArray⟩)) (go_keep) (fail)
  have HR3 := HSET.out (nq + 1)
  have hO3 : Out (fun i => (Value.slice (some ⟨g, 0, none⟩) K.ps.length pc).ownBlock = some i) W2 ((W2.drewN (nq + 1)).setCell ⟨g, k * 2 + 1, none⟩ (.string ⟨vl.toArray⟩)) := (Out.of_below (Below.drewN' (Below.refl _ _) _)).trans (Out.set (X := fun i => i = g) rfl) (fun i hi _ => by subst hi; rfl)
  have hX3 : Rb ((W2.drewN (nq + 1)).setCell ⟨g, k * 2 + 1, none⟩ (.string ⟨vl.toArray⟩)) (W.heap.size + 1) 0 [] := (hO3.block _ lr (fun e => hgX (by simpa [Value.ownBlock] using e))).trans HX2.out
  have HR3' : Hid (Ro RQ N _ _ _) := HR3
  have HO3 : Hid (Out _ W2 _) := hO3
  clear m0 m1 f0 f1 HR3 HSET
  obtain ⟨m0, m1⟩ := hX3.cells
  obtain ⟨f0, f1⟩ := hX3.free
  clear hO3 hX3
  generalize (W2.drewN (nq + 1)).setCell ⟨g, k * 2 + 1, none⟩ (.string ⟨vl.toArray⟩) = W3 at *
  go_wp2
  refine bodyPost_ret (v := .agg #[.int .i64 1, .string ⟨[].toArray⟩]) (by simp [results, Try.results30, go_sem, m0, m1]) rfl ?_
  exact DoR.over (r := ⟨1, []⟩) HD2.out hd0 HB2.out HR3'.out HO3.out (Nat.le_succ _) HX2.out

set_option maxRecDepth 100000 in
set_option maxHeartbeats 800000 in
theorem rd_set4 {N : Nat} {W : World} {d : Nat} {vp vs : Value} {K : KV} (h : DS N W d vp vs K) (hN : N ≤ W.heap.size) (op cl sq : Int) (ky vl od : Bs) (hth : atP ky K.ps = true) (hlt : plc ky K.ps < K.ps.length) (h2 : op = 4) (pk pv : Bs) (hp : K.ps[plc ky K.ps] = (pk, pv)) (hpk : pk = ky) (ho : pv = od) :
    Calls Try.prog 30 #[.pointer (some ⟨d, 0, none⟩), .agg #[.int .i64 op, .int .i64 cl, .int .i64 sq, .string ⟨ky.toArray⟩, .string ⟨vl.toArray⟩, .string ⟨od.toArray⟩]] W fun e w' => DoR N W d vp vs K (K.ps.set (plc ky K.ps) (ky, vl), ⟨1, []⟩) e w' := by
  have HCA : Hid (∀ V, Below W.heap.size W V → Calls Try.prog 31 #[.pointer (some ⟨d, 0, none⟩), .string ⟨ky.toArray⟩] V fun e w' => e = .returned (.tuple #[.int .i64 (plc ky K.ps : Int), .bool (atP ky K.ps)]) ∧ Below V.heap.size V w') := fun V hB => at_any (h.below hB) ky
  rw [hth] at HCA
  have HD : Hid (DS N W d vp vs K) := h
  have hfew := h.ok.few
  have hpl := plc_le ky K.ps
  obtain ⟨pa, pc, rfl, -, -⟩ := h.rp.shape
  have HNN : Hid (N ≤ W.heap.size) := hN
  clear h hN hth
  obtain ⟨W1, HW1⟩ : ∃ W1, Hid ((W.alloc (.cells #[.int .i64 op, .int .i64 cl, .int .i64 sq, .string ⟨ky.toArray⟩, .string ⟨vl.toArray⟩, .string ⟨od.toArray⟩] 38)).alloc (.cells #[.int .i64 0, .string ⟨[].toArray⟩] 33) = W1) := ⟨_, rfl⟩
  have HB1 : Hid (Below W.heap.size W W1) := by rw [← HW1.out]; exact Below.alloc' (Below.alloc' (Below.refl _ _) _) _
  have HC1 : Hid (Dc W1 W.heap.size op cl sq ky vl od) := by rw [← HW1.out]; exact Dc.below (heap_alloc_new W _) ((Below.refl _ _).alloc (Nat.le_refl _) _)
  have HX1 : Hid (Rb W1 (W.heap.size + 1) 0 []) := by rw [← HW1.out]; exact box2 W _ _
  subst h2
  subst pk
  have HP : Hid (K.ps[plc ky K.ps] = (ky, pv)) := hp
  clear hp
  generalize plc ky K.ps = k at *
  subst ho
  go_enter Try.func30, Try.ntmps30
  go_wp2_with fail
  rw [HW1.out]
  refine (HCA.out W1 HB1.out).mono ?_
  rintro e W2 ⟨rfl, hB2⟩
  have HB2 : Hid (Below W.heap.size W W2) := HB1.out.trans (hB2.mono HB1.out.size)
  have hb2 : Rb W2 (W.heap.size + 1) 0 [] := HX1.out.below hB2
  have HX2 : Hid (Rb W2 (W.heap.size + 1) 0 []) := hb2
  have HC2 : Hid (Dc W2 W.heap.size _ cl sq ky vl _) := HC1.out.below hB2
  obtain ⟨m0, m1⟩ := hb2.cells
  obtain ⟨f0, f1⟩ := hb2.free
  obtain ⟨a0, a1, a2, a3, a4, a5⟩ := HC2.out.cells
  dsimp only at a0 a1 a2 a3 a4 a5
  have HD2 : Hid (DS N W2 d _ vs _) := HD.out.below HB2.out
  obtain ⟨c0, c1⟩ := HD2.out.cells
  have lr : W.heap.size + 1 < W2.heap.size := (Array.getElem?_eq_some_iff.1 hb2).1
  have ld : d < W2.heap.size := (Array.getElem?_eq_some_iff.1 HD2.out.hd).1
  have lw : W.heap.size < W2.heap.size := by omega
  have hd0 : d < W.heap.size := (Array.getElem?_eq_some_iff.1 HD.out.hd).1
  have hdn : ¬ d = W.heap.size + 1 := by omega
  have hdn' : ¬ W.heap.size + 1 = d := by omega
  clear hB2 HB1 HX1 HW1 HCA hb2 HC1
  obtain ⟨g, cp, hv, -, hgl, hgx, hcell⟩ := HD2.out.rp.at0 (by omega)
  simp only [Value.slice.injEq] at hv
  obtain ⟨hpa, -, -⟩ := hv
  subst hpa
  have x1 := hcell k 1 hlt (by decide)
  rw [HP.out] at x1
  have x1' : W2.cell? ⟨g, k * 2 + 1, none⟩ = some (.string ⟨pv.toArray⟩) := x1
  have hlt' : (k : Int) < (K.ps.length : Int) := by omega
  have hi0 : (0 : Int) ≤ (k : Int) := by omega
  have hfz : W2.frozen? ⟨g, k * 2 + 1, none⟩ = false := by obtain ⟨cur, hcur⟩ := hgx; simp [World.frozen?, hcur]
  have hgd : ¬ g = d := fun e => HD2.out.rp.apart HD2.out.hd (by decide) (by rw [← e]; rfl)
  have hgd' : ¬ d = g := fun e => hgd e.symm
  have hgW : ¬ g = W.heap.size := fun e => HD2.out.rp.apart HC2.out (by decide) (by rw [← e]; rfl)
  have hgW' : ¬ W.heap.size = g := fun e => hgW e.symm
  have hgX : ¬ g = W.heap.size + 1 := fun e => HD2.out.rp.apart HX2.out (by decide) (by rw [← e]; rfl)
  have hgX' : ¬ W.heap.size + 1 = g := fun e => hgX e.symm
  have HSET : Hid (∀ n, Ro RQ N ((W2.drewN n).setCell ⟨g, k * 2 + 1, none⟩ (.string ⟨vl.toArray⟩)) (.slice (some ⟨g, 0, none⟩) K.ps.length pc) (K.ps.set k (ky, vl))) := fun n => Ro.set (R := RQ) (HD2.out.rp.below (Below.drewN' (Below.refl _ _) n) (Nat.le_refl _)) k 1 hlt (by decide) _ _ (by rw [HP.out]; rfl)
  clear hcell x1
  go_wp2_with fail
  go_quiet (fail)
  go_wp2_with fail
  go_region_held3 (fun w' => w'.cell? ⟨d, 0, none⟩ = some (.slice (some ⟨g, 0, none⟩) K.ps.length pc) ∧ w'.cell? ⟨W.heap.size, 4, none⟩ = some (.string ⟨vl.toArray⟩)) (go_keep) (fail)
  have HR3 := HSET.out (nq + 1)
  have hO3 : Out (fun i => (Value.slice (some ⟨g, 0, none⟩) K.ps.length pc).ownBlock = some i) W2 ((W2.drewN (nq + 1)).setCell ⟨g, k * 2 + 1, none⟩ (.string ⟨vl.toArray⟩)) := (Out.of_below (Below.drewN' (Below.refl _ _) _)).trans (Out.set (X := fun i => i = g) rfl) (fun i hi _ => by subst hi; rfl)
  have hX3 : Rb ((W2.drewN (nq + 1)).setCell ⟨g, k * 2 + 1, none⟩ (.string ⟨vl.toArray⟩)) (W.heap.size + 1) 0 [] := (hO3.block _ lr (fun e => hgX (by simpa [Value.ownBlock] using e))).trans HX2.out
  have HR3' : Hid (Ro RQ N _ _ _) := HR3
  have HO3 : Hid (Out _ W2 _) := hO3
  clear m0 m1 f0 f1 HR3 HSET
  obtain ⟨m0, m1⟩ := hX3.cells
  obtain ⟨f0, f1⟩ := hX3.free
  clear hO3 hX3
  generalize (W2.drewN (nq + 1)).setCell ⟨g, k * 2 + 1, none⟩ (.string ⟨vl.toArray⟩) = W3 at *
  go_wp2
  refine bodyPost_ret (v := .agg #[.int .i64 1, .string ⟨[].toArray⟩]) (by simp [results, Try.results30, go_sem, m0, m1]) rfl ?_
  exact DoR.over (r := ⟨1, []⟩) HD2.out hd0 HB2.out HR3'.out HO3.out (Nat.le_succ _) HX2.out

end Go.Proofs.Ytglhjgfaelfleaa
