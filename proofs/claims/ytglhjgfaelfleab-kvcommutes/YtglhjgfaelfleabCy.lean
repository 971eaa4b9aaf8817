/-
  Copy: another store of the same.
-/
import Derived.Test.YtglhjgfaelfleabDw
namespace Go.Proofs.Ytglhjgfaelfleab
open Go.RowKit Go.Shelf
set_option linter.unusedVariables false

theorem cloneP_any {Wx : World} {mp n : Nat} {D : DataW Value} (h : Wx.ownsMap Try.prog 9 rdV mp n D) :
    Calls Try.prog 28 #[.map (some mp)] Wx fun e w' => ∃ m, e = .returned (.map (some m)) ∧ w'.ownsMap Try.prog 9 rdV m n D ∧ Wx.heap.size ≤ m ∧ Below Wx.heap.size Wx w' := by
  have hcon := AnyW.maps_Clone_owns Try.cloneP 9 rdV mp n D Wx h
  exact Calls.mono hcon fun e w' ⟨h1, h2, _, h4⟩ => ⟨_, h1, h2, Nat.le_refl _, h4⟩
theorem cloneS_any {Wx : World} {ms n : Nat} {D : DataW Value} (h : Wx.ownsMap Try.prog 3 rdV ms n D) :
    Calls Try.prog 29 #[.map (some ms)] Wx fun e w' => ∃ m, e = .returned (.map (some m)) ∧ w'.ownsMap Try.prog 3 rdV m n D ∧ Wx.heap.size ≤ m ∧ Below Wx.heap.size Wx w' := by
  have hcon := AnyW.maps_Clone_owns Try.cloneS 3 rdV ms n D Wx h
  exact Calls.mono hcon fun e w' ⟨h1, h2, _, h4⟩ => ⟨_, h1, h2, Nat.le_refl _, h4⟩

theorem own_below {w w' : World} {k : TypeId} {m n : Nat} {D : DataW Value} (h : w.ownsMap Try.prog k rdV m n D) (hB : Below w.heap.size w w') : w'.ownsMap Try.prog k rdV m n D := ownsMap_out (X := fun _ => False) h (Out.of_below hB) id

/-- A copy, made of two clones. -/
theorem copy_st {W w1 w2 : World} {mp ms : Nat} {K : KV} (hp : w2.ownsMap Try.prog 9 rdV mp K.ps.length (entsL kP pairV K.ps)) (hs : w2.ownsMap Try.prog 3 rdV ms K.ss.length (entsL kS Se.v K.ss)) (hne : mp ≠ ms) (hok : K.Ok) :
    St (w2.alloc (.cells #[.map (some mp), .map (some ms)] 50)) w2.heap.size mp ms K :=
  ⟨heap_alloc_new w2 _, hp.alloc _, hs.alloc _, hne, hok⟩

set_option maxRecDepth 100000 in
set_option maxHeartbeats 4000000 in
theorem copy_any {W : World} {b mp ms : Nat} {K : KV} (h : St W b mp ms K) :
    Calls Try.prog 15 #[.pointer (some ⟨b, 0, none⟩)] W fun e w' => ∃ b' mp' ms', e = .returned (.pointer (some ⟨b', 0, none⟩)) ∧ St w' b' mp' ms' K ∧ Below W.heap.size W w' ∧ W.heap.size ≤ mp' ∧ W.heap.size ≤ ms' := by
  have CP : Hid (∀ Wx, Below W.heap.size W Wx → Calls Try.prog 28 #[.map (some mp)] Wx fun e w' => ∃ m, e = .returned (.map (some m)) ∧ w'.ownsMap Try.prog 9 rdV m K.ps.length (entsL kP pairV K.ps) ∧ W.heap.size ≤ m ∧ Wx.heap.size ≤ m ∧ Below Wx.heap.size Wx w' ∧ Below W.heap.size W w' ∧ w'.cell? ⟨b, 0, none⟩ = some (.map (some mp)) ∧ w'.cell? ⟨b, 1, none⟩ = some (.map (some ms))) := fun Wx hB =>
    (cloneP_any (h.below hB).hp).mono fun e w' ⟨m, h1, h2, h3, h4⟩ => ⟨m, h1, h2, Nat.le_trans hB.size h3, h3, h4, hB.trans (h4.mono hB.size), (h.below (hB.trans (h4.mono hB.size))).cells.1, (h.below (hB.trans (h4.mono hB.size))).cells.2⟩
  have CS : Hid (∀ Wx, Below W.heap.size W Wx → Calls Try.prog 29 #[.map (some ms)] Wx fun e w' => ∃ m, e = .returned (.map (some m)) ∧ w'.ownsMap Try.prog 3 rdV m K.ss.length (entsL kS Se.v K.ss) ∧ W.heap.size ≤ m ∧ Wx.heap.size ≤ m ∧ Below Wx.heap.size Wx w' ∧ Below W.heap.size W w' ∧ w'.cell? ⟨b, 0, none⟩ = some (.map (some mp)) ∧ w'.cell? ⟨b, 1, none⟩ = some (.map (some ms))) := fun Wx hB =>
    (cloneS_any (h.below hB).hs).mono fun e w' ⟨m, h1, h2, h3, h4⟩ => ⟨m, h1, h2, Nat.le_trans hB.size h3, h3, h4, hB.trans (h4.mono hB.size), (h.below (hB.trans (h4.mono hB.size))).cells.1, (h.below (hB.trans (h4.mono hB.size))).cells.2⟩
  obtain ⟨c0, c1⟩ := h.cells
  have HOK : Hid K.Ok := h.ok
  clear h
  go_enter Try.func15, Try.ntmps15
  go_wp2_with fail
  go_region_held3 (fun V => V.cell? ⟨b, 0, none⟩ = some (.map (some mp)) ∧ V.cell? ⟨b, 1, none⟩ = some (.map (some ms))) (go_keep)
    (first
      | (go_at_call 28; refine (CP.out W.drew (Below.drew' (Below.refl _ _))).mono ?_; rintro e w1 ⟨m1, rfl, g1, l1, k1, B1, D1, q0, q1⟩; have HG1 : Hid (w1.ownsMap Try.prog 9 rdV m1 K.ps.length (entsL kP pairV K.ps)) := g1; have HD1 : Hid (Below W.heap.size W w1) := D1; have CSS := CS.out w1 D1; have HSS : Hid (Calls _ _ _ _ _) := CSS; clear CSS g1 B1 D1 CP CS)
      | (go_at_call 29; refine HSS.out.mono ?_; rintro e w2 ⟨m2, rfl, g2, l2, k2, B2, D2, r0, r1⟩; have HG2 : Hid (w2.ownsMap Try.prog 3 rdV m2 K.ss.length (entsL kS Se.v K.ss)) := g2; have HG1' : Hid (w2.ownsMap Try.prog 9 rdV m1 K.ps.length (entsL kP pairV K.ps)) := own_below HG1.out B2; have HNE : Hid (m1 ≠ m2) := Nat.ne_of_lt (Nat.lt_of_lt_of_le HG1.out.lt k2); have HD2 : Hid (Below W.heap.size W w2) := D2; clear HSS g2 B2 D2)
      | (go_at_call 29; refine (CS.out W.drew (Below.drew' (Below.refl _ _))).mono ?_; rintro e w1 ⟨m2, rfl, g1, l2, k1, B1, D1, q0, q1⟩; have HG1 : Hid (w1.ownsMap Try.prog 3 rdV m2 K.ss.length (entsL kS Se.v K.ss)) := g1; have HD1 : Hid (Below W.heap.size W w1) := D1; have CPP := CP.out w1 D1; have HPP : Hid (Calls _ _ _ _ _) := CPP; clear CPP g1 B1 D1 CP CS)
      | (go_at_call 28; refine HPP.out.mono ?_; rintro e w2 ⟨m1, rfl, g2, l1, k2, B2, D2, r0, r1⟩; have HG1' : Hid (w2.ownsMap Try.prog 9 rdV m1 K.ps.length (entsL kP pairV K.ps)) := g2; have HG2 : Hid (w2.ownsMap Try.prog 3 rdV m2 K.ss.length (entsL kS Se.v K.ss)) := own_below HG1.out B2; have HNE : Hid (m1 ≠ m2) := Nat.ne_of_gt (Nat.lt_of_lt_of_le HG1.out.lt k2); have HD2 : Hid (Below W.heap.size W w2) := D2; clear HPP g2 B2 D2)
      | fail)
  all_goals
    go_wp2
    go_ret
    exact ⟨_, _, _, rfl, copy_st (W := W) (w1 := w1) HG1'.out HG2.out HNE.out HOK.out, Below.alloc' HD2.out _, l1, l2⟩
end Go.Proofs.Ytglhjgfaelfleab
