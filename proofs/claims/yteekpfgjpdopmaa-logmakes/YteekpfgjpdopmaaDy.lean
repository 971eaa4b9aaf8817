/-
  The two logs beside the boxes: what leaves the blocks; what writes elsewhere; the closures.
-/
import Derived.Test.YteekpfgjpdopmaaDz
namespace Go.Proofs.Yteekpfgjpdopmaa
open Go.RowKit
set_option linter.unusedVariables false
variable {N : Nat} {S T : Nat → Prop} {w W W' : World} {b d X : Nat} {P P' Q : PL} {k n t m : Int} {E B : Value}
theorem Dz.oneK (h : Dz N S T w W b d X P Q k n t m E B) (t' : LK N S W W' b P') : Dz N S T w W' b d X P' Q k n t m E B :=
  h.turn ⟨t'.q, h.bw.r.out t'.out (fun i hi hs => h.bw.ap i hs hi), h.bw.ap, Nat.le_trans h.bw.hN t'.out.size⟩ t'.out h.ns h.ns h.nt (t'.bel h.bw.hN)
theorem Dz.twoK (h : Dz N S T w W b d X P Q k n t m E B) (t' : RK N T W W' d P') : Dz N S T w W' b d X P P' k n t m E B :=
  h.turn ⟨h.bw.l.out t'.out (fun i hi ht => h.bw.ap i hi ht), t'.q, h.bw.ap, Nat.le_trans h.bw.hN t'.out.size⟩ t'.out h.nt h.ns h.nt (t'.out.below h.bw.hN (fun i hi => h.bw.r.fr i hi))
/-- Something is written that is no log's and no box. -/
theorem Dz.off {Y : Nat → Prop} (h : Dz N S T w W b d X P Q k n t m E B) (hO : Out Y W W') (hs : ∀ i, Y i → ¬ S i) (ht : ∀ i, Y i → ¬ T i) (hx : ∀ i, Y i → X + 3 ≤ i) (hN : ∀ i, Y i → N ≤ i) : Dz N S T w W' b d X P Q k n t m E B :=
  h.turn ⟨h.bw.l.out hO (fun i hi hy => hs i hy hi), h.bw.r.out hO (fun i hi hy => ht i hy hi), h.bw.ap, Nat.le_trans h.bw.hN hO.size⟩ hO (fun i hi => .inr (hx i hi)) h.ns h.nt (hO.below h.bw.hN hN)
set_option maxRecDepth 100000 in
theorem clo1_any {R : Value → List Ent → World → Prop} {W : World} {b X : Nat} {n : Int} (h0 : W.cell? ⟨X, 0, none⟩ = some (.pointer (some ⟨b, 0, none⟩))) (h1 : W.cell? ⟨X + 2, 1, none⟩ = some (.int .i64 n))
    (C : Calls Try.prog 32 #[.pointer (some ⟨b, 0, none⟩), .int .i64 n] W fun e w' => ∃ v fs, e = .returned v ∧ R v fs w') :
    Calls Try.prog 49 #[.pointer (some ⟨X, 0, none⟩), .pointer (some ⟨X + 2, 0, none⟩)] W fun e w' => ∃ v fs, e = .returned v ∧ R v fs w' := by
  have HC : Hid (Calls _ _ _ _ _) := C
  clear C
  go_enter Try.func49, Try.ntmps49
  go_wp2_with fail
  refine HC.out.mono ?_
  rintro e w1 ⟨v, fs, rfl, hR⟩
  have HR : Hid (R v fs w1) := hR
  clear hR
  go_wp2
  go_ret
  exact ⟨v, fs, rfl, HR.out⟩
set_option maxRecDepth 100000 in
theorem clo2_any {R : Value → List Ent → World → Prop} {W : World} {b X : Nat} {n : Int} (h0 : W.cell? ⟨X + 1, 0, none⟩ = some (.pointer (some ⟨b, 0, none⟩))) (h1 : W.cell? ⟨X + 2, 1, none⟩ = some (.int .i64 n))
    (C : Calls Try.prog 51 #[.pointer (some ⟨b, 0, none⟩), .int .i64 n] W fun e w' => ∃ v fs, e = .returned v ∧ R v fs w') :
    Calls Try.prog 50 #[.pointer (some ⟨X + 1, 0, none⟩), .pointer (some ⟨X + 2, 0, none⟩)] W fun e w' => ∃ v fs, e = .returned v ∧ R v fs w' := by
  have HC : Hid (Calls _ _ _ _ _) := C
  clear C
  go_enter Try.func50, Try.ntmps50
  go_wp2_with fail
  refine HC.out.mono ?_
  rintro e w1 ⟨v, fs, rfl, hR⟩
  have HR : Hid (R v fs w1) := hR
  clear hR
  go_wp2
  go_ret
  exact ⟨v, fs, rfl, HR.out⟩
theorem haE_len {P : PL} (h : P.Ok) : (haE P).length ≤ 10000 := by unfold haE; simp; have := h.len; omega
theorem nxE_len {P : PL} (h : P.Ok) (n : Int) : (nxE P n).length ≤ 10000 := by unfold nxE; simp; have := h.len; omega
theorem enL_len {P : PL} (h : P.Ok) (i n : Int) : (enL P i n).length ≤ 10000 := by
  unfold enL
  split
  · simp; have := h.len; omega
  · simp
end Go.Proofs.Yteekpfgjpdopmaa
