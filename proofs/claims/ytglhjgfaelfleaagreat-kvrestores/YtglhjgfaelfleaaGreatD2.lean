/-
  What the operations are, and what each does.
-/
import Derived.Test.YtglhjgfaelfleaaGreatD1
namespace Go.Proofs.YtglhjgfaelfleaaGreat
open Go.RowKit

def opV (k b : Nat) : Value := .func (.func k) #[.pointer (some ⟨b, 0, none⟩)] #[]
/-- The map of operations. -/
def opsD (b : Nat) : DataW Value := .map [(.int .i64 2, .held (opV 67 b)), (.int .i64 3, .held (opV 68 b)), (.int .i64 4, .held (opV 69 b))]

theorem key234 (n : Int) (h : 0 ≤ n ∧ n ≤ 4) : keyOf Tryz.prog 3 (.int .i64 n) = some (.int .i64 n) := keyI n ⟨h.1, by omega⟩

set_option maxRecDepth 100000 in
set_option maxHeartbeats 2000000 in
theorem operations_any (b : Nat) (w : World) :
    Calls Tryz.prog 39 #[.pointer (some ⟨b, 0, none⟩)] w fun e w' => e = .returned (.map (some w.heap.size)) ∧ w'.ownsMap Tryz.prog 3 rdV w.heap.size 3 (opsD b) ∧ Below w.heap.size w w' := by
  have hmm := @run_makeMap Tryz.prog
  have h0 := World.ownsMap_made w Tryz.prog 3 rdV
  obtain ⟨w1, r1, h1, g1⟩ := h0.store lawI Tryz.underlying92 (by unfold maxLen; omega) (val := .func (.func 67) #[.pointer (some ⟨b, 0, none⟩)] #[]) (d := .held (opV 67 b)) (ps := []) (key234 2 (by omega)) rfl
  obtain ⟨w2, r2, h2, g2⟩ := h1.store lawI Tryz.underlying92 (by unfold maxLen; omega) (val := .func (.func 68) #[.pointer (some ⟨b, 0, none⟩)] #[]) (d := .held (opV 68 b)) (ps := []) (key234 3 (by omega)) rfl
  obtain ⟨w3, r3, h3, g3⟩ := h2.store lawI Tryz.underlying92 (by unfold maxLen; omega) (val := .func (.func 69) #[.pointer (some ⟨b, 0, none⟩)] #[]) (d := .held (opV 69 b)) (ps := []) (key234 4 (by omega)) rfl
  have HB : Hid (Below w.heap.size w w3) := by
    have b0 : Below w.heap.size w (w.alloc (.map #[] 0)) := (Below.refl _ w).alloc (Nat.le_refl _) _
    have b1 := b0.grown g1.grown (by simp) (fun k e => by cases e; exact Nat.le_refl _)
    have b2 := b1.grown g2.grown b1.size (fun k e => by cases e; exact Nat.le_refl _)
    exact b2.grown g3.grown b2.size (fun k e => by cases e; exact Nat.le_refl _)
  have H3 : Hid (w3.ownsMap Tryz.prog 3 rdV w.heap.size 3 (opsD b)) := h3
  clear h0 h1 h2 h3 g1 g2 g3
  go_enter Tryz.func39, Tryz.ntmps39
  go_wp2
  go_ret
  exact ⟨rfl, H3.out, HB.out⟩

/-- The map of operations is looked into. -/
theorem ops_look {w : World} {m n b : Nat} (h : w.ownsMap Tryz.prog 3 rdV m n (opsD b)) (op : Int) (hop : 2 ≤ op ∧ op ≤ 4) :
    (Instr.lookup 92 (.map (some m)) (.int .i64 op) false).run Tryz.prog w = .ok (opV (if op = 2 then 67 else if op = 3 then 68 else 69) b) w := by
  obtain ⟨v, ps, hr, hv⟩ := h.lookup lawI Tryz.underlying92 (z := .nilFunc) (by kernel_rfl) (zd := .held _) (zp := []) rfl (key234 op (by omega))
  rw [hr]
  have : op = 2 ∨ op = 3 ∨ op = 4 := by omega
  rcases this with rfl | rfl | rfl
  · rw [rdV_inv (u := opV 67 b) hv]; rfl
  · rw [rdV_inv (u := opV 68 b) hv]; rfl
  · rw [rdV_inv (u := opV 69 b) hv]; rfl
end Go.Proofs.YtglhjgfaelfleaaGreat
