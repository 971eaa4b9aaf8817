/-
  What the operations are, and what each does.
-/
import Derived.Test.YtglhjgfaelfleaaD1
namespace Go.Proofs.Ytglhjgfaelfleaa
open Go.RowKit

def opV (k b : Nat) : Value := .func (.func k) #[.pointer (some ⟨b, 0, none⟩)] #[]
/-- The map of operations. -/
def opsD (b : Nat) : DataW Value := .map [(.int .i64 2, .held (opV 48 b)), (.int .i64 3, .held (opV 49 b)), (.int .i64 4, .held (opV 50 b))]

theorem key234 (n : Int) (h : 0 ≤ n ∧ n ≤ 4) : keyOf Try.prog 3 (.int .i64 n) = some (.int .i64 n) := keyI n ⟨h.1, by omega⟩

set_option maxRecDepth 100000 in
set_option maxHeartbeats 2000000 in
theorem operations_any (b : Nat) (w : World) :
    Calls Try.prog 28 #[.pointer (some ⟨b, 0, none⟩)] w fun e w' => e = .returned (.map (some w.heap.size)) ∧ w'.ownsMap Try.prog 3 rdV w.heap.size 3 (opsD b) ∧ Below w.heap.size w w' := by
  have hmm := @run_makeMap Try.prog
  have h0 := World.ownsMap_made w Try.prog 3 rdV
  obtain ⟨w1, r1, h1, g1⟩ := h0.store lawI Try.underlying69 (by unfold maxLen; omega) (val := .func (.func 48) #[.pointer (some ⟨b, 0, none⟩)] #[]) (d := .held (opV 48 b)) (ps := []) (key234 2 (by omega)) rfl
  obtain ⟨w2, r2, h2, g2⟩ := h1.store lawI Try.underlying69 (by unfold maxLen; omega) (val := .func (.func 49) #[.pointer (some ⟨b, 0, none⟩)] #[]) (d := .held (opV 49 b)) (ps := []) (key234 3 (by omega)) rfl
  obtain ⟨w3, r3, h3, g3⟩ := h2.store lawI Try.underlying69 (by unfold maxLen; omega) (val := .func (.func 50) #[.pointer (some ⟨b, 0, none⟩)] #[]) (d := .held (opV 50 b)) (ps := []) (key234 4 (by omega)) rfl
  have HB : Hid (Below w.heap.size w w3) := by
    have b0 : Below w.heap.size w (w.alloc (.map #[] 0)) := (Below.refl _ w).alloc (Nat.le_refl _) _
    have b1 := b0.grown g1.grown (by simp) (fun k e => by cases e; exact Nat.le_refl _)
    have b2 := b1.grown g2.grown b1.size (fun k e => by cases e; exact Nat.le_refl _)
    exact b2.grown g3.grown b2.size (fun k e => by cases e; exact Nat.le_refl _)
  have H3 : Hid (w3.ownsMap Try.prog 3 rdV w.heap.size 3 (opsD b)) := h3
  clear h0 h1 h2 h3 g1 g2 g3
  go_enter Try.func28, Try.ntmps28
  go_wp2
  go_ret
  exact ⟨rfl, H3.out, HB.out⟩

/-- The map of operations is looked into. -/
theorem ops_look {w : World} {m n b : Nat} (h : w.ownsMap Try.prog 3 rdV m n (opsD b)) (op : Int) (hop : 2 ≤ op ∧ op ≤ 4) :
    (Instr.lookup 69 (.map (some m)) (.int .i64 op) false).run Try.prog w = .ok (opV (if op = 2 then 48 else if op = 3 then 49 else 50) b) w := by
  obtain ⟨v, ps, hr, hv⟩ := h.lookup lawI Try.underlying69 (z := .nilFunc) (by kernel_rfl) (zd := .held _) (zp := []) rfl (key234 op (by omega))
  rw [hr]
  have : op = 2 ∨ op = 3 ∨ op = 4 := by omega
  rcases this with rfl | rfl | rfl
  · rw [rdV_inv (u := opV 48 b) hv]; rfl
  · rw [rdV_inv (u := opV 49 b) hv]; rfl
  · rw [rdV_inv (u := opV 50 b) hv]; rfl
end Go.Proofs.Ytglhjgfaelfleaa
