/-
  The document's disk: does this write fail?
-/
import Derived.Test.YtbjnhohfdpdcnaaRd5
namespace Go.Proofs.Ytbjnhohfdpdcnaa
open Go.RowKit Go.Shelf
set_option linter.unusedVariables false

/-- Its own block was turned, the files stay. -/
theorem RD.turn {N : Nat} {w w' : World} {B : Nat} {p p' : PD} {v : Value} {fs : List Fl} {l : List UInt8} (h : RD N w B p v fs l) (hO : Out (· = B) w w') (hd : w'.heap[B]? = some (.cells #[v, .int .i64 (p'.arm : Int), .bool p'.dn, .string ⟨l.toArray⟩] 30 (0, 0))) (hfs : p'.fs = p.fs) : RD N w' B p' v fs l := by
  refine ⟨h.le, hd, ⟨row_out h.fi.row hO (fun g hg e => ?_), fun f hf => (h.fi.own f hf).out hO (fun g hg e => (h.fi.own f hf).not_at h.hd (by decide) (by rw [hg, e]))⟩, by rw [hfs]; exact h.sy, h.fw, by rw [hfs]; exact h.sm, by rw [hfs]; exact h.la⟩
  rcases h.fi.row.2 with ⟨rfl, _⟩ | ⟨g', cap, cur, rfl, _, hgb, _⟩
  · simp [Value.ownBlock] at hg
  · simp [Value.ownBlock] at hg
    subst hg e
    rw [h.hd] at hgb
    cases hgb

set_option maxRecDepth 100000 in
set_option maxHeartbeats 2000000 in
theorem refFails_any {N : Nat} {w : World} {B : Nat} {p : PD} {v : Value} {fs : List Fl} {l : List UInt8} (h : RD N w B p v fs l) (hm : p.arm ≤ 9223372036854775807) :
    Calls Try.prog 57 #[.pointer (some ⟨B, 0, none⟩)] w fun r w' => r = .returned (.bool p.fell) ∧ RD N w' B p.fail v fs l ∧ Out (· = B) w w' := by
  obtain ⟨k0, k1, k2, k3, f0, f1, f2, f3⟩ := h.cells
  rcases (show p.arm = 0 ∨ p.arm = 1 ∨ 2 ≤ p.arm by omega) with ha | ha | ha
  · have e1 : p.fell = false := by simp [PD.fell, ha]
    have e2 : p.fail = p := by simp [PD.fail, ha]
    rw [e1, e2]
    refine (refFails0_any h ha).mono ?_
    rintro r w' ⟨rfl, rfl⟩
    exact ⟨rfl, h, Out.refl _ _⟩
  · have HE : Hid (p.fell = true) := by show p.fell = true; simp [PD.fell, ha]
    have HP : Hid (p.fail.arm = 0 ∧ p.fail.dn = true) := by
      show p.fail.arm = 0 ∧ p.fail.dn = true
      simp [PD.fail, ha]
    rw [ha] at k1
    have HR : Hid (RD N ((w.setCell ⟨B, 1, none⟩ (.int .i64 ((0 : Nat) : Int))).setCell ⟨B, 2, none⟩ (.bool true)) B p.fail v fs l ∧ Out (· = B) w ((w.setCell ⟨B, 1, none⟩ (.int .i64 ((0 : Nat) : Int))).setCell ⟨B, 2, none⟩ (.bool true))) := by
      have e1 : Out (· = B) w ((w.setCell ⟨B, 1, none⟩ (.int .i64 ((0 : Nat) : Int))).setCell ⟨B, 2, none⟩ (.bool true)) := (Out.set (X := (· = B)) rfl).trans (Out.set (X := (· = B)) rfl) (fun i hi _ => hi)
      refine ⟨h.turn e1 ?_ (pd_fail_fs p), e1⟩
      have h1 := heap_set (heap_set h.hd 1 (.int .i64 ((0 : Nat) : Int))) 2 (.bool true)
      rw [HP.out.1, HP.out.2]
      simpa using h1
    clear h
    go_enter Try.func57, Try.ntmps57
    go_wp2
    go_ret
    exact ⟨by rw [HE.out]; rfl, HR.out⟩
  · have HE : Hid (p.fell = false) := by show p.fell = false; simp [PD.fell]; omega
    obtain ⟨n, hn⟩ : ∃ n, p.arm = n + 2 := ⟨p.arm - 2, by omega⟩
    have HP : Hid (p.fail.arm = n + 1 ∧ p.fail.dn = false) := by
      show p.fail.arm = n + 1 ∧ p.fail.dn = false
      simp [PD.fail, hn]
    rw [hn] at k1
    have hnb : n + 2 ≤ 9223372036854775807 := by omega
    have hn0 : (((n + 1 : Nat) : Int) == 0) = false := by simp; omega
    have hn1 : ((n : Int) + 1 == 0) = false := by simp; omega
    have HR : Hid (RD N ((w.setCell ⟨B, 1, none⟩ (.int .i64 ((n + 1 : Nat) : Int))).setCell ⟨B, 2, none⟩ (.bool false)) B p.fail v fs l ∧ Out (· = B) w ((w.setCell ⟨B, 1, none⟩ (.int .i64 ((n + 1 : Nat) : Int))).setCell ⟨B, 2, none⟩ (.bool false))) := by
      have e1 : Out (· = B) w ((w.setCell ⟨B, 1, none⟩ (.int .i64 ((n + 1 : Nat) : Int))).setCell ⟨B, 2, none⟩ (.bool false)) := (Out.set (X := (· = B)) rfl).trans (Out.set (X := (· = B)) rfl) (fun i hi _ => hi)
      refine ⟨h.turn e1 ?_ (pd_fail_fs p), e1⟩
      have h1 := heap_set (heap_set h.hd 1 (.int .i64 ((n + 1 : Nat) : Int))) 2 (.bool false)
      rw [HP.out.1, HP.out.2]
      simpa using h1
    clear h ha hn
    go_enter Try.func57, Try.ntmps57
    go_wp2
    go_ret
    have e1 : ((n : Int) + 2 - 1) = ((n + 1 : Nat) : Int) := by omega
    refine ⟨?_, ?_⟩
    · rw [HE.out]
      show Ending.returned (.bool ((n : Int) + 2 - 1 == 0)) = _
      rw [e1, hn0]
    · show RD N ((w.setCell ⟨B, 1, none⟩ (.int .i64 ((n : Int) + 2 - 1))).setCell ⟨B, 2, none⟩ (.bool ((n : Int) + 2 - 1 == 0))) B p.fail v fs l ∧ Out (· = B) w ((w.setCell ⟨B, 1, none⟩ (.int .i64 ((n : Int) + 2 - 1))).setCell ⟨B, 2, none⟩ (.bool ((n : Int) + 2 - 1 == 0)))
      rw [e1, hn0]
      exact HR.out
end Go.Proofs.Ytbjnhohfdpdcnaa
