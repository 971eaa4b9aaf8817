/-
  The document's disk in memory: names, places, sizes.
-/
import Derived.Test.YtbjnhohfdpdcnaaLod
namespace Go.Proofs.Ytbjnhohfdpdcnaa
open Go.RowKit Go.Shelf
set_option linter.unusedVariables false

/-- Block B holds the document's disk. -/
structure RD (N : Nat) (w : World) (B : Nat) (p : PD) (v : Value) (fs : List Fl) (lt : List UInt8) : Prop where
  le : N ≤ B
  hd : w.heap[B]? = some (.cells #[v, .int .i64 (p.arm : Int), .bool p.dn, .string ⟨lt.toArray⟩] 30 (0, 0))
  fi : FilesIn N w v fs
  sy : fs.map Fl.says = p.fs.map PF.says
  fw : fs.length ≤ 256
  sm : sumP p.fs ≤ 16777216
  la : ∀ f ∈ p.fs, f.late = (f.nm == lt)
theorem RD.lt {N : Nat} {w : World} {B : Nat} {p : PD} {v : Value} {fs : List Fl} {l : List UInt8} (h : RD N w B p v fs l) : B < w.heap.size := (Array.getElem?_eq_some_iff.1 h.hd).1
theorem RD.cells {N : Nat} {w : World} {B : Nat} {p : PD} {v : Value} {fs : List Fl} {l : List UInt8} (h : RD N w B p v fs l) :
    w.cell? ⟨B, 0, none⟩ = some v ∧ w.cell? ⟨B, 1, none⟩ = some (.int .i64 (p.arm : Int)) ∧ w.cell? ⟨B, 2, none⟩ = some (.bool p.dn) ∧ w.cell? ⟨B, 3, none⟩ = some (.string ⟨l.toArray⟩) ∧ w.frozen? ⟨B, 0, none⟩ = false ∧ w.frozen? ⟨B, 1, none⟩ = false ∧ w.frozen? ⟨B, 2, none⟩ = false ∧ w.frozen? ⟨B, 3, none⟩ = false := by
  have hR := h.hd
  exact ⟨by simp [World.cell?, hR], by simp [World.cell?, hR], by simp [World.cell?, hR], by simp [World.cell?, hR], by simp [World.frozen?, hR], by simp [World.frozen?, hR], by simp [World.frozen?, hR], by simp [World.frozen?, hR]⟩
theorem RD.len {N : Nat} {w : World} {B : Nat} {p : PD} {v : Value} {fs : List Fl} {l : List UInt8} (h : RD N w B p v fs l) : fs.length = p.fs.length := by
  have := congrArg List.length h.sy
  simpa using this

theorem sumF_append (a b : List Fl) : sumF (a ++ b) = sumF a + sumF b := by simp [sumF]
theorem sum_says : ∀ {fs : List Fl} {ps : List PF}, fs.map Fl.says = ps.map PF.says → sumF fs = sumP ps
  | [], [], _ => rfl
  | [], _ :: _, h => by simp at h
  | _ :: _, [], h => by simp at h
  | f :: r, q :: s, h => by
    simp only [List.map_cons, List.cons.injEq, Fl.says, PF.says, Prod.mk.injEq] at h
    have := sum_says h.2
    simp only [sumF, sumP, List.map_cons, List.sum_cons] at this ⊢
    rw [this, h.1.2.1]
set_option maxRecDepth 100000 in
set_option maxHeartbeats 2000000 in
theorem refSize_any {N : Nat} {w : World} {B : Nat} {p : PD} {v : Value} {fs : List Fl} {l : List UInt8} (h : RD N w B p v fs l) :
    Calls Try.prog 24 #[.pointer (some ⟨B, 0, none⟩)] w fun r w' => r = .returned (.int .i64 (sumP p.fs : Int)) ∧ w' = w := by
  obtain ⟨a, c, hv, hc1, hc2, hF⟩ := h.fi.at
  subst hv
  obtain ⟨k0, k1, k2, k3, -⟩ := h.cells
  have HF : Hid (FlsAt w.heap.size w a fs) := hF
  have hsm := sum_says h.sy
  have HS : Hid (sumF fs = sumP p.fs) := hsm
  have hs2 : sumF fs ≤ 16777216 := by rw [hsm]; exact h.sm
  have hfw := h.fw
  clear h hF hsm
  go_enter Try.func24, Try.ntmps24
  go_wp2
  go_loopw [3, 4] (fun sv iv wr => ∃ (k m : Nat), iv = .int .i64 (k : Int) ∧ sv = .int .i64 (m : Int) ∧ k ≤ fs.length ∧ m = sumF (fs.take k) ∧ wr = w) (fun _ iv _ => fs.length - (intOf iv).toNat)
  case atStart => exact ⟨0, 0, rfl, rfl, Nat.zero_le _, rfl, rfl⟩
  case round =>
    obtain ⟨k, m, rfl, rfl, hk, hm, rfl⟩ := hrel
    by_cases hlt : k < fs.length
    · obtain ⟨b, off, hea, hb, he⟩ := HF.out.at hlt
      subst hea
      have HT : Hid (fs.take (k + 1) = fs.take k ++ [fs.getD k nilFl]) := take_fl hlt
      have hle := sumF_take_le fs (k + 1)
      rw [HT.out, sumF_append] at hle
      generalize fs.getD k nilFl = f at *
      obtain ⟨fn, fa, fc, fd, fy⟩ := f
      obtain ⟨c0, c1, c2, c3⟩ := he
      unfold Fl.x at c1
      simp only at c0 c1 c2
      have hone : sumF [(⟨fn, fa, fc, fd, fy⟩ : Fl)] = fd.length := by simp [sumF]
      rw [hone] at hle
      have HM : Hid (m + fd.length = sumF (fs.take (k + 1))) := by show m + fd.length = _; rw [HT.out, sumF_append, hone, hm]
      have hmb : m + fd.length ≤ 16777216 := by omega
      have hi1 : (k : Int) < (fs.length : Int) := by omega
      have hi0 : (0 : Int) ≤ (k : Int) := by omega
      clear hm hle c3 hone
      go_wp2
      exact ⟨⟨k + 1, m + fd.length, by go_num, by go_num, by omega, HM.out, trivial⟩, by simp [intOf]; omega⟩
    · have HM : Hid (m = sumP p.fs) := by show m = _; rw [hm, List.take_of_length_le (by omega), HS.out]
      clear hm
      go_wp2
      go_ret
      exact ⟨by rw [← HM.out]; rfl, rfl⟩

set_option maxRecDepth 100000 in
set_option maxHeartbeats 2000000 in
theorem refAt_any {N : Nat} {w : World} {B : Nat} {p : PD} {v : Value} {fs : List Fl} {l : List UInt8} (h : RD N w B p v fs l) (nm : List UInt8) :
    Calls Try.prog 53 #[.pointer (some ⟨B, 0, none⟩), .string ⟨nm.toArray⟩] w fun r w' => ∃ i : Int, r = .returned (.int .i64 i) ∧ ((i = -1 ∧ ∀ f ∈ fs, f.nm ≠ nm) ∨ ∃ j : Nat, i = (j : Int) ∧ j < fs.length ∧ (fs.getD j nilFl).nm = nm) ∧ w' = w := by
  obtain ⟨a, c, hv, hc1, hc2, hF⟩ := h.fi.at
  subst hv
  obtain ⟨k0, k1, k2, k3, -⟩ := h.cells
  have HF : Hid (FlsAt w.heap.size w a fs) := hF
  have hfw := h.fw
  clear h hF
  go_enter Try.func53, Try.ntmps53
  go_wp2
  go_loopw [5] (fun iv wr => ∃ (k : Nat), iv = .int .i64 (k : Int) ∧ k ≤ fs.length ∧ (∀ f ∈ fs.take k, f.nm ≠ nm) ∧ wr = w) (fun iv _ => fs.length - (intOf iv).toNat)
  case atStart => exact ⟨0, rfl, Nat.zero_le _, by simp, rfl⟩
  case round =>
    obtain ⟨k, rfl, hk, hm, rfl⟩ := hrel
    have HM : Hid (∀ f ∈ fs.take k, f.nm ≠ nm) := hm
    clear hm
    by_cases hlt : k < fs.length
    · obtain ⟨b, off, hea, hb, he⟩ := HF.out.at hlt
      subst hea
      have HT : Hid (fs.take (k + 1) = fs.take k ++ [fs.getD k nilFl]) := take_fl hlt
      obtain ⟨f, hf⟩ : ∃ f, fs.getD k nilFl = f := ⟨_, rfl⟩
      have HFE : Hid (fs.getD k nilFl = f) := hf
      rw [hf] at he HT
      clear hf
      obtain ⟨fn, fa, fc, fd, fy⟩ := f
      obtain ⟨c0, c1, c2, c3⟩ := he
      unfold Fl.x at c1
      simp only at c0 c1 c2
      have hi1 : (k : Int) < (fs.length : Int) := by omega
      have hi0 : (0 : Int) ≤ (k : Int) := by omega
      clear c3
      by_cases hn : fn = nm
      · subst hn
        go_wp2
        go_ret
        exact ⟨(k : Int), rfl, .inr ⟨k, rfl, hlt, by rw [HFE.out]⟩, rfl⟩
      · have hn' : (fn == nm) = false := by simpa using hn
        have HN : Hid (fn ≠ nm) := hn
        clear hn
        go_wp2
        refine ⟨⟨k + 1, by go_num, by omega, fun f hf => ?_, trivial⟩, by simp [intOf]; omega⟩
        rw [HT.out] at hf
        rcases List.mem_append.1 hf with hf | hf
        · exact HM.out f hf
        · obtain rfl := List.mem_singleton.1 hf
          exact HN.out
    · go_wp2
      go_ret
      have hm := HM.out
      rw [List.take_of_length_le (by omega)] at hm
      exact ⟨-1, rfl, .inl ⟨rfl, hm⟩, rfl⟩

set_option maxRecDepth 100000 in
set_option maxHeartbeats 2000000 in
theorem refFails0_any {N : Nat} {w : World} {B : Nat} {p : PD} {v : Value} {fs : List Fl} {l : List UInt8} (h : RD N w B p v fs l) (h0 : p.arm = 0) :
    Calls Try.prog 57 #[.pointer (some ⟨B, 0, none⟩)] w fun r w' => r = .returned (.bool false) ∧ w' = w := by
  obtain ⟨k0, k1, k2, k3, -⟩ := h.cells
  rw [h0] at k1
  clear h
  go_enter Try.func57, Try.ntmps57
  go_wp2
  go_ret
  exact ⟨rfl, rfl⟩
end Go.Proofs.Ytbjnhohfdpdcnaa
