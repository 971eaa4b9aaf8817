/-
  Commands that came in; few.
-/
import Derived.Test.YtglhjgfaelfleaaGreatSo
namespace Go.Proofs.YtglhjgfaelfleaaGreat
open Go.RowKit
set_option linter.unusedVariables false

/-- A command's cells. -/
def CmAt (W : World) (b o : Nat) (c : Cm) : Prop :=
  W.cell? ⟨b, o, none⟩ = some (.int .i64 c.op) ∧ W.cell? ⟨b, o + 1, none⟩ = some (.int .i64 c.cl) ∧ W.cell? ⟨b, o + 2, none⟩ = some (.int .i64 c.sq) ∧ W.cell? ⟨b, o + 3, none⟩ = some (.string ⟨c.key.toArray⟩) ∧ W.cell? ⟨b, o + 4, none⟩ = some (.string ⟨c.val.toArray⟩) ∧ W.cell? ⟨b, o + 5, none⟩ = some (.string ⟨c.old.toArray⟩)
/-- Small enough to be there at all. -/
def CmIn (c : Cm) : Prop := c.key.length ≤ maxLen ∧ c.val.length ≤ maxLen ∧ c.old.length ≤ maxLen
/-- v is a slice of commands below N. -/
def Cs (N : Nat) (W : World) (a : Option Addr) (cs : List Cm) : Prop :=
  cs.length ≤ maxLen ∧ (∀ c ∈ cs, CmIn c) ∧ (cs = [] ∨ ∃ b off, a = some ⟨b, off, none⟩ ∧ b < N ∧ ∀ i (hi : i < cs.length), CmAt W b (off + i * 6) cs[i])
theorem CmAt.below {N : Nat} {w w' : World} {b o : Nat} {c : Cm} (h : CmAt w b o c) (hb : b < N) (hB : Below N w w') : CmAt w' b o c := by
  obtain ⟨h0, h1, h2, h3, h4, h5⟩ := h
  exact ⟨(hB.cell (p := ⟨b, o, none⟩) hb).trans h0, (hB.cell (p := ⟨b, o + 1, none⟩) hb).trans h1, (hB.cell (p := ⟨b, o + 2, none⟩) hb).trans h2, (hB.cell (p := ⟨b, o + 3, none⟩) hb).trans h3, (hB.cell (p := ⟨b, o + 4, none⟩) hb).trans h4, (hB.cell (p := ⟨b, o + 5, none⟩) hb).trans h5⟩
theorem Cs.below {N : Nat} {w w' : World} {a : Option Addr} {cs : List Cm} (h : Cs N w a cs) (hB : Below N w w') : Cs N w' a cs := by
  obtain ⟨h1, h2, h3⟩ := h
  refine ⟨h1, h2, ?_⟩
  rcases h3 with h3 | ⟨b, off, e, hb, hc⟩
  · exact .inl h3
  · exact .inr ⟨b, off, e, hb, fun i hi => (hc i hi).below hb hB⟩
theorem Cs.at {N : Nat} {w : World} {a : Option Addr} {cs : List Cm} (h : Cs N w a cs) {i : Nat} (hi : i < cs.length) : ∃ b off, a = some ⟨b, off, none⟩ ∧ b < N ∧ CmAt w b (off + i * 6) cs[i] ∧ CmIn cs[i] := by
  obtain ⟨h1, h2, rfl | ⟨b, off, e, hb, hc⟩⟩ := h
  · simp at hi
  · exact ⟨b, off, e, hb, hc i hi, h2 _ (List.getElem_mem hi)⟩

/-- few's answer. -/
def FewR (cs : List Cm) (w : World) (e : Ending) (w' : World) : Prop := ∃ t, e = .returned (.bool t) ∧ (t = true → cs.length ≤ 400) ∧ ∃ n, w' = w.drewN n

set_option maxRecDepth 100000 in
set_option maxHeartbeats 4000000 in
theorem few_any (a : Option Addr) (cap : Nat) (cs : List Cm) (N : Nat) (w : World) (h : Cs N w a cs) :
    Calls Tryz.prog 5 #[.slice a cs.length cap] w fun e w' => FewR cs w e w' := by
  have HO : Hid (Cs N w a cs) := h
  have hl : cs.length ≤ maxLen := h.1
  unfold maxLen at hl
  clear h
  go_enter Tryz.func5, Tryz.ntmps5
  go_wp2_with fail
  go_loopw [3, 4] (fun nv iv wr => ∃ (n : Int) (k q : Nat), nv = .int .i64 n ∧ iv = .int .i64 (k : Int) ∧ k ≤ cs.length ∧ k ≤ 400 ∧ 0 ≤ n ∧ n ≤ 80000 ∧ wr = w.drewN q) (fun _ iv _ => cs.length - (intOf iv).toNat)
  case atStart => exact ⟨0, 0, 0, rfl, rfl, Nat.zero_le _, by omega, by omega, by omega, rfl⟩
  case round =>
    obtain ⟨n, k, q, rfl, rfl, hk, hk4, hn0, hn8, rfl⟩ := hrel
    by_cases hlt : k < cs.length
    · by_cases h4 : k < 400
      · obtain ⟨b, off, hea, hb, hc, hin⟩ := HO.out.at hlt
        subst hea
        generalize cs[k] = x at *
        obtain ⟨op, cl, sq, ky, vl, od⟩ := x
        obtain ⟨c0, c1, c2, c3, c4, c5⟩ := hc
        obtain ⟨hi3, hi4, hi5⟩ := hin
        dsimp only at c3 c4 c5 hi3 hi4 hi5
        unfold maxLen at hi3 hi4 hi5
        have i0 : (0 : Int) ≤ (k : Int) := by omega
        have i1 : (k : Int) < (cs.length : Int) := by omega
        have h4' : (k : Int) < 400 := by omega
        obtain ⟨m3, hm3⟩ : ∃ m3 : Int, min (ky.length : Int) 40000 = m3 := ⟨_, rfl⟩
        obtain ⟨m4, hm4⟩ : ∃ m4 : Int, min (vl.length : Int) 40000 = m4 := ⟨_, rfl⟩
        obtain ⟨m5, hm5⟩ : ∃ m5 : Int, min (od.length : Int) 40000 = m5 := ⟨_, rfl⟩
        have b3 : 0 ≤ m3 ∧ m3 ≤ 40000 := by omega
        have b4 : 0 ≤ m4 ∧ m4 ≤ 40000 := by omega
        have b5 : 0 ≤ m5 ∧ m5 ≤ 40000 := by omega
        go_wp2_with fail
        go_region_held3 (fun W => W.cell? ⟨b, off + k * 6 + 3, none⟩ = some (.string ⟨ky.toArray⟩) ∧ W.cell? ⟨b, off + k * 6 + 4, none⟩ = some (.string ⟨vl.toArray⟩) ∧ W.cell? ⟨b, off + k * 6 + 5, none⟩ = some (.string ⟨od.toArray⟩)) (go_keep) (fail)
        all_goals
          have hbig : 0 ≤ n + m3 + m4 + m5 ∧ n + m3 + m4 + m5 ≤ 300000 := by omega
          clear hm3 hm4 hm5
          go_wp2
          go_roundw
          case rel => exact ⟨_, k + 1, q + 1, rfl, by go_num, by omega, by omega, by omega, by omega, rfl⟩
          case measure => simp [intOf]; omega
      · have h4' : decide ((k : Int) < 400) = false := by simp; omega
        have hlt' : (k : Int) < (cs.length : Int) := by omega
        have hgt : decide ((cs.length : Int) ≤ 400) = false := by simp; omega
        go_wp2
        go_ret
        exact ⟨_, rfl, fun h => by simp at h, q, rfl⟩
    · have hlt' : decide ((k : Int) < (cs.length : Int)) = false := by simp; omega
      have hle : (cs.length : Int) ≤ 400 := by omega
      go_wp2
      go_ret
      exact ⟨_, rfl, fun _ => by omega, q, rfl⟩
end Go.Proofs.YtglhjgfaelfleaaGreat
