/-
  The document's store: a client's place.
-/
import Derived.Test.YtglhjgfaelfleaaGreatJde
namespace Go.Proofs.YtglhjgfaelfleaaGreat
open Go.RowKit
set_option linter.unusedVariables false

def plS (cl : Int) (ss : List Se) : Nat := (ss.takeWhile (fun s => decide (s.cl < cl))).length
theorem plS_le (cl : Int) (ss : List Se) : plS cl ss ≤ ss.length := (List.takeWhile_prefix _).length_le
theorem before_int (a b : Int) : (Lit.int .i64 a).before (.int .i64 b) = decide (a < b) := by simp [Lit.before]
theorem plS_eq (cl : Int) (ss : List Se) : plK kS (.int .i64 cl) ss = plS cl ss := by
  unfold plK plS
  congr 1
theorem plS_look {cl : Int} {ss : List Se} (hr : Ris kS ss) : (∃ h : plS cl ss < ss.length, ss[plS cl ss].cl = cl ∧ lookS cl ss = some ss[plS cl ss]) ∨ (lookS cl ss = none ∧ ∀ h : plS cl ss < ss.length, ¬ ss[plS cl ss].cl = cl) := by
  have key : ∀ y, lookS cl ss = some y → ∃ h : plS cl ss < ss.length, ss[plS cl ss].cl = cl ∧ y = ss[plS cl ss] := by
    intro y hq
    obtain ⟨h1, h2⟩ := lookK_some hq
    have hy : y.cl = cl := by have := WideAt.sameKey_eq h2; simpa [kS] using this
    obtain ⟨j, hj, rfl⟩ := List.mem_iff_getElem.1 h1
    rcases Nat.lt_trichotomy j (plS cl ss) with hlt | heq | hgt
    · obtain ⟨_, h3⟩ := tw_take hlt
      simp only [decide_eq_true_eq] at h3
      omega
    · subst heq; exact ⟨hj, hy, rfl⟩
    · have hl : plS cl ss < ss.length := by omega
      have h4 := List.pairwise_iff_getElem.1 hr (plS cl ss) j hl hj hgt
      have h5 : (Lit.int .i64 ss[plS cl ss].cl).before (.int .i64 ss[j].cl) = true := h4
      rw [before_int, decide_eq_true_eq] at h5
      have hs := tw_stop (f := fun s : Se => decide (s.cl < cl)) (xs := ss) hl
      have hs' : decide (ss[plS cl ss].cl < cl) = false := hs
      rw [decide_eq_false_iff_not] at hs'
      omega
  cases hq : lookS cl ss with
  | some y =>
    obtain ⟨h, h1, h2⟩ := key y hq
    exact .inl ⟨h, h1, by rw [h2]⟩
  | none =>
    refine .inr ⟨rfl, fun h e => ?_⟩
    have := lookK_none hq _ (List.getElem_mem h)
    simp [kS, Lit.sameKey, e] at this
/-- Behind Do. -/
def Xd (d : Nat) (vp vs : Value) : Nat → Prop := fun i => i = d ∨ vp.ownBlock = some i ∨ vs.ownBlock = some i
def DoW (N : Nat) (W : World) (d : Nat) (vp0 vs0 : Value) (K' : KV) (r : Rp) (ck : Nat) (e : Ending) (w' : World) : Prop :=
  e = .returned (.tuple #[.agg #[.int .i64 r.code, .string ⟨r.val.toArray⟩], .int .i64 (ck : Int)]) ∧ (∃ vp vs, DS N w' d vp vs K') ∧ Out (Xd d vp0 vs0) W w'
theorem DoW.keep {N : Nat} {W w' : World} {d ck : Nat} {vp vs : Value} {K : KV} {r : Rp} (h : DS N W d vp vs K) (hN : N ≤ W.heap.size) (hB : Below W.heap.size W w') : DoW N W d vp vs K r ck (.returned (.tuple #[.agg #[.int .i64 r.code, .string ⟨r.val.toArray⟩], .int .i64 (ck : Int)])) w' :=
  ⟨rfl, ⟨vp, vs, h.below hB⟩, Out.of_below hB⟩
/-- A session is written over, cell by cell. -/
theorem Ro.setS {N : Nat} {w : World} {g n cap : Nat} {xs : List Se} (h : Ro RT N w (.slice (some ⟨g, 0, none⟩) n cap) xs) (i : Nat) (hi : i < xs.length) (s : Se) :
    Ro RT N ((((w.setCell ⟨g, i * 4, none⟩ (.int .i64 s.cl)).setCell ⟨g, i * 4 + 1, none⟩ (.int .i64 s.sq)).setCell ⟨g, i * 4 + 2, none⟩ (.int .i64 s.rp.code)).setCell ⟨g, i * 4 + 3, none⟩ (.string ⟨s.rp.val.toArray⟩)) (.slice (some ⟨g, 0, none⟩) n cap) (xs.set i s) := by
  have h1 := Ro.set (R := RT) h i 0 hi (by decide) (.int .i64 s.cl) ⟨s.cl, xs[i].sq, xs[i].rp⟩ rfl
  have h2 := Ro.set (R := RT) h1 i 1 (by simpa using hi) (by decide) (.int .i64 s.sq) ⟨s.cl, s.sq, xs[i].rp⟩ (by simp [RT, encE])
  have h3 := Ro.set (R := RT) h2 i 2 (by simpa using hi) (by decide) (.int .i64 s.rp.code) ⟨s.cl, s.sq, ⟨s.rp.code, xs[i].rp.val⟩⟩ (by simp [RT, encE])
  have h4 := Ro.set (R := RT) h3 i 3 (by simpa using hi) (by decide) (.string ⟨s.rp.val.toArray⟩) s (by simp [RT, encE])
  rw [List.set_set, List.set_set, List.set_set] at h4
  exact h4
theorem out4 {w : World} {g a b c e : Nat} {u1 u2 u3 u4 : Value} : Out (fun i => i = g) w ((((w.setCell ⟨g, a, none⟩ u1).setCell ⟨g, b, none⟩ u2).setCell ⟨g, c, none⟩ u3).setCell ⟨g, e, none⟩ u4) :=
  (((Out.set (X := fun i => i = g) rfl).put rfl).put rfl).put rfl
end Go.Proofs.YtglhjgfaelfleaaGreat
