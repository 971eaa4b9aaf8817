/-
  The document's store: what a command does to the keys.
-/
import Derived.Test.YtglhjgfaelfleaaDe1
import Derived.Test.YtglhjgfaelfleaaDe2
import Derived.Test.YtglhjgfaelfleaaDe3
import Derived.Test.YtglhjgfaelfleaaDe4
import Derived.Test.YtglhjgfaelfleaaDe5
namespace Go.Proofs.Ytglhjgfaelfleaa
open Go.RowKit
set_option linter.unusedVariables false

theorem rdoes_any {N : Nat} {W : World} {d : Nat} {vp vs : Value} {K : KV} (h : DS N W d vp vs K) (hN : N ≤ W.heap.size) (c : Cm) (hop : 2 ≤ c.op ∧ c.op ≤ 4) :
    Calls Try.prog 30 #[.pointer (some ⟨d, 0, none⟩), .agg #[.int .i64 c.op, .int .i64 c.cl, .int .i64 c.sq, .string ⟨c.key.toArray⟩, .string ⟨c.val.toArray⟩, .string ⟨c.old.toArray⟩]] W fun e w' => DoR N W d vp vs K (opK K.ps c) e w' := by
  obtain ⟨op, cl, sq, ky, vl, od⟩ := c
  dsimp only at hop ⊢
  rcases plc_look (key := ky) h.ris with ⟨hth, hlt, hk, hl⟩ | ⟨hth, hl⟩
  · have hst : putK kP (ky, vl) K.ps = K.ps.set (plc ky K.ps) (ky, vl) := put_place keyP (x := (ky, vl)) h.ris hlt (by show kP _ = kP _; simp only [kP]; exact congrArg _ hk)
    have hdl : delK kP (.string ky) K.ps = K.ps.take (plc ky K.ps) ++ K.ps.drop (plc ky K.ps + 1) := del_place keyP (k := .string ky) h.ris hlt (by show kP _ = _; simp only [kP]; exact congrArg _ hk)
    obtain ⟨pk, pv⟩ : ∃ p, K.ps[plc ky K.ps] = p := ⟨_, rfl⟩
    obtain ⟨pk, pw⟩ := pk
    have hpk : pk = ky := by rw [pv] at hk; exact hk
    by_cases h2 : op = 2
    · have e : opK K.ps ⟨op, cl, sq, ky, vl, od⟩ = (K.ps.set (plc ky K.ps) (ky, vl), ⟨1, []⟩) := by unfold opK; rw [if_pos h2, hl]; dsimp only; rw [hst]
      rw [e]
      exact rd_set2 h hN op cl sq ky vl od hth hlt h2 pk pw pv hpk
    by_cases h3 : op = 3
    · have e : opK K.ps ⟨op, cl, sq, ky, vl, od⟩ = (K.ps.take (plc ky K.ps) ++ K.ps.drop (plc ky K.ps + 1), ⟨1, []⟩) := by unfold opK; rw [if_neg h2, if_pos h3, hl]; dsimp only; rw [hdl]
      rw [e]
      exact rd_del h hN op cl sq ky vl od hth hlt h3
    have h4 : op = 4 := by omega
    by_cases ho : pw = od
    · have e : opK K.ps ⟨op, cl, sq, ky, vl, od⟩ = (K.ps.set (plc ky K.ps) (ky, vl), ⟨1, []⟩) := by unfold opK; rw [if_neg h2, if_neg h3, hl]; dsimp only; rw [pv, if_pos ho, hst]
      rw [e]
      exact rd_set4 h hN op cl sq ky vl od hth hlt h4 pk pw pv hpk ho
    · have e : opK K.ps ⟨op, cl, sq, ky, vl, od⟩ = (K.ps, ⟨3, pw⟩) := by unfold opK; rw [if_neg h2, if_neg h3, hl]; dsimp only; rw [pv, if_neg ho]
      rw [e]
      exact rd_oth h hN op cl sq ky vl od hth hlt h4 pk pw pv ho
  · by_cases h2 : op = 2
    · by_cases hfl : 128 ≤ K.ps.length
      · have e : opK K.ps ⟨op, cl, sq, ky, vl, od⟩ = (K.ps, ⟨5, []⟩) := by unfold opK; rw [if_pos h2, hl]; dsimp only; rw [if_pos hfl]
        rw [e]
        exact rd_full h hN op cl sq ky vl od hth h2 hfl
      · have e : opK K.ps ⟨op, cl, sq, ky, vl, od⟩ = (K.ps.take (plc ky K.ps) ++ (ky, vl) :: K.ps.drop (plc ky K.ps), ⟨1, []⟩) := by unfold opK; rw [if_pos h2, hl]; dsimp only; rw [if_neg hfl]; exact congrArg (·, _) (putK_new keyP (totP (ky, vl)) hl)
        rw [e]
        exact rd_put h hN op cl sq ky vl od hth h2 hfl
    · have e : opK K.ps ⟨op, cl, sq, ky, vl, od⟩ = (K.ps, ⟨2, []⟩) := by
        unfold opK
        rw [if_neg h2, hl]
        dsimp only
        split <;> rfl
      rw [e]
      exact rd_none h hN op cl sq ky vl od hth h2

end Go.Proofs.Ytglhjgfaelfleaa
