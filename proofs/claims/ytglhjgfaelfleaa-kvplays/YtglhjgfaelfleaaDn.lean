/-
  The document's store: Do.
-/
import Derived.Test.YtglhjgfaelfleaaDg
import Derived.Test.YtglhjgfaelfleaaDh
import Derived.Test.YtglhjgfaelfleaaDz
namespace Go.Proofs.Ytglhjgfaelfleaa
open Go.RowKit
set_option linter.unusedVariables false

theorem rdo_any {N : Nat} {W : World} {d : Nat} {vp vs : Value} {K : KV} (h : DS N W d vp vs K) (hN : N ≤ W.heap.size) (c : Cm) (hr1 : Ris kP (doF K c).1.ps) (hr2 : Ris kS (doF K c).1.ss) :
    Calls Try.prog 12 #[.pointer (some ⟨d, 0, none⟩), .agg #[.int .i64 c.op, .int .i64 c.cl, .int .i64 c.sq, .string ⟨c.key.toArray⟩, .string ⟨c.val.toArray⟩, .string ⟨c.old.toArray⟩]] W fun e w' => DoW N W d vp vs (doF K c).1 (doF K c).2 c.ck e w' := by
  have hok := doF_ok h.ok c
  obtain ⟨op, cl, sq, ky, vl, od⟩ := c
  by_cases hck : ckCommand op cl sq ky vl od = 0
  · have hck' : Cm.ck ⟨op, cl, sq, ky, vl, od⟩ = 0 := hck
    obtain ⟨hop, -⟩ := ck_ok hck'
    rw [hck']
    have eD : doF K ⟨op, cl, sq, ky, vl, od⟩ = (match settled K.ss cl sq with | some r => (K, r) | none => (⟨(opK K.ps ⟨op, cl, sq, ky, vl, od⟩).1, putK kS ⟨cl, sq, (opK K.ps ⟨op, cl, sq, ky, vl, od⟩).2⟩ K.ss⟩, (opK K.ps ⟨op, cl, sq, ky, vl, od⟩).2)) := by
      unfold doF
      rw [if_neg (by simpa using hck')]
      rfl
    rw [eD] at hr1 hr2 hok ⊢
    clear eD
    rcases plS_look (cl := cl) h.rise with ⟨hlt, hcl, hl⟩ | ⟨hl, hun⟩
    · obtain ⟨p, hp⟩ : ∃ p, K.ss[plS cl K.ss] = p := ⟨_, rfl⟩
      obtain ⟨pcl, psq, pco, pva⟩ := p
      rw [hp] at hcl hl
      dsimp only at hcl
      subst pcl
      by_cases h1 : psq < sq
      · have es : settled K.ss cl sq = none := by unfold settled; rw [hl]; dsimp only; rw [if_pos h1]
        rw [es] at hr1 hr2 hok ⊢
        dsimp only at hr1 hr2 hok ⊢
        have hpt : putK kS ⟨cl, sq, (opK K.ps ⟨op, cl, sq, ky, vl, od⟩).2⟩ K.ss = K.ss.set (plS cl K.ss) ⟨cl, sq, (opK K.ps ⟨op, cl, sq, ky, vl, od⟩).2⟩ := by
          have := put_place keySe (x := ⟨cl, sq, (opK K.ps ⟨op, cl, sq, ky, vl, od⟩).2⟩) h.rise hlt (by show kS K.ss[plS cl K.ss] = _; rw [hp]; rfl)
          exact this
        exact rdo_more h hN op cl sq ky vl od hck hlt psq pco pva hp h1 _ (by rw [hpt]) hr1 hr2 hok hop
      · by_cases h2 : sq = psq
        · have es : settled K.ss cl sq = some ⟨pco, pva⟩ := by unfold settled; rw [hl]; dsimp only; rw [if_neg h1, if_pos h2]
          rw [es]
          exact rdo_same h hN op cl sq ky vl od hck hlt psq pco pva hp h2
        · have es : settled K.ss cl sq = some ⟨4, []⟩ := by unfold settled; rw [hl]; dsimp only; rw [if_neg h1, if_neg h2]
          rw [es]
          exact rdo_old h hN op cl sq ky vl od hck hlt psq pco pva hp (by omega)
    · by_cases hfl : 32 ≤ K.ss.length
      · have es : settled K.ss cl sq = some ⟨5, []⟩ := by unfold settled; rw [hl]; dsimp only; rw [if_pos hfl]
        rw [es]
        exact rdo_full h hN op cl sq ky vl od hck hun hfl
      · have es : settled K.ss cl sq = none := by unfold settled; rw [hl]; dsimp only; rw [if_neg hfl]
        rw [es] at hr1 hr2 hok ⊢
        dsimp only at hr1 hr2 hok ⊢
        have hpl := plS_le cl K.ss
        rcases h.rs.2 with ⟨hv, hz⟩ | ⟨g0, sc, cur, hv, _, _, hsc, _⟩
        · exact rdo_nil h hN op cl sq ky vl od hck (List.length_eq_zero_iff.1 hz) hv _ rfl hr1 hr2 hok hop
        · by_cases hm : plS cl K.ss < K.ss.length
          · exact rdo_mid h hN op cl sq ky vl od hck hun hl (by omega) hm g0 sc (by omega) hv _ rfl hr1 hr2 hok hop
          · by_cases he : plS cl K.ss < sc
            · exact rdo_end h hN op cl sq ky vl od hck hun hl (by omega) hm g0 sc he hv _ rfl hr1 hr2 hok hop
            · have e2 : plS cl K.ss = sc := by omega
              exact rdo_eq h hN op cl sq ky vl od hck hun hl (by omega) hm g0 (by rw [hv, e2]) _ rfl hr1 hr2 hok hop
  · have hck' : ¬ Cm.ck ⟨op, cl, sq, ky, vl, od⟩ = 0 := hck
    have eD : doF K ⟨op, cl, sq, ky, vl, od⟩ = (K, rp0) := by unfold doF; rw [if_pos hck']
    rw [eD]
    exact rdo_bad h hN op cl sq ky vl od hck
end Go.Proofs.Ytglhjgfaelfleaa
