/-
  A piece of a row, appended to a row of the call's own.
-/
import Derived.Test.YtglhjgfaelfleaaGreatDt
namespace Go.Proofs.YtglhjgfaelfleaaGreat
open Go.RowKit
set_option linter.unusedVariables false
variable {α : Type}

/-- The things ys lie from xa on. -/
def Pc (R : RK α) (w : World) (xa : Option Addr) (ys : List α) : Prop := ys = [] ∨ ∃ b off, xa = some ⟨b, off, none⟩ ∧ ∀ j u, (ys.flatMap R.enc)[j]? = some u → w.cell? ⟨b, off + j, none⟩ = some u
theorem Pc.below {R : RK α} {w w' : World} {xa : Option Addr} {ys : List α} (h : Pc R w xa ys) (hB : Below w.heap.size w w') : Pc R w' xa ys := by
  rcases h with h | ⟨b, off, rfl, hc⟩
  · exact .inl h
  · refine .inr ⟨b, off, rfl, fun j u hj => ?_⟩
    have h1 := hc j u hj
    have h2 : b < w.heap.size := World.block_lt_of_cell? w ⟨b, off + j, none⟩ h1
    exact (hB.cell (p := ⟨b, off + j, none⟩) h2).trans h1
theorem Ro.piece {R : RK α} {N : Nat} {w : World} {v : Value} {xs : List α} (h : Ro R N w v xs) {g cap : Nat} (hv : v = .slice (some ⟨g, 0, none⟩) xs.length cap) (i n : Nat) (hi : i + n ≤ xs.length) : Pc R w (some ⟨g, i * R.k, none⟩) ((xs.drop i).take n) := by
  rcases h.2 with ⟨e, _⟩ | ⟨g', cap', cur, e, hN, hb, h3, h4, h5, h6⟩
  · rw [e] at hv; cases hv
  · rw [e] at hv
    cases hv
    refine .inr ⟨g, i * R.k, rfl, fun j u hj => ?_⟩
    have hlen : (((xs.drop i).take n).flatMap R.enc).length = n * R.k := by rw [flat_len, List.length_take, List.length_drop, Nat.min_eq_left (by omega)]
    have hj' : j < n * R.k := by rw [← hlen]; exact (List.getElem?_eq_some_iff.1 hj).1
    have hq : j / R.k < n := Nat.div_lt_of_lt_mul (by rw [Nat.mul_comm]; exact hj')
    have hm : j % R.k < R.k := Nat.mod_lt _ R.pos
    have ej : j / R.k * R.k + j % R.k = j := Nat.div_add_mod' j R.k
    have e1 := flat_get R ((xs.drop i).take n) (j / R.k) (j % R.k) (by rw [List.length_take, List.length_drop]; omega) hm
    rw [ej, hj] at e1
    have e2 := flat_get R xs (i + j / R.k) (j % R.k) (by omega) hm
    have e3 : ((xs.drop i).take n)[j / R.k]'(by rw [List.length_take, List.length_drop]; omega) = xs[i + j / R.k] := by simp
    rw [e3] at e1
    rw [← e1] at e2
    have e4 : (i + j / R.k) * R.k + j % R.k = i * R.k + j := by rw [Nat.add_mul, Nat.add_assoc, ej]
    rw [e4] at e2
    rw [← h6, List.getElem?_take_of_lt] at e2
    · simp only [World.cell?, hb]
      simpa using e2
    · have h7 : (i + n) * R.k ≤ xs.length * R.k := Nat.mul_le_mul_right _ hi
      rw [Nat.add_mul] at h7
      omega

theorem run_append_rs (R : RK α) (ty : TypeId) (w : World) (N : Nat) (v : Value) (xs ys : List α) (hv : Ro R N w v xs) (ad : Addr) (cap : Nat) (hs : ad.spot = none) (hy : ∀ j u, (ys.flatMap R.enc)[j]? = some u → w.cell? ⟨ad.block, ad.off + j, none⟩ = some u) (hlen : xs.length + ys.length ≤ 1000000000) (hN : N ≤ w.heap.size) :
    ∃ v' w', (Builtin.append_ #[R.S, R.S] ty #[v, .slice (some ad) ys.length cap]).run Tryz.prog w = .ok v' w' ∧ Ro R N w' v' (xs ++ ys) ∧ w.grownBy w' v.ownBlock ∧ (v'.ownBlock = v.ownBlock ∨ v'.ownBlock = some w.heap.size) := by
  obtain ⟨i0, hi, hz0, hz1, hz2⟩ := info_parts R.info
  obtain ⟨b, off, spot⟩ := ad
  dsimp only at hs hy
  subst hs
  obtain ⟨v', w', r1, r2, r3, _, r5⟩ := run_append_own_at (P := Tryz.prog) w N R.S ty R.E i0 R.z R.k R.bytes R.und hi hz0 hz1 hz2 R.zc R.pos v xs.length (xs.flatMap R.enc) hv ⟨b, off, none⟩ ys.length cap (ys.flatMap R.enc) (flat_len R ys)
    (fun j u hj => by rw [Addr.add_lit]; exact hy j u hj) (flat_one R ys) (by unfold maxLen; omega) (Nat.le_trans (Nat.mul_le_mul_left _ R.by64) (by omega)) hN
  refine ⟨v', w', r1, ?_, r3, r5⟩
  unfold Ro
  simpa using r2
/-- As a law of the walk. -/
theorem wpList_append_rs (R : RK α) {ops : Array Oper} {rest : List Oper} {o : Oper} {a : Act} {Q : Exit → Act → World → Prop} {w : World} (hgd : o.guard = none) (s y : Operand)
    (ho : o.op = .call { callee := .builtin .append, args := #[s, y], argTypes := #[R.S, R.S] })
    (N : Nat) (v : Value) (xs ys : List α) (hs : a.eval s = v) (hv : Ro R N w v xs) (ad : Addr) (cap : Nat) (hspot : ad.spot = none) (hy : a.eval y = .slice (some ad) ys.length cap) (hc : ∀ j u, (ys.flatMap R.enc)[j]? = some u → w.cell? ⟨ad.block, ad.off + j, none⟩ = some u) (hlen : xs.length + ys.length ≤ 1000000000) (hN : N ≤ w.heap.size)
    (h : ∀ v' w', Ro R N w' v' (xs ++ ys) → w.grownBy w' v.ownBlock → (v'.ownBlock = v.ownBlock ∨ v'.ownBlock = some w.heap.size) → wpList Tryz.prog ops Q rest (a.put o.dst v') w') :
    wpList Tryz.prog ops Q (o :: rest) a w := by
  refine wpList_plain hgd fun K hK => ?_
  obtain ⟨v', w', hr, h2, h3, h4⟩ := run_append_rs R o.type w N v xs ys hv ad cap hspot hc hlen hN
  unfold Oper.wp execOp
  simp only [ho, resolve, invoke, builtin, Sem.run_bind, Sem.run_pure, Result.andThen_ok, List.map_toArray, List.map_cons, List.map_nil, hs, hy, hr]
  exact hK _ _ (h v' w' h2 h3 h4)
end Go.Proofs.YtglhjgfaelfleaaGreat
