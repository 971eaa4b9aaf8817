/-
  The document's All; frame.Each.
-/
import Derived.Test.YthhnjiodfbckcaaRefGet
import Derived.Test.YthhnjiodfbckcaaAll
namespace Go.Proofs.Ythhnjiodfbckcaa
open Go.RowKit Go.Shelf

/-- One payload more in a list. -/
theorem pays_more {N : Nat} {W w1 : World} {v v' : Value} {xs : List FrD} {x : FrD} {tmp : Obj} (hN : N ≤ W.heap.size)
    (hrow : W.ownsRow N 22 1 v xs.length (xs.map FrD.v)) (hp : ∀ y ∈ xs, Ow N W y.v y.pay) (hx : Ow N W x.v x.pay)
    (hown' : w1.ownsRow N 22 1 v' (xs.length + 1) (xs.map FrD.v ++ [x.v])) (hgrow : (W.alloc tmp).grownBy w1 v.ownBlock) :
    w1.ownsRow N 22 1 v' (xs ++ [x]).length ((xs ++ [x]).map FrD.v) ∧ (∀ y ∈ xs ++ [x], Ow N w1 y.v y.pay) ∧ Below N W w1 := by
  have keep : ∀ y : FrD, Ow N W y.v y.pay → Ow N w1 y.v y.pay := by
    intro y hO
    refine (hO.alloc tmp).kept hgrow ?_
    rcases hrow.2 with ⟨h, _⟩ | ⟨g2, cap, cur, h, _, hgb, _⟩
    · rw [h]
      cases e : y.v.ownBlock with
      | none => exact .inl rfl
      | some k => exact .inr (by simp [Value.ownBlock])
    · right; rw [h]; exact hO.not_at hgb (by decide)
  refine ⟨by simpa using hown', fun y hy => ?_, ?_⟩
  · rcases List.mem_append.1 hy with h | h
    · exact keep y (hp y h)
    · obtain rfl : y = x := by simpa using h
      exact keep y hx
  · refine ((Below.refl N W).alloc hN tmp).grown hgrow (by simp; omega) fun k e => ?_
    exact (World.ownsRow.lt hrow k e).1

/-- What the document's All answers. -/
def RAllP (b : List UInt8) (w w' : World) (e : Ending) : Prop :=
  ∃ (xs : List FrD) (la : Option Addr) (lc : Nat), e = .returned (.tuple #[.slice la xs.length lc, .int .i64 (endOf b : Int), .int .i64 (allE b : Int)]) ∧ xs.map FrD.key = framesOf b ∧
    w'.ownsRow w.heap.size 22 1 (.slice la xs.length lc) xs.length (xs.map FrD.v) ∧ (∀ x ∈ xs, Ow w.heap.size w' x.v x.pay) ∧ Below w.heap.size w w'

set_option maxRecDepth 100000 in
set_option maxHeartbeats 2000000 in
theorem refAll_any (N : Nat) (v : Value) (b : List UInt8) (w : World) (hv : Sl N w v b) (hN : N ≤ w.heap.size) (hbl : b.length ≤ 1099511627776) :
    Calls Try.prog 23 #[v] w fun e w' => RAllP b w w' e := by
  obtain ⟨i0, hi, hz0, hz1', hz2'⟩ := info_parts info22
  obtain ⟨a, cap, rfl, -, hcm, -⟩ := id hv
  unfold maxLen at hcm
  have hfl := framesOf_len b
  go_enter Try.func23, Try.ntmps23
  go_wp2
  go_loopw [5, 6] (fun o q wr => ∃ (xs : List FrD) (k f : Nat), q = .int .i64 (k : Int) ∧ k ≤ b.length ∧ b.length - k < f ∧ xs.map FrD.key ++ framesFrom f b k = framesOf b ∧ endFrom f b k = endOf b ∧ (∃ oa oc, o = .slice oa xs.length oc) ∧ wr.ownsRow w.heap.size 22 1 o xs.length (xs.map FrD.v) ∧ (∀ y ∈ xs, Ow w.heap.size wr y.v y.pay) ∧ Below w.heap.size w wr) (fun _ q _ => b.length - (intOf q).toNat)
  case atStart => exact ⟨[], 0, b.length + 1, rfl, by omega, by omega, rfl, rfl, ⟨none, 0, rfl⟩, World.ownsRow_nil _ _ _ _, (fun y hy => by cases hy), Below.refl _ _⟩
  case round =>
    obtain ⟨xs, k, f, rfl, hk, hf, hs, he, ⟨oa, oc, rfl⟩, hrow, hp, hB⟩ := hrel
    obtain ⟨f, rfl⟩ : ∃ f', f = f' + 1 := ⟨f - 1, by omega⟩
    have hz := hB.size
    have hxl : xs.length ≤ b.length := by have := congrArg List.length hs; simp at this; omega
    have hgo := getAt_ok b k
    have hgx : framesFrom (f + 1) b k = if (getAt b (k : Int)).2.2 = 0 then (k, (getAt b (k : Int)).1) :: framesFrom f b (k + (getAt b (k : Int)).2.1) else [] := rfl
    have hgy : endFrom (f + 1) b k = if (getAt b (k : Int)).2.2 = 0 then endFrom f b (k + (getAt b (k : Int)).2.1) else k := rfl
    by_cases hlt : k < b.length
    · have CG := refGet_any N _ b (k : Int) wr (hv.below (hB.mono hN)) (Nat.le_trans hN hz) hbl
      by_cases h0 : (getAt b (k : Int)).2.2 = 0
      · rw [hgx, if_pos h0] at hs
        rw [hgy, if_pos h0] at he
        obtain ⟨h81, h82⟩ := hgo h0
        have HR : Hid (∀ (x : FrD) w2, x.key = (k, (getAt b (k : Int)).1) → Ow wr.heap.size w2 x.v x.pay → Below wr.heap.size wr w2 → w2.ownsRow w.heap.size 22 1 (.slice oa xs.length oc) xs.length (xs.map FrD.v) ∧ w.heap.size ≤ w2.heap.size ∧
            ∀ v' w3, w3.ownsRow w.heap.size 22 1 v' (xs.length + 1) (xs.map FrD.v ++ [x.v]) → (w2.alloc (.cells #[x.v] 22)).grownBy w3 (Value.slice oa xs.length oc).ownBlock →
              ∃ ys : List FrD, ys.length = xs.length + 1 ∧ ys.map FrD.key ++ framesFrom f b (k + (getAt b (k : Int)).2.1) = framesOf b ∧ w3.ownsRow w.heap.size 22 1 v' ys.length (ys.map FrD.v) ∧ (∀ y ∈ ys, Ow w.heap.size w3 y.v y.pay) ∧ Below w.heap.size w w3) := by
          intro x w2 hxk hxO hB2
          have hrow2 : w2.ownsRow w.heap.size 22 1 (.slice oa xs.length oc) xs.length (xs.map FrD.v) := hrow.kept (Below.grownBy' hB2 none) (by
            cases e : (Value.slice oa xs.length oc).ownBlock with
            | none => exact .inl rfl
            | some k => exact .inr (by simp))
          have hz2 := Nat.le_trans hz hB2.size
          refine ⟨hrow2, hz2, fun v' w3 ho hg => ?_⟩
          obtain ⟨r1, r2, r3⟩ := pays_more hz2 hrow2 (fun y hy => (hp y hy).below hB2 (Nat.le_refl _)) (hxO.base hz) ho hg
          refine ⟨xs ++ [x], by simp, ?_, r1, r2, (hB.trans (hB2.mono hz)).trans r3⟩
          rw [← hs, List.map_append, List.append_assoc]
          simp [hxk]
        have HE : Hid (endFrom f b (k + (getAt b (k : Int)).2.1) = endOf b) := he
        have hpl := h81
        clear hs he hrow hp hB hgx hgy hgo hv
        generalize getAt b (k : Int) = g at *
        obtain ⟨pp, n, ee⟩ := g
        simp only at *
        subst h0
        go_wp2_with (first
          | (go_at_call 20; refine CG.mono ?_; rintro e w2 ⟨v2, rfl, hO2, hB2⟩; obtain ⟨a2, c2, rfl, -⟩ := hO2.shape; obtain ⟨hrow2, hz2, HF⟩ := HR.out ⟨k, pp, a2, c2⟩ w2 rfl hO2 hB2; simp only [FrD.v] at HF hrow2 hO2)
          | (at_builtin; refine wpList_append_own_at _ rfl _ _ 40 rfl w.heap.size 22 i0 (.slice none 0 0) 1 24 Try.underlying40 hi hz0 hz1' hz2' rfl (by decide) _ _ _ rfl (hrow2.alloc _) ⟨w2.heap.size, 0, none⟩ 1 1 [.slice a2 pp.length c2] rfl rfl (cell_one_new _ _ _) (by simp [Value.oneCell']) (by unfold maxLen; omega) (by omega) (by simp; omega) ?_; intro v' w3 hown' hgrow _ hnew; obtain ⟨ys, hF⟩ := HF v' w3 hown' hgrow; obtain ⟨g', cap', rfl⟩ := ownsRow_succ hown'; clear hown' hgrow hnew HF))
        go_roundw
        case rel => exact ⟨ys, k + n, f, by go_num, by omega, by omega, hF.2.1, HE.out, ⟨some ⟨g', 0, none⟩, cap', by rw [hF.1]⟩, hF.2.2.1, hF.2.2.2.1, hF.2.2.2.2⟩
        case measure => simp [intOf]; omega
      · rw [hgx, if_neg h0, List.append_nil] at hs
        rw [hgy, if_neg h0] at he
        have hAE : allE b = (getAt b (k : Int)).2.2 := by unfold allE; rw [← he, if_neg (by omega)]
        have HP : Hid (∀ w2, Below wr.heap.size wr w2 → RAllP b w w2 (.returned (.tuple #[.slice oa xs.length oc, .int .i64 (k : Int), .int .i64 ((getAt b (k : Int)).2.2 : Int)]))) := by
          intro w2 hB2
          refine ⟨xs, oa, oc, by rw [hAE, ← he], hs, hrow.kept (Below.grownBy' hB2 none) ?_, fun x hx => (hp x hx).below hB2 (Nat.le_refl _), hB.trans (hB2.mono hz)⟩
          cases e : (Value.slice oa xs.length oc).ownBlock with
          | none => exact .inl rfl
          | some k => exact .inr (by simp)
        clear hs he hrow hp hB hgx hgy hgo hv hAE
        generalize getAt b (k : Int) = g at *
        obtain ⟨pp, n, ee⟩ := g
        simp only at *
        have hee : ((ee : Int) != 0) = true := by rw [bne_iff_ne]; omega
        go_wp2_with (go_at_call 20; refine CG.mono ?_; rintro e w2 ⟨v2, rfl, hO2, hB2⟩; have hR2 := HP.out w2 hB2; clear hO2)
        go_ret3
        exact hR2
    · have hkb : k = b.length := by omega
      have hga : (getAt b (k : Int)).2.2 ≠ 0 := by
        intro h
        have := hgo h
        omega
      rw [hgx, if_neg hga, List.append_nil] at hs
      rw [hgy, if_neg hga] at he
      have hAE : allE b = 0 := by unfold allE; rw [← he, if_pos hkb]
      have HP : Hid (RAllP b w wr (.returned (.tuple #[.slice oa xs.length oc, .int .i64 (k : Int), .int .i64 0]))) := ⟨xs, oa, oc, by rw [hAE, ← he]; rfl, hs, hrow, hp, hB⟩
      clear hs he hrow hp hB hgx hgy hgo hv hAE hga
      have hlt2 : (b.length : Int) ≤ (k : Int) := by omega
      clear hkb
      go_wp2
      go_ret3
      exact HP.out

set_option maxRecDepth 100000 in
set_option maxHeartbeats 1000000 in
/-- frame.Each: over a copy of its own. -/
theorem each_any (N : Nat) (v : Value) (b : List UInt8) (w : World) (hv : Sl N w v b) (hbl : b.length ≤ 1099511627776) :
    Calls Try.prog 25 #[v] w fun e w' => ∃ ca cc Bb, e = .returned (.func (.func 42) #[] #[.pointer (some ⟨Bb, 0, none⟩)]) ∧ Boxed w' Bb 22 (.slice ca b.length cc) ∧ Ow w.heap.size w' (.slice ca b.length cc) b ∧ w.heap.size ≤ Bb ∧ Below w.heap.size w w' := by
  obtain ⟨a, cap, rfl, -⟩ := id hv
  go_enter Try.func25, Try.ntmps25
  go_wp2_with (first
    | (go_at_call 36; refine (fresh_any N _ b w hv hbl).mono ?_; rintro e w2 ⟨v2, rfl, hO2, hB2⟩; obtain ⟨a2, c2, rfl, -⟩ := hO2.shape)
    | (go_at_call 38; refine (frames_any _ _ _ w2).mono ?_; rintro e w' ⟨rfl, hw⟩; subst w'))
  go_ret
  exact ⟨a2, c2, w2.heap.size, rfl, Boxed.new w2 22 _, hO2.alloc _, hB2.size, hB2.alloc hB2.size _⟩
end Go.Proofs.Ythhnjiodfbckcaa
