/-
  For every bytes and every stop the law FrameAlls returns true: All's payloads, count and error are the document's; the sequence tells the same frames each time it is gone over, and ends where it is left; what was handed in stays; no condition.
-/
import Derived.Test.YthhnjiodfbckcaaJoins
import Derived.Test.YthhnjiodfbckcaaRefAll
import Derived.Test.YthhnjiodfbckcaaMarks
import Derived.Test.YthhnjiodfbckcaaGone
namespace Go.Proofs.Ythhnjiodfbckcaa
open Go.ChangeShapes Go.WideShapes Go.ChangeAt Go.RowKit Go.Shelf
open Go.ChangeMaps (open_string shut_string)
attribute [local go_sem] Oper.semAt_some
set_option linter.unusedVariables false

theorem eql_nil (B : Nat) (w : World) : (binOp .eql 47 (.func (.func 42) #[] #[.pointer (some ⟨B, 0, none⟩)]) .nilFunc).run Try.prog w = .ok (.bool false) w := by kernel_rfl

/-- Of a row that the call owns only its own block is asked. -/
theorem ownsRow_heap {W W' : World} {base e size n : Nat} {v : Value} {xs : List Value} (h : W.ownsRow base e size v n xs) (hk : ∀ g, v.ownBlock = some g → W'.heap[g]? = W.heap[g]?) : W'.ownsRow base e size v n xs := by
  refine ⟨h.1, ?_⟩
  rcases h.2 with h' | ⟨g, cap, cur, h1, h2, h3, h4⟩
  · exact .inl h'
  · exact .inr ⟨g, cap, cur, h1, h2, (hk g (by rw [h1]; rfl)).trans h3, h4⟩

/-- One payload of All's answer appended to, and stored: the others stand. -/
theorem more_round {N2 N3 lb k lc : Nat} {W w3 : World} {xs : List FrD} {vals : List Value} {v' : Value} {tmp : Obj} (hk : k < xs.length)
    (hrow : W.ownsRow N2 22 1 (.slice (some ⟨lb, 0, none⟩) xs.length lc) xs.length vals) (hp : ∀ x ∈ xs.drop k, Ow N2 W x.v x.pay) (hap : Apart xs)
    (hb3 : lb < N3) (hx3 : ∀ x ∈ xs, ∀ k, x.v.ownBlock = some k → k < N3) (hd : vals.drop k = (xs.map FrD.v).drop k)
    (hgrow : (W.alloc tmp).grownBy w3 (xs[k]'hk).v.ownBlock) :
    w3.cell? ⟨lb, k, none⟩ = some (xs[k]'hk).v ∧ w3.frozen? ⟨lb, k, none⟩ = false ∧ (w3.setCell ⟨lb, k, none⟩ v').ownsRow N2 22 1 (.slice (some ⟨lb, 0, none⟩) xs.length lc) xs.length (vals.set k v') ∧
    (∀ x ∈ xs.drop (k + 1), Ow N2 (w3.setCell ⟨lb, k, none⟩ v') x.v x.pay) ∧ (vals.set k v').drop (k + 1) = (xs.map FrD.v).drop (k + 1) ∧
    (∀ j, j < W.heap.size → ¬ (N2 ≤ j ∧ j < N3) → (w3.setCell ⟨lb, k, none⟩ v').heap[j]? = W.heap[j]?) ∧ W.heap.size ≤ (w3.setCell ⟨lb, k, none⟩ v').heap.size := by
  have hdk : xs.drop k = (xs[k]'hk) :: xs.drop (k + 1) := List.drop_eq_getElem_cons hk
  have hxk : Ow N2 W (xs[k]'hk).v (xs[k]'hk).pay := hp _ (by rw [hdk]; exact List.mem_cons_self)
  have hlb : N2 ≤ lb ∧ lb < W.heap.size := World.ownsRow.lt hrow lb rfl
  obtain ⟨cur, hcur, hcs, htk⟩ : ∃ cur : Array Value, W.heap[lb]? = some (.cells cur 22) ∧ cur.size = lc * 1 ∧ cur.toList.take (xs.length * 1) = vals := by
    rcases hrow.2 with ⟨q, _⟩ | ⟨g, cap, cur, q1, q2, q3, q4, q5, q6, q7⟩
    · cases q
    · cases q1; exact ⟨cur, q3, q6, q7⟩
  have hne : (xs[k]'hk).v.ownBlock = none ∨ (xs[k]'hk).v.ownBlock ≠ some lb := by
    cases e : (xs[k]'hk).v.ownBlock with
    | none => exact .inl rfl
    | some q => exact .inr (by rw [← e]; exact hxk.not_at hcur (by decide))
  have hrow3 : w3.ownsRow N2 22 1 (.slice (some ⟨lb, 0, none⟩) xs.length lc) xs.length vals := (hrow.alloc tmp).kept hgrow (.inr (by
    rcases hne with e | e
    · rw [e]; simp [Value.ownBlock]
    · exact fun q => e q.symm))
  have hcur3 : w3.heap[lb]? = some (.cells cur 22) := by
    rcases hrow3.2 with ⟨q, _⟩ | ⟨g, cap, cur', q1, q2, q3, q4, q5, q6, q7⟩
    · cases q
    · cases q1
      have := (hgrow.block lb (by simp; omega) (by rcases hne with e | e; (rw [e]; simp); exact fun q => e q.symm)).trans (below_heap ((Below.refl _ W).alloc (Nat.le_refl _) tmp) hcur)
      exact this
  have hvk : vals[k]? = some (xs[k]'hk).v := by
    have : (vals.drop k)[0]? = ((xs.map FrD.v).drop k)[0]? := by rw [hd]
    rw [List.getElem?_drop, List.getElem?_drop, Nat.add_zero, List.getElem?_map, List.getElem?_eq_getElem hk] at this
    exact this
  have hck : cur.toList[k]? = some (xs[k]'hk).v := by
    rw [← htk, Nat.mul_one, List.getElem?_take, if_pos hk] at hvk
    exact hvk
  have hst := World.ownsRow.stored hrow3 k v'
  refine ⟨?_, ?_, hst.1, fun x hx => ?_, ?_, fun j hj hjn => ?_, ?_⟩
  · simp only [World.cell?, hcur3]
    simpa using hck
  · simp [World.frozen?, hcur3]
  · have hxO : Ow N2 W x.v x.pay := hp x (by rw [hdk]; exact List.mem_cons_of_mem _ hx)
    have hpa : x.v.ownBlock = none ∨ x.v.ownBlock ≠ (xs[k]'hk).v.ownBlock := by
      have := hap
      unfold Apart at this
      have h2 : (xs.drop k).Pairwise (fun x y => x.v.ownBlock = none ∨ x.v.ownBlock ≠ y.v.ownBlock) := this.sublist (List.drop_sublist _ _)
      rw [hdk] at h2
      have h3 := (List.pairwise_cons.1 h2).1 x hx
      rcases h3 with h3 | h3
      · cases e : x.v.ownBlock with
        | none => exact .inl rfl
        | some q => exact .inr (by rw [h3]; simp)
      · exact .inr (fun e => h3 e.symm)
    have hx1 : Ow N2 w3 x.v x.pay := (hxO.alloc tmp).kept hgrow hpa
    exact hx1.kept hst.2 (.inr (hx1.not_at hcur3 (by decide)))
  · rw [List.drop_set_of_lt (by omega)]
    have := congrArg (List.drop 1) hd
    rwa [List.drop_drop, List.drop_drop] at this
  · have hjl : j ≠ lb := fun e => hjn (by omega)
    have hjx : some j ≠ (xs[k]'hk).v.ownBlock := fun e => hjn ⟨(World.ownsRow.lt hxk j e.symm).1, hx3 _ (List.getElem_mem hk) j e.symm⟩
    have e1 := hst.2.block j (Nat.lt_of_lt_of_le hj (Nat.le_trans (by simp) hgrow.size)) (by simp [hjl])
    have e2 := hgrow.block j (by simp; omega) hjx
    have e3 : (W.alloc tmp).heap[j]? = W.heap[j]? := Below.heap_alloc _ _ _ hj
    rw [e1, e2, e3]
  · have := hst.2.size
    have h2 := hgrow.size
    simp only [World.size_alloc] at h2
    omega

/-- What the law's last loop reads. -/
def Bun (N1 N3 N5 Bs Bw Bb bl : Nat) (ma : Option Addr) (mc : Nat) (ys : List FrD) (ca : Option Addr) (cc : Nat) (b : List UInt8) (stop : Int) (W : World) : Prop :=
  W.ownsRow N3 22 1 (.slice ma ys.length mc) ys.length (ys.map FrD.v) ∧ (∀ x ∈ ys, Ow N3 W x.v x.pay) ∧ Boxed W Bw 40 (.slice ma ys.length mc) ∧ Boxed W Bb 22 (.slice ca bl cc) ∧ Ow N5 W (.slice ca bl cc) b ∧
  Boxed W Bs 3 (.int .i64 stop) ∧ Boxed W (Bs + 1) 4 (.bool false) ∧ Bs + 1 < N1 ∧ N3 ≤ Bw ∧ N3 ≤ Bb ∧ N3 ≤ N5 ∧ N1 ≤ N3

theorem Bun.keep {N1 N3 N5 Bs Bw Bb bl : Nat} {ma : Option Addr} {mc : Nat} {ys : List FrD} {ca : Option Addr} {cc : Nat} {b : List UInt8} {stop : Int} {W W' : World} (h : Bun N1 N3 N5 Bs Bw Bb bl ma mc ys ca cc b stop W)
    (hk : ∀ k, k < W.heap.size → ¬ (N1 ≤ k ∧ k < N3) → W'.heap[k]? = W.heap[k]?) : Bun N1 N3 N5 Bs Bw Bb bl ma mc ys ca cc b stop W' := by
  obtain ⟨h1, h2, h3, h4, h5, h6, h7, q1, q2, q3, q4, q5⟩ := h
  refine ⟨ownsRow_heap h1 (fun g e => hk g (World.ownsRow.lt h1 g e).2 (by have := (World.ownsRow.lt h1 g e).1; omega)), fun x hx => ownsRow_heap (h2 x hx) (fun g e => hk g (World.ownsRow.lt (h2 x hx) g e).2 (by have := (World.ownsRow.lt (h2 x hx) g e).1; omega)),
    (hk Bw h3.lt (by omega)).trans h3, (hk Bb h4.lt (by omega)).trans h4, ownsRow_heap h5 (fun g e => hk g (World.ownsRow.lt h5 g e).2 (by have := (World.ownsRow.lt h5 g e).1; omega)), (hk Bs h6.lt (by omega)).trans h6, (hk (Bs + 1) h7.lt (by omega)).trans h7, q1, q2, q3, q4, q5⟩

set_option maxRecDepth 100000 in
set_option maxHeartbeats 4000000 in
theorem frameAlls_in (n : Nat) (hn : 5 ≤ n) (v : Value) (b : List UInt8) (stop : Int) (w : World) (hv : Sl w.heap.size w v b) :
    CallsIn Fence.wide n Try.prog 5 #[v, .int .i64 stop] w fun e w' => e = .returned (.bool true) ∧ Below w.heap.size w w' := by
  have h1 : 1 ≤ n := by omega
  obtain ⟨a, c, rfl, -⟩ := id hv
  refine callsIn_of_wp_marks Try.func5 rfl trivial ?_ rfl
  simp only [Try.ntmps5, List.size_toArray, List.length_cons, List.length_nil, Nat.reduceAdd, Nat.reduceSub, Array.replicate_succ, Array.replicate_zero, List.push_toArray, List.append_toArray, List.nil_append, List.cons_append]
  have hB0 : Below w.heap.size w ((w.alloc (.cells #[.int .i64 stop] 3)).alloc (.cells #[.bool false] 4)) := ((Below.refl _ w).alloc (Nat.le_refl _) _).alloc (by simp) _
  have bS := (Boxed.new w 3 (.int .i64 stop)).alloc (.cells #[.bool false] 4)
  have bR := Boxed.new (w.alloc (.cells #[.int .i64 stop] 3)) 4 (.bool false)
  rw [World.size_alloc] at bR
  have hz0 : ((w.alloc (.cells #[.int .i64 stop] 3)).alloc (.cells #[.bool false] 4)).heap.size = w.heap.size + 1 + 1 := by simp
  gi_wp2_with fail
  generalize (w.alloc (.cells #[.int .i64 stop] 3)).alloc (.cells #[.bool false] 4) = W0 at *
  refine ⟨trivial, ?_⟩
  refine (callsIn_wide.2 (first_any _)).mono ?_
  rintro e w1 ⟨rfl, hB1⟩
  have hz1 := hB1.size
  have HW1 : Hid (Below w.heap.size w w1) := hB0.trans (hB1.mono (by omega))
  have bS1 := bS.kept (Below.grownBy' hB1 none) (by simp)
  have bR1 := bR.kept (Below.grownBy' hB1 none) (by simp)
  have hl0 : W0.heap.size = w.heap.size + 1 + 1 := hz0
  clear hB0 bS bR
  by_cases hl : b.length ≤ 4000
  · clear hB1
    have hv1 := (hv.below HW1.out).mono HW1.out.size
    gi_wp2_with fail
    refine ⟨trivial, ?_⟩
    refine (callsIn_wide.2 (lent_any w1.heap.size _ b _ hv1 (Nat.le_refl _) (by omega))).mono ?_
    rintro e w2 ⟨g, cap, rfl, hO2, hB2⟩
    have hz2 := hB2.size
    have hs2 := hO2.lent (Nat.le_refl w2.heap.size)
    have hgl : w1.heap.size ≤ g ∧ g < w2.heap.size := World.ownsRow.lt hO2 g rfl
    gi_wp2_with fail
    refine ⟨trivial, ?_⟩
    refine (callsIn_wide.2 (all_any _ b w2 hs2 (by omega))).mono ?_
    rintro e w3 ⟨xs, vl, rfl, hk3, hrow3, hpay3, hap3, hB3⟩
    have hz3 := hB3.size
    have hvl : ∃ la lc, vl = .slice la xs.length lc ∧ xs.length ≤ lc ∧ lc ≤ maxLen := by
      rcases hrow3.2 with ⟨q1, q2⟩ | ⟨g', cap', cur, q1, _, _, q2, q3, _⟩
      · exact ⟨none, 0, by rw [q1, q2], by omega, by unfold maxLen; omega⟩
      · exact ⟨_, _, q1, q2, q3⟩
    obtain ⟨la, lc, rfl, hlc1, hlc2⟩ := hvl
    have HW3 : Hid (Below w.heap.size w w3) := (HW1.out.trans (hB2.mono HW1.out.size)).trans (hB3.mono (Nat.le_trans HW1.out.size hz2))
    gi_wp2_with fail
    refine ⟨trivial, ?_⟩
    refine (callsIn_wide.2 (refAll_any w.heap.size _ b w3 (hv.below HW3.out) HW3.out.size (by omega))).mono ?_
    rintro e w4 ⟨ys, ma, mc, rfl, hk4, hrow4, hpay4, hB4⟩
    have hz4 := hB4.size
    have bW := Boxed.new w4 40 (.slice ma ys.length mc)
    have hBx : Below w4.heap.size w4 (w4.alloc (.cells #[.slice ma ys.length mc] 40)) := (Below.refl _ _).alloc (Nat.le_refl _) _
    have HXY : Hid (xs.map FrD.pay = ys.map FrD.pay) := by
      have q : (xs.map FrD.key).map Prod.snd = (ys.map FrD.key).map Prod.snd := by rw [hk3, hk4]
      rw [List.map_map, List.map_map] at q
      exact q
    have HXL : Hid (xs.length = ys.length) := by unfold Hid; have := congrArg List.length HXY.out; simpa using this
    have HK4 : Hid (ys.map FrD.key = framesOf b) := hk4
    have HPL : Hid (∀ x ∈ xs, x.pay.length ≤ 4000) := by
      intro x hx
      have := framesOf_in b x.key (by rw [← hk3]; exact List.mem_map_of_mem hx)
      simp only [FrD.key] at this
      omega
    clear hk3 hk4
    gi_wp2_with fail
    generalize hw4' : w4.alloc (.cells #[.slice ma ys.length mc] 40) = w4' at *
    have hB34 := hB4.trans (hBx.mono hz4)
    have hz4' := hBx.size
    have hrowx : w4'.ownsRow w2.heap.size 22 1 (.slice la xs.length lc) xs.length (xs.map FrD.v) := hrow3.kept (Below.grownBy' hB34 none) (by
      cases e : (Value.slice la xs.length lc).ownBlock with
      | none => exact .inl rfl
      | some k => exact .inr (by simp))
    have hpayx : ∀ x ∈ xs, Ow w2.heap.size w4' x.v x.pay := fun x hx => (hpay3 x hx).below hB34 (Nat.le_refl _)
    have hrowy : w4'.ownsRow w3.heap.size 22 1 (.slice ma ys.length mc) ys.length (ys.map FrD.v) := hrow4.kept (Below.grownBy' hBx none) (by
      cases e : (Value.slice ma ys.length mc).ownBlock with
      | none => exact .inl rfl
      | some k => exact .inr (by simp))
    have hpayy : ∀ x ∈ ys, Ow w3.heap.size w4' x.v x.pay := fun x hx => (hpay4 x hx).below hBx (Nat.le_refl _)
    refine ⟨trivial, ?_⟩
    have hSx := rows_sls hrowx hpayx
    have hSy := rows_sls hrowy hpayy
    rw [HXY.out] at hSx
    refine (callsIn_wide.2 (sameLists_any _ _ _ _ w4' hSx hSy)).mono ?_
    rintro e w5 ⟨rfl, n5, rfl⟩
    have hB5 : Below w4'.heap.size w4' (w4'.drewN n5) := below_drewN (Below.refl _ _) n5
    generalize w4'.drewN n5 = w5 at *
    have hz5 := hB5.size
    have hB25 : Below w2.heap.size w2 w5 := ((hB3.trans (hB34.mono hz3))).trans (hB5.mono (by omega))
    gi_wp2_with fail
    refine ⟨trivial, ?_⟩
    refine (callsIn_wide.2 (each_any w2.heap.size _ b w5 (hs2.below hB25) (by omega))).mono ?_
    rintro e w6 ⟨ca, cc, Bb, rfl, bB6, hO6, hBb, hB6⟩
    have hz6 := hB6.size
    have HW5 : Hid (Below w.heap.size w w5) := HW1.out.trans ((hB2.trans (hB25.mono hz2)).mono HW1.out.size)
    have HW6 : Hid (Below w.heap.size w w6) := HW5.out.trans (hB6.mono HW5.out.size)
    have hOi6 : Ow w1.heap.size w6 (.slice (some ⟨g, 0, none⟩) (b.length + 1) cap) (b ++ [201]) := hO2.below (hB25.trans (hB6.mono (by omega))) (Nat.le_refl _)
    gi_wp2_with fail
    refine ⟨trivial, ?_⟩
    refine (callsIn_wide.2 (kept_any _ g cap _ b w6 (by omega) hOi6 ((hv.below HW6.out).mono HW6.out.size))).mono ?_
    rintro e w7 ⟨rfl, n7, rfl⟩
    have hB7 : Below w6.heap.size w6 (w6.drewN n7) := below_drewN (Below.refl _ _) n7
    generalize w6.drewN n7 = w7 at *
    have hz7 := hB7.size
    have hB47 : Below w4'.heap.size w4' w7 := (hB5.trans (hB6.mono hz5)).trans (hB7.mono (by omega))
    have HW7 : Hid (Below w.heap.size w w7) := HW6.out.trans (hB7.mono HW6.out.size)
    have hOi : Ow w1.heap.size w7 (.slice (some ⟨g, 0, none⟩) (b.length + 1) cap) (b ++ [201]) := hOi6.below hB7 (Nat.le_refl _)
    have hX1 : w7.ownsRow w2.heap.size 22 1 (.slice la xs.length lc) xs.length (xs.map FrD.v) := hrowx.kept (Below.grownBy' hB47 none) (by
      cases e : (Value.slice la xs.length lc).ownBlock with
      | none => exact .inl rfl
      | some k => exact .inr (by simp))
    have hX2 : ∀ x ∈ xs, Ow w2.heap.size w7 x.v x.pay := fun x hx => (hpayx x hx).below hB47 (Nat.le_refl _)
    have hX3 : ∀ k, (Value.slice la xs.length lc).ownBlock = some k → k < w3.heap.size := fun k e => (World.ownsRow.lt hrow3 k e).2
    have hX4 : ∀ x ∈ xs, ∀ k, x.v.ownBlock = some k → k < w3.heap.size := fun x hx k e => (World.ownsRow.lt (hpay3 x hx) k e).2
    have hY1 : w7.ownsRow w3.heap.size 22 1 (.slice ma ys.length mc) ys.length (ys.map FrD.v) := hrowy.kept (Below.grownBy' hB47 none) (by
      cases e : (Value.slice ma ys.length mc).ownBlock with
      | none => exact .inl rfl
      | some k => exact .inr (by simp))
    have hY2 : ∀ x ∈ ys, Ow w3.heap.size w7 x.v x.pay := fun x hx => (hpayy x hx).below hB47 (Nat.le_refl _)
    have bW7 : Boxed w7 w4.heap.size 40 (.slice ma ys.length mc) := bW.kept (Below.grownBy' hB47 none) (by simp)
    have bB7 : Boxed w7 Bb 22 (.slice ca b.length cc) := bB6.kept (Below.grownBy' hB7 none) (by simp)
    have hC7 : Ow w5.heap.size w7 (.slice ca b.length cc) b := hO6.below hB7 (Nat.le_refl _)
    have hB17 : Below w1.heap.size w1 w7 := (hB2.trans (hB25.mono hz2)).trans ((hB6.mono (by omega)).trans (hB7.mono (by omega)))
    have bS7 : Boxed w7 w.heap.size 3 (.int .i64 stop) := bS1.kept (Below.grownBy' hB17 none) (by simp)
    have bR7 : Boxed w7 (w.heap.size + 1) 4 (.bool false) := bR1.kept (Below.grownBy' hB17 none) (by simp)
    have hlt4 : w4.heap.size < w4'.heap.size := bW.lt
    have HZ : Hid (w.heap.size + 1 < w1.heap.size ∧ w1.heap.size ≤ g ∧ g < w2.heap.size ∧ w2.heap.size ≤ w3.heap.size ∧ w3.heap.size ≤ w4.heap.size ∧ w4.heap.size < w5.heap.size ∧ w5.heap.size ≤ Bb ∧ w5.heap.size ≤ w7.heap.size) := by
      refine ⟨by omega, hgl.1, hgl.2, hz3, hz4, by omega, hBb, by omega⟩
    clear hB2 hB3 hB4 hB5 hB6 hB7 hB25 hB34 hBx hB47 hB17 hO2 hs2 hrow3 hpay3 hrow4 hpay4 bW hrowx hpayx hrowy hpayy hSx hSy hO6 bB6 hOi6 bS1 bR1 HW1 HW3 HW5 HW6 hv1 hw4'
    have HBun : Hid (Bun w1.heap.size w3.heap.size w5.heap.size w.heap.size w4.heap.size Bb b.length ma mc ys ca cc b stop w7) := by
      obtain ⟨z1, z2, z3, z4, z5, z6, z7, z8⟩ := HZ.out
      exact ⟨hY1, hY2, bW7, bB7, hC7, bS7, bR7, z1, z5, by omega, by omega, by omega⟩
    clear hY1 hY2 bW7 bB7 hC7 bS7 bR7
    have hnil := eql_nil
    gi_wp2_with (refine ⟨trivial, ?_⟩; gi_at_call 17; refine (callsIn_wide.2 (num_any _ _)).mono ?_; rintro e w' ⟨rfl, hw⟩; subst w')
    clear hnil
    have hcap := hOi.mark.2
    gi_loopw [16] (fun i wr => ∃ (k : Nat) (m : List UInt8), i = .int .i64 (k : Int) ∧ k ≤ b.length ∧ m.length = b.length + 1 ∧ Ow w1.heap.size wr (.slice (some ⟨g, 0, none⟩) (b.length + 1) cap) m ∧ w7.grownBy wr (some g) ∧ Below w.heap.size w wr) (fun i _ => b.length - (intOf i).toNat)
    case atStart => exact ⟨0, b ++ [201], rfl, by omega, by simp, hOi, grown_refl _ _, HW7.out⟩
    case round =>
      obtain ⟨k, m, rfl, hk, hm, hO, hgr, hBw⟩ := hrel
      by_cases hlt : k < b.length
      · have hO' : Ow w1.heap.size wr (.slice (some ⟨g, 0, none⟩) m.length cap) m := by rw [hm]; exact hO
        obtain ⟨k1, k2, k3⟩ := hO'.can k (by omega)
        have HF : Hid (Ow w1.heap.size (wr.setCell ⟨g, k, none⟩ (.int .u8 0)) (.slice (some ⟨g, 0, none⟩) (b.length + 1) cap) (m.set k 0) ∧ w7.grownBy (wr.setCell ⟨g, k, none⟩ (.int .u8 0)) (some g) ∧ Below w.heap.size w (wr.setCell ⟨g, k, none⟩ (.int .u8 0))) := by
          have q := hO'.store k 0
          rw [hm] at q
          have hg2 : wr.grownBy (wr.setCell ⟨g, k, none⟩ (.int .u8 0)) (some g) := ⟨rfl, rfl, rfl, by simp, fun j _ hj => heap_setCell_other wr ⟨g, k, none⟩ j _ (fun e => hj (by simp [e]))⟩
          exact ⟨q, grown_trans hgr hg2 (fun j e => .inl e), hBw.setCell (p := ⟨g, k, none⟩) (by show w.heap.size ≤ g; have := HZ.out.1; omega) _⟩
        have HM : Hid ((m.set k 0).length = b.length + 1) := by unfold Hid; simp [hm]
        unfold encB at k1
        have hcap2 := hcap.2
        unfold maxLen at hcap2
        generalize byteAt m k = y at *
        clear hO hO' hm hgr hBw hOi hX1 hX2
        gi_wp2
        go_roundw
        case rel => exact ⟨k + 1, m.set k 0, by go_num, by omega, HM.out, HF.out.1, HF.out.2.1, HF.out.2.2⟩
        case measure => simp [intOf]; omega
      · have hlt' : (b.length : Int) ≤ (k : Int) := by omega
        obtain ⟨z1, z2, z3, z4, z5, z6, z7, z8⟩ := HZ.out
        generalize wr = w8 at *
        have hX1' : w8.ownsRow w2.heap.size 22 1 (.slice la xs.length lc) xs.length (xs.map FrD.v) := ownsRow_heap hX1 (fun q e => hgr.block q (World.ownsRow.lt hX1 q e).2 (by have := (World.ownsRow.lt hX1 q e).1; intro h; cases h; omega))
        have hX2' : ∀ x ∈ xs, Ow w2.heap.size w8 x.v x.pay := fun x hx => ownsRow_heap (hX2 x hx) (fun q e => hgr.block q (World.ownsRow.lt (hX2 x hx) q e).2 (by have := (World.ownsRow.lt (hX2 x hx) q e).1; intro h; cases h; omega))
        have HBun2 : Hid (Bun w1.heap.size w3.heap.size w5.heap.size w.heap.size w4.heap.size Bb b.length ma mc ys ca cc b stop w8) := HBun.out.keep (fun q hq hn => hgr.block q hq (by intro h; cases h; exact hn ⟨by omega, by omega⟩))
        have hzr : w5.heap.size ≤ w8.heap.size := Nat.le_trans z8 hgr.size
        have HZ2 : Hid (w2.heap.size ≤ w8.heap.size ∧ w.heap.size ≤ w2.heap.size ∧ w1.heap.size ≤ w2.heap.size) := ⟨by omega, by omega, by omega⟩
        have HS : Hid (Below w.heap.size w w8) := hBw
        clear hX1 hX2 hO hgr hBw hm hOi HBun HW7
        have hxb : xs.length ≤ 4000 := by have := HXL.out; have h2 := congrArg List.length HK4.out; have := framesOf_len b; simp at h2; omega
        unfold maxLen at hlc2
        gi_wp2
        gi_loopw [17] (fun i wx => ∃ (k : Nat) (vals : List Value), i = .int .i64 (k : Int) ∧ k ≤ xs.length ∧ vals.drop k = (xs.map FrD.v).drop k ∧ wx.ownsRow w2.heap.size 22 1 (.slice la xs.length lc) xs.length vals ∧ (∀ x ∈ xs.drop k, Ow w2.heap.size wx x.v x.pay) ∧ (∀ j, j < w8.heap.size → ¬ (w2.heap.size ≤ j ∧ j < w3.heap.size) → wx.heap[j]? = w8.heap[j]?) ∧ w8.heap.size ≤ wx.heap.size ∧ Below w.heap.size w wx) (fun i _ => xs.length - (intOf i).toNat)
        case atStart => exact ⟨0, xs.map FrD.v, rfl, by omega, rfl, hX1', fun x hx => hX2' x (by simpa using hx), fun _ _ _ => rfl, Nat.le_refl _, HS.out⟩
        case round =>
          obtain ⟨kk, vals, rfl, hk, hd, hrow, hp, hj, hzw, hBw⟩ := hrel
          by_cases hlt2 : kk < xs.length
          · obtain ⟨lb, rfl⟩ : ∃ lb, la = some ⟨lb, 0, none⟩ := by
              rcases hrow.2 with ⟨q1, q2⟩ | ⟨g', cap', cur, q1, _⟩
              · omega
              · cases q1; exact ⟨g', rfl⟩
            have hdk : xs.drop kk = (xs[kk]'hlt2) :: xs.drop (kk + 1) := List.drop_eq_getElem_cons hlt2
            have hxk : Ow w2.heap.size wr (xs[kk]'hlt2).v (xs[kk]'hlt2).pay := hp _ (by rw [hdk]; exact List.mem_cons_self)
            have hpl := HPL.out _ (List.getElem_mem hlt2)
            have hMR := fun (v' : Value) (w3' : World) (tmp : Obj) (hg : (wr.alloc tmp).grownBy w3' (xs[kk]'hlt2).v.ownBlock) => more_round (v' := v') hlt2 hrow hp hap3 (hX3 lb rfl) hX4 hd hg
            have hcell : wr.cell? ⟨lb, kk, none⟩ = some (xs[kk]'hlt2).v := by
              have := (hMR undef (wr.alloc (.cells #[.int .u8 7] 5)) (.cells #[.int .u8 7] 5) (grown_refl _ _)).1
              have hlb := (World.ownsRow.lt hrow lb rfl).2
              rwa [show (wr.alloc (.cells #[.int .u8 7] 5)).cell? ⟨lb, kk, none⟩ = wr.cell? ⟨lb, kk, none⟩ from ((Below.refl wr.heap.size wr).alloc (Nat.le_refl _) (.cells #[.int .u8 7] 5)).cell (p := ⟨lb, kk, none⟩) hlb] at this
            have HN : Hid (∀ (v' : Value) (w3' : World), (wr.alloc (.cells #[.int .u8 7] 5)).grownBy w3' (xs[kk]'hlt2).v.ownBlock → w3'.cell? ⟨lb, kk, none⟩ = some (xs[kk]'hlt2).v ∧ w3'.frozen? ⟨lb, kk, none⟩ = false ∧
                ∃ vals' : List Value, vals'.drop (kk + 1) = (xs.map FrD.v).drop (kk + 1) ∧ (w3'.setCell ⟨lb, kk, none⟩ v').ownsRow w2.heap.size 22 1 (.slice (some ⟨lb, 0, none⟩) xs.length lc) xs.length vals' ∧ (∀ x ∈ xs.drop (kk + 1), Ow w2.heap.size (w3'.setCell ⟨lb, kk, none⟩ v') x.v x.pay) ∧
                (∀ j, j < w8.heap.size → ¬ (w2.heap.size ≤ j ∧ j < w3.heap.size) → (w3'.setCell ⟨lb, kk, none⟩ v').heap[j]? = w8.heap[j]?) ∧ w8.heap.size ≤ (w3'.setCell ⟨lb, kk, none⟩ v').heap.size ∧ Below w.heap.size w (w3'.setCell ⟨lb, kk, none⟩ v')) := by
              intro v' w3' hg
              obtain ⟨m1, m2, m3, m4, m5, m6, m7⟩ := hMR v' w3' _ hg
              refine ⟨m1, m2, vals.set kk v', m5, m3, m4, fun j hj1 hj2 => (m6 j (Nat.lt_of_lt_of_le hj1 hzw) hj2).trans (hj j hj1 hj2), Nat.le_trans hzw m7, ?_⟩
              have hlb := (World.ownsRow.lt hrow lb rfl).1
              refine ((hBw.alloc hBw.size _).grown hg (by have := hBw.size; simp; omega) (fun q e => ?_)).setCell (p := ⟨lb, kk, none⟩) (by show w.heap.size ≤ lb; have := HZ2.out; omega) v'
              have := (World.ownsRow.lt hxk q e).1
              have := HZ2.out
              omega
            have hz2w : w2.heap.size ≤ wr.heap.size := Nat.le_trans HZ2.out.1 hzw
            clear hMR hd hrow hp hj hBw hdk hX1' hX2'
            generalize (xs[kk]'hlt2) = x at *
            obtain ⟨xpl, xp, xa, xc⟩ := x
            simp only [FrD.v] at *
            obtain ⟨i5, hi5, hy0, hy1, hy2⟩ := info_parts info5
            gi_wp2_with (gi_at_builtin; refine wpListIn_append_own_at _ rfl _ _ 22 rfl w2.heap.size 5 i5 (.int .u8 0) 1 1 Try.underlying22 hi5 hy0 hy1 hy2 rfl (by decide) _ _ _ rfl (hxk.alloc _) ⟨wr.heap.size, 0, none⟩ 1 1 [.int .u8 7] rfl rfl (cell_one_new _ _ _) (by simp [Value.oneCell']) (by unfold maxLen; omega) (by omega) (by simp; omega) ?_; intro v' w3' hown' hgrow _ hnew; obtain ⟨g', cap', rfl⟩ := ownsRow_succ hown'; obtain ⟨n1, n2, vals', n3⟩ := HN.out (.slice (some ⟨g', 0, none⟩) (xp.length + 1) cap') w3' hgrow; clear hown' hgrow hnew)
            go_roundw
            case rel => exact ⟨kk + 1, vals', by go_num, by omega, n3.1, n3.2.1, n3.2.2.1, n3.2.2.2.1, n3.2.2.2.2.1, n3.2.2.2.2.2⟩
            case measure => simp [intOf]; omega
          · have hlt3 : (xs.length : Int) ≤ (kk : Int) := by omega
            have HBun3 : Hid (Bun w1.heap.size w3.heap.size w5.heap.size w.heap.size w4.heap.size Bb b.length ma mc ys ca cc b stop wr) := HBun2.out.keep (fun q hq hn => hj q hq (fun h => hn ⟨by have := HZ2.out; omega, h.2⟩))
            have HB3 : Hid (Below w.heap.size w wr) := hBw
            have hz5w : w5.heap.size ≤ wr.heap.size := Nat.le_trans hzr hzw
            clear hX1' hX2' hd hrow hp hj hBw HBun2 HS hzw hxb hlc1 hlc2 hX3 hX4 hap3 HPL hcap
            generalize wr = w9 at *
            have HW9 : Hid (w.heap.size + 1 < w9.heap.size) := by unfold Hid; have := HZ.out; omega
            gi_wp2
            have HB0 : Hid (Below w9.heap.size w9 (w9.alloc (.cells #[.int .i64 0] 3))) := (Below.refl _ _).alloc (Nat.le_refl _) _
            have bR0 := Boxed.new w9 3 (.int .i64 0)
            have HSW0 : Hid (w9.heap.size ≤ (w9.alloc (.cells #[.int .i64 0] 3)).heap.size) := by unfold Hid; simp
            generalize w9.alloc (.cells #[.int .i64 0] 3) = Wz0 at *
            have HM0 : Hid (Marks w9.heap.size Wz0 []) := Marks.nil _ _
            obtain ⟨R0, hR0⟩ : ∃ R0, w9.heap.size = R0 := ⟨_, rfl⟩
            rw [hR0] at bR0
            simp only [hR0]
            clear hR0
            have hBunW : ∀ W, Below w9.heap.size w9 W → Bun w1.heap.size w3.heap.size w5.heap.size w.heap.size w4.heap.size Bb b.length ma mc ys ca cc b stop W := fun W hW => HBun3.out.keep (fun q hq _ => (Below.grownBy' hW none).block q hq (by simp))
            have HYL : Hid (ys.length = (framesOf b).length) := by unfold Hid; rw [← HK4.out, List.length_map]
            have HWX : Hid (Below w.heap.size w w9) := HB3
            refine wpIn_loop_rounds 4 ?_
            rw [roundsIn_succ]
            have hc0 := bR0.cell
            have HRW0 : Hid (R0 < Wz0.heap.size) := bR0.lt
            gi_wp2
            have hK1 : Boxed ((Wz0.alloc (.cells #[.int .i64 0] 3)).alloc (.cells #[.int .i64 0] 3)) Wz0.heap.size 3 (.int .i64 0) := (Boxed.new Wz0 3 (.int .i64 0)).alloc _
            have hA1 : Boxed ((Wz0.alloc (.cells #[.int .i64 0] 3)).alloc (.cells #[.int .i64 0] 3)) (Wz0.heap.size + 1) 3 (.int .i64 0) := by
              have := Boxed.new (Wz0.alloc (.cells #[.int .i64 0] 3)) 3 (.int .i64 0)
              rwa [World.size_alloc] at this
            have hR1 : Boxed ((Wz0.alloc (.cells #[.int .i64 0] 3)).alloc (.cells #[.int .i64 0] 3)) R0 3 (.int .i64 0) := (bR0.alloc _).alloc _
            have hBst : Below Wz0.heap.size Wz0 ((Wz0.alloc (.cells #[.int .i64 0] 3)).alloc (.cells #[.int .i64 0] 3)) := ((Below.refl _ _).alloc (Nat.le_refl _) _).alloc (by simp) _
            have hsz1 : ((Wz0.alloc (.cells #[.int .i64 0] 3)).alloc (.cells #[.int .i64 0] 3)).heap.size = Wz0.heap.size + 1 + 1 := by simp
            have hKFr : KeepsFrom w9.heap.size Wz0 ((Wz0.alloc (.cells #[.int .i64 0] 3)).alloc (.cells #[.int .i64 0] 3)) := ((KeepsOthers.alloc Wz0 _).trans (KeepsOthers.alloc _ _)).from _
            generalize hW1 : (Wz0.alloc (.cells #[.int .i64 0] 3)).alloc (.cells #[.int .i64 0] 3) = W10 at *
            have hB91 : Below w9.heap.size w9 W10 := HB0.out.trans (hBst.mono HSW0.out)
            have hbn := hBunW W10 hB91
            have hbb9 : Bb < w9.heap.size := HBun3.out.2.2.2.1.lt
            have hsl1 : Sl w9.heap.size W10 (.slice ca b.length cc) b := (HBun3.out.2.2.2.2.1.sl (Nat.le_refl _)).below hB91
            refine range_yields (n := n) (gf := 42) (lb := #[.pointer (some ⟨Bb, 0, none⟩)]) rfl (enters_of Try.func42 (by kernel_rfl) rfl)
              (frames_yields (n - 1) (by omega) Bb w9.heap.size _ b (by omega) W10 (by have := HSW0.out; omega) hbn.2.2.2.1 hsl1)
              (fun h k => ⟨h.1.trans k.1, fun q => k.2 (h.2 q)⟩)
              (fun W l o o' hl hh ho => ⟨(Below.refl w9.heap.size W).grown (grownBy_putObj' W l o') (by have := (Array.getElem?_eq_some_iff.1 hh).1; have := HSW0.out; omega) (fun k e => by cases e; have := HSW0.out; omega), fun q => q.kept (grownBy_putObj' W l o') (fun e => by cases e; rw [show W.heap[Bb]? = _ from q] at hh; cases hh; cases ho)⟩)
              (Below.refl _ _) (fun _ => rfl)
              (RI w9.heap.size Wz0.heap.size (Wz0.heap.size + 1) R0 0 Wz0) (fun _ _ _ => False) (ri_own _ _ _ _ _ _ HSW0.out _ (by omega)) (fun _ _ _ _ _ hs _ _ => hs)
              (fun pre m => OwnFrom.and (Own.from (by
                intro x X Y row hs hg hrow
                exact own_pays (N := m) [x] X Y row (fun y hy => by obtain rfl : y = x := (by simpa using hy); exact hs) hg hrow x (by simp)) _) (ownFrom_pure _ _))
              ⟨hK1, hA1, hR1, hBst.mono HSW0.out, hKFr⟩
              ?az0 ?assign0 ?body0 ?done0 ?stop0
            case assign0 =>
              intro l x W K hK
              unfold encF FrD.v at *
              gi_wp2
              exact hK
            case body0 =>
              rintro l' pre x W0' W hI0 hI ⟨hx, hpf⟩ hlt
              obtain ⟨b1, b2, b3, hBW, hFW⟩ := id hI
              have hB9W : Below w9.heap.size w9 W := HB0.out.trans hBW
              obtain ⟨y1, y2, y3, y4, y5, y6, y7, -⟩ := hBunW W hB9W
              obtain ⟨hpl, hpk⟩ := place_eq pre x b hpf
              have hyl := HYL.out
              have hpy : pre.length < ys.length := by omega
              obtain ⟨mb, hma, hcY⟩ := row_cell y1 pre.length hpy
              subst hma
              have hyk : (ys[pre.length]'hpy).pay = x.pay := by
                have q : (ys.map FrD.key)[pre.length]? = some x.key := by rw [HK4.out]; exact hpk
                rw [List.getElem?_map, List.getElem?_eq_getElem hpy] at q
                have := Option.some.inj q
                exact congrArg Prod.snd this
              have hOy := y2 _ (List.getElem_mem hpy)
              have hmc : ys.length ≤ mc ∧ mc ≤ 9223372036854775807 := by
                rcases y1.2 with ⟨q1, q2⟩ | ⟨g', cap', cur, q1, _, _, q2, q3, _⟩
                · omega
                · cases q1; unfold maxLen at q3; exact ⟨q2, by omega⟩
              have hbd : x.place + 8 + x.pay.length ≤ 4000 := by
                have := framesOf_in b x.key (List.mem_of_getElem? hpk)
                simp only [FrD.key] at this
                omega
              have CSM : Hid (Calls Try.prog 14 #[x.v, (ys[pre.length]'hpy).v] W fun e w' => e = .returned (.bool true) ∧ ∃ n, w' = W.drewN n) := by
                have h1 := hx.sl (Nat.le_refl W.heap.size)
                have h2 := hOy.sl (Nat.le_refl W.heap.size)
                rw [hyk] at h2
                have := same_any _ _ _ _ _ W h1 h2
                unfold Hid
                simpa using this
              have HRI : Hid (∀ n, RI w9.heap.size Wz0.heap.size (Wz0.heap.size + 1) R0 0 Wz0 (pre ++ [x]) (((W.drewN n).setCell ⟨Wz0.heap.size + 1, 0, none⟩ (.int .i64 ((lastEnd pre : Int) + 8 + (x.pay.length : Int)))).setCell ⟨Wz0.heap.size, 0, none⟩ (.int .i64 ((pre.length : Int) + 1))) ∧ KeepsFrom 0 W (((W.drewN n).setCell ⟨Wz0.heap.size + 1, 0, none⟩ (.int .i64 ((lastEnd pre : Int) + 8 + (x.pay.length : Int)))).setCell ⟨Wz0.heap.size, 0, none⟩ (.int .i64 ((pre.length : Int) + 1))) ∧ Below w9.heap.size W (((W.drewN n).setCell ⟨Wz0.heap.size + 1, 0, none⟩ (.int .i64 ((lastEnd pre : Int) + 8 + (x.pay.length : Int)))).setCell ⟨Wz0.heap.size, 0, none⟩ (.int .i64 ((pre.length : Int) + 1)))) := by
                intro n
                have := ri_more (x := x) hI (by have := HSW0.out; omega) (by have := HSW0.out; omega) (by omega) (by have := HRW0.out; omega) (by have := HRW0.out; omega) n
                rw [lastEnd_snoc, hpl] at this
                have e1 : ((lastEnd pre + 8 + x.pay.length : Nat) : Int) = (lastEnd pre : Int) + 8 + (x.pay.length : Int) := by omega
                have e2 : (((pre ++ [x]).length : Nat) : Int) = (pre.length : Int) + 1 := by simp
                rw [e1, e2] at this
                exact this
              have hcK := b1.cell
              have hcA := b2.cell
              have hcR := b3.cell
              have hfK := b1.frozen
              have hfA := b2.frozen
              have hcW := y3.cell
              have hRK : ∀ n v v', (((W.drewN n).setCell ⟨Wz0.heap.size + 1, 0, none⟩ v).setCell ⟨Wz0.heap.size, 0, none⟩ v').cell? ⟨R0, 0, none⟩ = some (.int .i64 0) := fun n v v' => (((show Boxed (W.drewN n) R0 3 (.int .i64 0) from b3).other (B' := Wz0.heap.size + 1) (by have := HRW0.out; omega) v).other (B' := Wz0.heap.size) (by have := HRW0.out; omega) v').cell
              have hSK : ∀ n v v', (((W.drewN n).setCell ⟨Wz0.heap.size + 1, 0, none⟩ v).setCell ⟨Wz0.heap.size, 0, none⟩ v').cell? ⟨w.heap.size, 0, none⟩ = some (.int .i64 stop) := fun n v v' => (((show Boxed (W.drewN n) w.heap.size 3 (.int .i64 stop) from y6).other (B' := Wz0.heap.size + 1) (by have := HSW0.out; have := HW9.out; omega) v).other (B' := Wz0.heap.size) (by have := HSW0.out; have := HW9.out; omega) v').cell
              have HBK : Hid (∀ v v' n, Boxed W Bb 22 (.slice ca b.length cc) → Boxed ((((W.drewN n).setCell ⟨Wz0.heap.size + 1, 0, none⟩ v)).setCell ⟨Wz0.heap.size, 0, none⟩ v') Bb 22 (.slice ca b.length cc)) := fun v v' n q => ((show Boxed (W.drewN n) Bb 22 (.slice ca b.length cc) from q).other (B' := Wz0.heap.size + 1) (by have := HSW0.out; omega) v).other (B' := Wz0.heap.size) (by have := HSW0.out; omega) v'
              rw [hpl] at hbd
              have h3 : 1 ≤ n - 1 - 1 := by omega
              clear b1 b2 b3 y1 y2 y3 y5 y6 y7 hI hI0 hBW hFW hB9W hpf hpk hlt hOy hx hyl
              generalize (ys[pre.length]'hpy) = y at *
              obtain ⟨ypl, yp, ya, yc⟩ := y
              obtain ⟨xpl, xp, xa, xc⟩ := x
              simp only [FrD.v] at *
              subst hyk
              subst hpl
              gi_wp2_with (refine ⟨trivial, ?_⟩; gi_at_call 14; refine (CallsIn.inRound _ (callsIn_wide.2 CSM.out)).mono ?_; rintro e w' ⟨rfl, n', rfl⟩)
              obtain ⟨r1, r2, r3⟩ := HRI.out n'
              exact ⟨⟨r2.size, fun k o _ hk ho => r2.same k o (Nat.zero_le _) hk ho⟩, ⟨r3, fun q => HBK.out _ _ n' q⟩, r1⟩
            case done0 =>
              rintro D0 zs W hD hS hI hK
              obtain ⟨b1, b2, b3, hBW, hFW⟩ := hI
              have hB9W : Below w9.heap.size w9 W := HB0.out.trans hBW
              obtain ⟨y1, y2, y3, y4, y5, y6, y7, -⟩ := hBunW W hB9W
              have hzl : zs.length = ys.length := by rw [HYL.out, ← hS, List.length_map]
              rw [hzl] at b1
              have hcK := b1.cell
              have hcR := b3.cell
              have hcW := y3.cell
              have hcS := y6.cell
              have HB1 : Hid (Below w9.heap.size w9 (W.alloc (.cells #[.int .i64 1] 3))) := hB9W.alloc hB9W.size _
              have bR1 := Boxed.new W 3 (.int .i64 1)
              have HSW1 : Hid (w9.heap.size ≤ (W.alloc (.cells #[.int .i64 1] 3)).heap.size) := HB1.out.size
              have HM1 : Hid (Marks w9.heap.size (W.alloc (.cells #[.int .i64 1] 3)) ({ target := .collected D0, args := #[] } :: [])) := HM0.out.cons (fun E hN hE => below_heap ((Below.refl _ _).alloc (Nat.le_refl _) _) (hFW.same E _ hN hE rfl)) D0 (by have := HSW0.out; omega) (by omega) (below_heap ((Below.refl _ _).alloc (Nat.le_refl _) _) hK)
              clear b1 b2 b3 y1 y2 y3 y4 y5 y6 y7 hBW hFW hB9W hK1 hA1 hR1 hBst hKFr hB91 hbn hsl1 hK hD
              gi_wp2
              generalize W.alloc (.cells #[.int .i64 1] 3) = Wz1 at *
              obtain ⟨R1, hR1⟩ : ∃ R1, W.heap.size = R1 := ⟨_, rfl⟩
              rw [hR1] at bR1
              simp only [hR1]
              clear hR1 hcK hcR hcW hcS
              rw [roundsIn_succ]
              have hc1 := bR1.cell
              have HRW1 : Hid (R1 < Wz1.heap.size) := bR1.lt
              gi_wp2
              have hK1 : Boxed ((Wz1.alloc (.cells #[.int .i64 0] 3)).alloc (.cells #[.int .i64 0] 3)) Wz1.heap.size 3 (.int .i64 0) := (Boxed.new Wz1 3 (.int .i64 0)).alloc _
              have hA1 : Boxed ((Wz1.alloc (.cells #[.int .i64 0] 3)).alloc (.cells #[.int .i64 0] 3)) (Wz1.heap.size + 1) 3 (.int .i64 0) := by
                have := Boxed.new (Wz1.alloc (.cells #[.int .i64 0] 3)) 3 (.int .i64 0)
                rwa [World.size_alloc] at this
              have hR1 : Boxed ((Wz1.alloc (.cells #[.int .i64 0] 3)).alloc (.cells #[.int .i64 0] 3)) R1 3 (.int .i64 1) := (bR1.alloc _).alloc _
              have hBst : Below Wz1.heap.size Wz1 ((Wz1.alloc (.cells #[.int .i64 0] 3)).alloc (.cells #[.int .i64 0] 3)) := ((Below.refl _ _).alloc (Nat.le_refl _) _).alloc (by simp) _
              have hsz1 : ((Wz1.alloc (.cells #[.int .i64 0] 3)).alloc (.cells #[.int .i64 0] 3)).heap.size = Wz1.heap.size + 1 + 1 := by simp
              have hKFr : KeepsFrom w9.heap.size Wz1 ((Wz1.alloc (.cells #[.int .i64 0] 3)).alloc (.cells #[.int .i64 0] 3)) := ((KeepsOthers.alloc Wz1 _).trans (KeepsOthers.alloc _ _)).from _
              generalize hW1 : (Wz1.alloc (.cells #[.int .i64 0] 3)).alloc (.cells #[.int .i64 0] 3) = W11 at *
              have hB91 : Below w9.heap.size w9 W11 := HB1.out.trans (hBst.mono HSW1.out)
              have hbn := hBunW W11 hB91
              have hbb9 : Bb < w9.heap.size := HBun3.out.2.2.2.1.lt
              have hsl1 : Sl w9.heap.size W11 (.slice ca b.length cc) b := (HBun3.out.2.2.2.2.1.sl (Nat.le_refl _)).below hB91
              refine range_yields (n := n) (gf := 42) (lb := #[.pointer (some ⟨Bb, 0, none⟩)]) rfl (enters_of Try.func42 (by kernel_rfl) rfl)
                (frames_yields (n - 1) (by omega) Bb w9.heap.size _ b (by omega) W11 (by have := HSW1.out; omega) hbn.2.2.2.1 hsl1)
                (fun h k => ⟨h.1.trans k.1, fun q => k.2 (h.2 q)⟩)
                (fun W l o o' hl hh ho => ⟨(Below.refl w9.heap.size W).grown (grownBy_putObj' W l o') (by have := (Array.getElem?_eq_some_iff.1 hh).1; have := HSW1.out; omega) (fun k e => by cases e; have := HSW1.out; omega), fun q => q.kept (grownBy_putObj' W l o') (fun e => by cases e; rw [show W.heap[Bb]? = _ from q] at hh; cases hh; cases ho)⟩)
                (Below.refl _ _) (fun _ => rfl)
                (fun pre W => RI w9.heap.size Wz1.heap.size (Wz1.heap.size + 1) R1 1 Wz1 pre W ∧ (0 < stop → (pre.length : Int) < stop)) (fun c pre W => c = .exit 6 ∧ RI w9.heap.size Wz1.heap.size (Wz1.heap.size + 1) R1 1 Wz1 pre W ∧ (pre.length : Int) = stop ∧ 0 < stop) (OwnFrom.and (ri_own _ _ _ _ _ _ HSW1.out _ (by omega)) (ownFrom_pure _ _)) (fun c => OwnFrom.and (ownFrom_pure _ _) (OwnFrom.and (ri_own _ _ _ _ _ _ HSW1.out _ (by omega)) (ownFrom_pure _ _)))
                (fun pre m => OwnFrom.and (Own.from (by
                  intro x X Y row hs hg hrow
                  exact own_pays (N := m) [x] X Y row (fun y hy => by obtain rfl : y = x := (by simpa using hy); exact hs) hg hrow x (by simp)) _) (ownFrom_pure _ _))
                ⟨⟨hK1, hA1, hR1, hBst.mono HSW1.out, hKFr⟩, fun h => by simpa using h⟩
                ?az1 ?assign1 ?body1 ?done1 ?stop1
              case assign1 =>
                intro l x W K hK
                unfold encF FrD.v at *
                gi_wp2
                exact hK
              case body1 =>
                rintro l' pre x W0' W hI0 hI ⟨hx, hpf⟩ hlt
                obtain ⟨⟨b1, b2, b3, hBW, hFW⟩, hst⟩ := id hI
                have hB9W : Below w9.heap.size w9 W := HB1.out.trans hBW
                obtain ⟨y1, y2, y3, y4, y5, y6, y7, -⟩ := hBunW W hB9W
                obtain ⟨hpl, hpk⟩ := place_eq pre x b hpf
                have hyl := HYL.out
                have hpy : pre.length < ys.length := by omega
                obtain ⟨mb, hma, hcY⟩ := row_cell y1 pre.length hpy
                subst hma
                have hyk : (ys[pre.length]'hpy).pay = x.pay := by
                  have q : (ys.map FrD.key)[pre.length]? = some x.key := by rw [HK4.out]; exact hpk
                  rw [List.getElem?_map, List.getElem?_eq_getElem hpy] at q
                  have := Option.some.inj q
                  exact congrArg Prod.snd this
                have hOy := y2 _ (List.getElem_mem hpy)
                have hmc : ys.length ≤ mc ∧ mc ≤ 9223372036854775807 := by
                  rcases y1.2 with ⟨q1, q2⟩ | ⟨g', cap', cur, q1, _, _, q2, q3, _⟩
                  · omega
                  · cases q1; unfold maxLen at q3; exact ⟨q2, by omega⟩
                have hbd : x.place + 8 + x.pay.length ≤ 4000 := by
                  have := framesOf_in b x.key (List.mem_of_getElem? hpk)
                  simp only [FrD.key] at this
                  omega
                have CSM : Hid (Calls Try.prog 14 #[x.v, (ys[pre.length]'hpy).v] W fun e w' => e = .returned (.bool true) ∧ ∃ n, w' = W.drewN n) := by
                  have h1 := hx.sl (Nat.le_refl W.heap.size)
                  have h2 := hOy.sl (Nat.le_refl W.heap.size)
                  rw [hyk] at h2
                  have := same_any _ _ _ _ _ W h1 h2
                  unfold Hid
                  simpa using this
                have HRI : Hid (∀ n, RI w9.heap.size Wz1.heap.size (Wz1.heap.size + 1) R1 1 Wz1 (pre ++ [x]) (((W.drewN n).setCell ⟨Wz1.heap.size + 1, 0, none⟩ (.int .i64 ((lastEnd pre : Int) + 8 + (x.pay.length : Int)))).setCell ⟨Wz1.heap.size, 0, none⟩ (.int .i64 ((pre.length : Int) + 1))) ∧ KeepsFrom 0 W (((W.drewN n).setCell ⟨Wz1.heap.size + 1, 0, none⟩ (.int .i64 ((lastEnd pre : Int) + 8 + (x.pay.length : Int)))).setCell ⟨Wz1.heap.size, 0, none⟩ (.int .i64 ((pre.length : Int) + 1))) ∧ Below w9.heap.size W (((W.drewN n).setCell ⟨Wz1.heap.size + 1, 0, none⟩ (.int .i64 ((lastEnd pre : Int) + 8 + (x.pay.length : Int)))).setCell ⟨Wz1.heap.size, 0, none⟩ (.int .i64 ((pre.length : Int) + 1)))) := by
                  intro n
                  have := ri_more (x := x) hI.1 (by have := HSW1.out; omega) (by have := HSW1.out; omega) (by omega) (by have := HRW1.out; omega) (by have := HRW1.out; omega) n
                  rw [lastEnd_snoc, hpl] at this
                  have e1 : ((lastEnd pre + 8 + x.pay.length : Nat) : Int) = (lastEnd pre : Int) + 8 + (x.pay.length : Int) := by omega
                  have e2 : (((pre ++ [x]).length : Nat) : Int) = (pre.length : Int) + 1 := by simp
                  rw [e1, e2] at this
                  exact this
                have hcK := b1.cell
                have hcA := b2.cell
                have hcR := b3.cell
                have hfK := b1.frozen
                have hfA := b2.frozen
                have hcW := y3.cell
                have hRK : ∀ n v v', (((W.drewN n).setCell ⟨Wz1.heap.size + 1, 0, none⟩ v).setCell ⟨Wz1.heap.size, 0, none⟩ v').cell? ⟨R1, 0, none⟩ = some (.int .i64 1) := fun n v v' => (((show Boxed (W.drewN n) R1 3 (.int .i64 1) from b3).other (B' := Wz1.heap.size + 1) (by have := HRW1.out; omega) v).other (B' := Wz1.heap.size) (by have := HRW1.out; omega) v').cell
                have hSK : ∀ n v v', (((W.drewN n).setCell ⟨Wz1.heap.size + 1, 0, none⟩ v).setCell ⟨Wz1.heap.size, 0, none⟩ v').cell? ⟨w.heap.size, 0, none⟩ = some (.int .i64 stop) := fun n v v' => (((show Boxed (W.drewN n) w.heap.size 3 (.int .i64 stop) from y6).other (B' := Wz1.heap.size + 1) (by have := HSW1.out; have := HW9.out; omega) v).other (B' := Wz1.heap.size) (by have := HSW1.out; have := HW9.out; omega) v').cell
                have HBK : Hid (∀ v v' n, Boxed W Bb 22 (.slice ca b.length cc) → Boxed ((((W.drewN n).setCell ⟨Wz1.heap.size + 1, 0, none⟩ v)).setCell ⟨Wz1.heap.size, 0, none⟩ v') Bb 22 (.slice ca b.length cc)) := fun v v' n q => ((show Boxed (W.drewN n) Bb 22 (.slice ca b.length cc) from q).other (B' := Wz1.heap.size + 1) (by have := HSW1.out; omega) v).other (B' := Wz1.heap.size) (by have := HSW1.out; omega) v'
                rw [hpl] at hbd
                have h3 : 1 ≤ n - 1 - 1 := by omega
                clear b1 b2 b3 y1 y2 y3 y5 y6 y7 hI hI0 hBW hFW hB9W hpf hpk hlt hOy hx hyl
                generalize (ys[pre.length]'hpy) = y at *
                obtain ⟨ypl, yp, ya, yc⟩ := y
                obtain ⟨xpl, xp, xa, xc⟩ := x
                simp only [FrD.v] at *
                subst hyk
                subst hpl
                have HST : Hid (0 < stop → (pre.length : Int) < stop) := hst
                clear hst
                by_cases hbr : (pre.length : Int) + 1 = stop
                · have hbr' : ((pre.length : Int) + 1 == stop) = true := by rw [beq_iff_eq]; exact hbr
                  have HBR : Hid ((pre.length : Int) + 1 = stop) := hbr
                  clear hbr
                  gi_wp2_with (refine ⟨trivial, ?_⟩; gi_at_call 14; refine (CallsIn.inRound _ (callsIn_wide.2 CSM.out)).mono ?_; rintro e w' ⟨rfl, n', rfl⟩)
                  obtain ⟨r1, r2, r3⟩ := HRI.out n'
                  exact ⟨⟨r2.size, fun k o _ hk ho => r2.same k o (Nat.zero_le _) hk ho⟩, rfl, r1, by have := HBR.out; simp; omega, by have := HBR.out; omega⟩
                · have hbr' : ((pre.length : Int) + 1 == stop) = false := by rw [beq_eq_false_iff_ne]; exact hbr
                  gi_wp2_with (refine ⟨trivial, ?_⟩; gi_at_call 14; refine (CallsIn.inRound _ (callsIn_wide.2 CSM.out)).mono ?_; rintro e w' ⟨rfl, n', rfl⟩)
                  obtain ⟨r1, r2, r3⟩ := HRI.out n'
                  exact ⟨⟨r2.size, fun k o _ hk ho => r2.same k o (Nat.zero_le _) hk ho⟩, ⟨r3, fun q => HBK.out _ _ n' q⟩, r1, fun h => by have := HST.out h; simp; omega⟩
              case done1 =>
                rintro D1 zs W hD hS hI hK
                obtain ⟨⟨b1, b2, b3, hBW, hFW⟩, hst⟩ := hI
                have hB9W : Below w9.heap.size w9 W := HB1.out.trans hBW
                obtain ⟨y1, y2, y3, y4, y5, y6, y7, -⟩ := hBunW W hB9W
                have hzl : zs.length = ys.length := by rw [HYL.out, ← hS, List.length_map]
                rw [hzl] at b1 hst
                by_cases hs0 : 0 < stop
                · have hst2 := hst hs0
                  clear hst
                  have hcK := b1.cell
                  have hcR := b3.cell
                  have hcW := y3.cell
                  have hcS := y6.cell
                  have HB2 : Hid (Below w9.heap.size w9 (W.alloc (.cells #[.int .i64 2] 3))) := hB9W.alloc hB9W.size _
                  have bR2 := Boxed.new W 3 (.int .i64 2)
                  have HSW2 : Hid (w9.heap.size ≤ (W.alloc (.cells #[.int .i64 2] 3)).heap.size) := HB2.out.size
                  have HM2 : Hid (Marks w9.heap.size (W.alloc (.cells #[.int .i64 2] 3)) ({ target := .collected D1, args := #[] } :: [{ target := .collected D0, args := #[] }])) := HM1.out.cons (fun E hN hE => below_heap ((Below.refl _ _).alloc (Nat.le_refl _) _) (hFW.same E _ hN hE rfl)) D1 (by have := HSW1.out; omega) (by omega) (below_heap ((Below.refl _ _).alloc (Nat.le_refl _) _) hK)
                  clear b1 b2 b3 y1 y2 y3 y4 y5 y6 y7 hBW hFW hB9W hK1 hA1 hR1 hBst hKFr hB91 hbn hsl1 hK hD
                  gi_wp2
                  generalize W.alloc (.cells #[.int .i64 2] 3) = Wz2 at *
                  obtain ⟨R2, hR2⟩ : ∃ R2, W.heap.size = R2 := ⟨_, rfl⟩
                  rw [hR2] at bR2
                  simp only [hR2]
                  clear hR2 hcK hcR hcW hcS
                  rw [roundsIn_succ]
                  have hc2 := bR2.cell
                  have HRW2 : Hid (R2 < Wz2.heap.size) := bR2.lt
                  gi_wp2
                  have hK1 : Boxed ((Wz2.alloc (.cells #[.int .i64 0] 3)).alloc (.cells #[.int .i64 0] 3)) Wz2.heap.size 3 (.int .i64 0) := (Boxed.new Wz2 3 (.int .i64 0)).alloc _
                  have hA1 : Boxed ((Wz2.alloc (.cells #[.int .i64 0] 3)).alloc (.cells #[.int .i64 0] 3)) (Wz2.heap.size + 1) 3 (.int .i64 0) := by
                    have := Boxed.new (Wz2.alloc (.cells #[.int .i64 0] 3)) 3 (.int .i64 0)
                    rwa [World.size_alloc] at this
                  have hR1 : Boxed ((Wz2.alloc (.cells #[.int .i64 0] 3)).alloc (.cells #[.int .i64 0] 3)) R2 3 (.int .i64 2) := (bR2.alloc _).alloc _
                  have hBst : Below Wz2.heap.size Wz2 ((Wz2.alloc (.cells #[.int .i64 0] 3)).alloc (.cells #[.int .i64 0] 3)) := ((Below.refl _ _).alloc (Nat.le_refl _) _).alloc (by simp) _
                  have hsz1 : ((Wz2.alloc (.cells #[.int .i64 0] 3)).alloc (.cells #[.int .i64 0] 3)).heap.size = Wz2.heap.size + 1 + 1 := by simp
                  have hKFr : KeepsFrom w9.heap.size Wz2 ((Wz2.alloc (.cells #[.int .i64 0] 3)).alloc (.cells #[.int .i64 0] 3)) := ((KeepsOthers.alloc Wz2 _).trans (KeepsOthers.alloc _ _)).from _
                  generalize hW1 : (Wz2.alloc (.cells #[.int .i64 0] 3)).alloc (.cells #[.int .i64 0] 3) = W12 at *
                  have hB91 : Below w9.heap.size w9 W12 := HB2.out.trans (hBst.mono HSW2.out)
                  have hbn := hBunW W12 hB91
                  have hbb9 : Bb < w9.heap.size := HBun3.out.2.2.2.1.lt
                  have hsl1 : Sl w9.heap.size W12 (.slice ca b.length cc) b := (HBun3.out.2.2.2.2.1.sl (Nat.le_refl _)).below hB91
                  refine range_yields (n := n) (gf := 42) (lb := #[.pointer (some ⟨Bb, 0, none⟩)]) rfl (enters_of Try.func42 (by kernel_rfl) rfl)
                    (frames_yields (n - 1) (by omega) Bb w9.heap.size _ b (by omega) W12 (by have := HSW2.out; omega) hbn.2.2.2.1 hsl1)
                    (fun h k => ⟨h.1.trans k.1, fun q => k.2 (h.2 q)⟩)
                    (fun W l o o' hl hh ho => ⟨(Below.refl w9.heap.size W).grown (grownBy_putObj' W l o') (by have := (Array.getElem?_eq_some_iff.1 hh).1; have := HSW2.out; omega) (fun k e => by cases e; have := HSW2.out; omega), fun q => q.kept (grownBy_putObj' W l o') (fun e => by cases e; rw [show W.heap[Bb]? = _ from q] at hh; cases hh; cases ho)⟩)
                    (Below.refl _ _) (fun _ => rfl)
                    (RI w9.heap.size Wz2.heap.size (Wz2.heap.size + 1) R2 2 Wz2) (fun _ _ _ => False) (ri_own _ _ _ _ _ _ HSW2.out _ (by omega)) (fun _ _ _ _ _ hs _ _ => hs)
                    (fun pre m => OwnFrom.and (Own.from (by
                      intro x X Y row hs hg hrow
                      exact own_pays (N := m) [x] X Y row (fun y hy => by obtain rfl : y = x := (by simpa using hy); exact hs) hg hrow x (by simp)) _) (ownFrom_pure _ _))
                    ⟨hK1, hA1, hR1, hBst.mono HSW2.out, hKFr⟩
                    ?az2a ?assign2a ?body2a ?done2a ?stop2a
                  case assign2a =>
                    intro l x W K hK
                    unfold encF FrD.v at *
                    gi_wp2
                    exact hK
                  case body2a =>
                    rintro l' pre x W0' W hI0 hI ⟨hx, hpf⟩ hlt
                    obtain ⟨b1, b2, b3, hBW, hFW⟩ := id hI
                    have hB9W : Below w9.heap.size w9 W := HB2.out.trans hBW
                    obtain ⟨y1, y2, y3, y4, y5, y6, y7, -⟩ := hBunW W hB9W
                    obtain ⟨hpl, hpk⟩ := place_eq pre x b hpf
                    have hyl := HYL.out
                    have hpy : pre.length < ys.length := by omega
                    obtain ⟨mb, hma, hcY⟩ := row_cell y1 pre.length hpy
                    subst hma
                    have hyk : (ys[pre.length]'hpy).pay = x.pay := by
                      have q : (ys.map FrD.key)[pre.length]? = some x.key := by rw [HK4.out]; exact hpk
                      rw [List.getElem?_map, List.getElem?_eq_getElem hpy] at q
                      have := Option.some.inj q
                      exact congrArg Prod.snd this
                    have hOy := y2 _ (List.getElem_mem hpy)
                    have hmc : ys.length ≤ mc ∧ mc ≤ 9223372036854775807 := by
                      rcases y1.2 with ⟨q1, q2⟩ | ⟨g', cap', cur, q1, _, _, q2, q3, _⟩
                      · omega
                      · cases q1; unfold maxLen at q3; exact ⟨q2, by omega⟩
                    have hbd : x.place + 8 + x.pay.length ≤ 4000 := by
                      have := framesOf_in b x.key (List.mem_of_getElem? hpk)
                      simp only [FrD.key] at this
                      omega
                    have CSM : Hid (Calls Try.prog 14 #[x.v, (ys[pre.length]'hpy).v] W fun e w' => e = .returned (.bool true) ∧ ∃ n, w' = W.drewN n) := by
                      have h1 := hx.sl (Nat.le_refl W.heap.size)
                      have h2 := hOy.sl (Nat.le_refl W.heap.size)
                      rw [hyk] at h2
                      have := same_any _ _ _ _ _ W h1 h2
                      unfold Hid
                      simpa using this
                    have HRI : Hid (∀ n, RI w9.heap.size Wz2.heap.size (Wz2.heap.size + 1) R2 2 Wz2 (pre ++ [x]) (((W.drewN n).setCell ⟨Wz2.heap.size + 1, 0, none⟩ (.int .i64 ((lastEnd pre : Int) + 8 + (x.pay.length : Int)))).setCell ⟨Wz2.heap.size, 0, none⟩ (.int .i64 ((pre.length : Int) + 1))) ∧ KeepsFrom 0 W (((W.drewN n).setCell ⟨Wz2.heap.size + 1, 0, none⟩ (.int .i64 ((lastEnd pre : Int) + 8 + (x.pay.length : Int)))).setCell ⟨Wz2.heap.size, 0, none⟩ (.int .i64 ((pre.length : Int) + 1))) ∧ Below w9.heap.size W (((W.drewN n).setCell ⟨Wz2.heap.size + 1, 0, none⟩ (.int .i64 ((lastEnd pre : Int) + 8 + (x.pay.length : Int)))).setCell ⟨Wz2.heap.size, 0, none⟩ (.int .i64 ((pre.length : Int) + 1)))) := by
                      intro n
                      have := ri_more (x := x) hI (by have := HSW2.out; omega) (by have := HSW2.out; omega) (by omega) (by have := HRW2.out; omega) (by have := HRW2.out; omega) n
                      rw [lastEnd_snoc, hpl] at this
                      have e1 : ((lastEnd pre + 8 + x.pay.length : Nat) : Int) = (lastEnd pre : Int) + 8 + (x.pay.length : Int) := by omega
                      have e2 : (((pre ++ [x]).length : Nat) : Int) = (pre.length : Int) + 1 := by simp
                      rw [e1, e2] at this
                      exact this
                    have hcK := b1.cell
                    have hcA := b2.cell
                    have hcR := b3.cell
                    have hfK := b1.frozen
                    have hfA := b2.frozen
                    have hcW := y3.cell
                    have hRK : ∀ n v v', (((W.drewN n).setCell ⟨Wz2.heap.size + 1, 0, none⟩ v).setCell ⟨Wz2.heap.size, 0, none⟩ v').cell? ⟨R2, 0, none⟩ = some (.int .i64 2) := fun n v v' => (((show Boxed (W.drewN n) R2 3 (.int .i64 2) from b3).other (B' := Wz2.heap.size + 1) (by have := HRW2.out; omega) v).other (B' := Wz2.heap.size) (by have := HRW2.out; omega) v').cell
                    have hSK : ∀ n v v', (((W.drewN n).setCell ⟨Wz2.heap.size + 1, 0, none⟩ v).setCell ⟨Wz2.heap.size, 0, none⟩ v').cell? ⟨w.heap.size, 0, none⟩ = some (.int .i64 stop) := fun n v v' => (((show Boxed (W.drewN n) w.heap.size 3 (.int .i64 stop) from y6).other (B' := Wz2.heap.size + 1) (by have := HSW2.out; have := HW9.out; omega) v).other (B' := Wz2.heap.size) (by have := HSW2.out; have := HW9.out; omega) v').cell
                    have HBK : Hid (∀ v v' n, Boxed W Bb 22 (.slice ca b.length cc) → Boxed ((((W.drewN n).setCell ⟨Wz2.heap.size + 1, 0, none⟩ v)).setCell ⟨Wz2.heap.size, 0, none⟩ v') Bb 22 (.slice ca b.length cc)) := fun v v' n q => ((show Boxed (W.drewN n) Bb 22 (.slice ca b.length cc) from q).other (B' := Wz2.heap.size + 1) (by have := HSW2.out; omega) v).other (B' := Wz2.heap.size) (by have := HSW2.out; omega) v'
                    rw [hpl] at hbd
                    have h3 : 1 ≤ n - 1 - 1 := by omega
                    clear b1 b2 b3 y1 y2 y3 y5 y6 y7 hI hI0 hBW hFW hB9W hpf hpk hlt hOy hx hyl
                    generalize (ys[pre.length]'hpy) = y at *
                    obtain ⟨ypl, yp, ya, yc⟩ := y
                    obtain ⟨xpl, xp, xa, xc⟩ := x
                    simp only [FrD.v] at *
                    subst hyk
                    subst hpl
                    gi_wp2_with (refine ⟨trivial, ?_⟩; gi_at_call 14; refine (CallsIn.inRound _ (callsIn_wide.2 CSM.out)).mono ?_; rintro e w' ⟨rfl, n', rfl⟩)
                    obtain ⟨r1, r2, r3⟩ := HRI.out n'
                    exact ⟨⟨r2.size, fun k o _ hk ho => r2.same k o (Nat.zero_le _) hk ho⟩, ⟨r3, fun q => HBK.out _ _ n' q⟩, r1⟩
                  case done2a =>
                    rintro D2 zs W hD hS hI hK
                    obtain ⟨b1, b2, b3, hBW, hFW⟩ := hI
                    have hB9W : Below w9.heap.size w9 W := HB2.out.trans hBW
                    obtain ⟨y1, y2, y3, y4, y5, y6, y7, -⟩ := hBunW W hB9W
                    have hzl : zs.length = ys.length := by rw [HYL.out, ← hS, List.length_map]
                    rw [hzl] at b1
                    have hcK := b1.cell
                    have hcR := b3.cell
                    have hcW := y3.cell
                    have hcS := y6.cell
                    have HB3 : Hid (Below w9.heap.size w9 (W.alloc (.cells #[.int .i64 3] 3))) := hB9W.alloc hB9W.size _
                    have bR3 := Boxed.new W 3 (.int .i64 3)
                    have HSW3 : Hid (w9.heap.size ≤ (W.alloc (.cells #[.int .i64 3] 3)).heap.size) := HB3.out.size
                    have HM3 : Hid (Marks w9.heap.size (W.alloc (.cells #[.int .i64 3] 3)) ({ target := .collected D2, args := #[] } :: [{ target := .collected D1, args := #[] }, { target := .collected D0, args := #[] }])) := HM2.out.cons (fun E hN hE => below_heap ((Below.refl _ _).alloc (Nat.le_refl _) _) (hFW.same E _ hN hE rfl)) D2 (by have := HSW2.out; omega) (by omega) (below_heap ((Below.refl _ _).alloc (Nat.le_refl _) _) hK)
                    clear b1 b2 b3 y1 y2 y3 y4 y5 y6 y7 hBW hFW hB9W hK1 hA1 hR1 hBst hKFr hB91 hbn hsl1 hK hD
                    gi_wp2
                    generalize W.alloc (.cells #[.int .i64 3] 3) = Wz3 at *
                    obtain ⟨R3, hR3⟩ : ∃ R3, W.heap.size = R3 := ⟨_, rfl⟩
                    rw [hR3] at bR3
                    simp only [hR3]
                    clear hR3 hcK hcR hcW hcS
                    rw [roundsIn_succ]
                    have hc3 := bR3.cell
                    have bRes := (hBunW Wz3 HB3.out).2.2.2.2.2.2.1
                    have hcF := bRes.cell
                    have hfF := bRes.frozen
                    gi_wp2
                    obtain ⟨Ds, hds, hnd, hmk⟩ := HM3.out
                    have HF : Hid (Below w.heap.size w (Wz3.setCell ⟨w.heap.size + 1, 0, none⟩ (.bool true))) := (HWX.out.trans (HB3.out.mono HWX.out.size)).setCell (p := ⟨w.heap.size + 1, 0, none⟩) (by simp) _
                    show LeavesInM _ _ _ _ _ _ _ _ _
                    rw [hds]
                    refine leave_marks (w.heap.size + 1 + 1) Ds _ hnd (fun E hE => ⟨by have := (hmk E hE).1; have := HW9.out; omega, (KeepsOthers.setCell Wz3 ⟨w.heap.size + 1, 0, none⟩ (.bool true)).same E _ (hmk E hE).2 rfl⟩) (fun w' hBw hcw => ?_) (by have := HSW3.out; have := HW9.out; simp; omega)
                    have hbf := bRes.set (.bool true)
                    exact ⟨_, results_cell rfl _ _ (w.heap.size + 1) true rfl (hcw _ _ hbf rfl), rfl, HF.out.trans (hBw.mono (by omega))⟩
                  case stop2a =>
                    rintro D c' pre W _ _ h _
                    exact h.elim
                · clear hst
                  have hcK := b1.cell
                  have hcR := b3.cell
                  have hcW := y3.cell
                  have hcS := y6.cell
                  have HB2 : Hid (Below w9.heap.size w9 (W.alloc (.cells #[.int .i64 2] 3))) := hB9W.alloc hB9W.size _
                  have bR2 := Boxed.new W 3 (.int .i64 2)
                  have HSW2 : Hid (w9.heap.size ≤ (W.alloc (.cells #[.int .i64 2] 3)).heap.size) := HB2.out.size
                  have HM2 : Hid (Marks w9.heap.size (W.alloc (.cells #[.int .i64 2] 3)) ({ target := .collected D1, args := #[] } :: [{ target := .collected D0, args := #[] }])) := HM1.out.cons (fun E hN hE => below_heap ((Below.refl _ _).alloc (Nat.le_refl _) _) (hFW.same E _ hN hE rfl)) D1 (by have := HSW1.out; omega) (by omega) (below_heap ((Below.refl _ _).alloc (Nat.le_refl _) _) hK)
                  clear b1 b2 b3 y1 y2 y3 y4 y5 y6 y7 hBW hFW hB9W hK1 hA1 hR1 hBst hKFr hB91 hbn hsl1 hK hD
                  gi_wp2
                  generalize W.alloc (.cells #[.int .i64 2] 3) = Wz2 at *
                  obtain ⟨R2, hR2⟩ : ∃ R2, W.heap.size = R2 := ⟨_, rfl⟩
                  rw [hR2] at bR2
                  simp only [hR2]
                  clear hR2 hcK hcR hcW hcS
                  rw [roundsIn_succ]
                  have hc2 := bR2.cell
                  have HRW2 : Hid (R2 < Wz2.heap.size) := bR2.lt
                  gi_wp2
                  have hK1 : Boxed ((Wz2.alloc (.cells #[.int .i64 0] 3)).alloc (.cells #[.int .i64 0] 3)) Wz2.heap.size 3 (.int .i64 0) := (Boxed.new Wz2 3 (.int .i64 0)).alloc _
                  have hA1 : Boxed ((Wz2.alloc (.cells #[.int .i64 0] 3)).alloc (.cells #[.int .i64 0] 3)) (Wz2.heap.size + 1) 3 (.int .i64 0) := by
                    have := Boxed.new (Wz2.alloc (.cells #[.int .i64 0] 3)) 3 (.int .i64 0)
                    rwa [World.size_alloc] at this
                  have hR1 : Boxed ((Wz2.alloc (.cells #[.int .i64 0] 3)).alloc (.cells #[.int .i64 0] 3)) R2 3 (.int .i64 2) := (bR2.alloc _).alloc _
                  have hBst : Below Wz2.heap.size Wz2 ((Wz2.alloc (.cells #[.int .i64 0] 3)).alloc (.cells #[.int .i64 0] 3)) := ((Below.refl _ _).alloc (Nat.le_refl _) _).alloc (by simp) _
                  have hsz1 : ((Wz2.alloc (.cells #[.int .i64 0] 3)).alloc (.cells #[.int .i64 0] 3)).heap.size = Wz2.heap.size + 1 + 1 := by simp
                  have hKFr : KeepsFrom w9.heap.size Wz2 ((Wz2.alloc (.cells #[.int .i64 0] 3)).alloc (.cells #[.int .i64 0] 3)) := ((KeepsOthers.alloc Wz2 _).trans (KeepsOthers.alloc _ _)).from _
                  generalize hW1 : (Wz2.alloc (.cells #[.int .i64 0] 3)).alloc (.cells #[.int .i64 0] 3) = W12 at *
                  have hB91 : Below w9.heap.size w9 W12 := HB2.out.trans (hBst.mono HSW2.out)
                  have hbn := hBunW W12 hB91
                  have hbb9 : Bb < w9.heap.size := HBun3.out.2.2.2.1.lt
                  have hsl1 : Sl w9.heap.size W12 (.slice ca b.length cc) b := (HBun3.out.2.2.2.2.1.sl (Nat.le_refl _)).below hB91
                  refine range_yields (n := n) (gf := 42) (lb := #[.pointer (some ⟨Bb, 0, none⟩)]) rfl (enters_of Try.func42 (by kernel_rfl) rfl)
                    (frames_yields (n - 1) (by omega) Bb w9.heap.size _ b (by omega) W12 (by have := HSW2.out; omega) hbn.2.2.2.1 hsl1)
                    (fun h k => ⟨h.1.trans k.1, fun q => k.2 (h.2 q)⟩)
                    (fun W l o o' hl hh ho => ⟨(Below.refl w9.heap.size W).grown (grownBy_putObj' W l o') (by have := (Array.getElem?_eq_some_iff.1 hh).1; have := HSW2.out; omega) (fun k e => by cases e; have := HSW2.out; omega), fun q => q.kept (grownBy_putObj' W l o') (fun e => by cases e; rw [show W.heap[Bb]? = _ from q] at hh; cases hh; cases ho)⟩)
                    (Below.refl _ _) (fun _ => rfl)
                    (RI w9.heap.size Wz2.heap.size (Wz2.heap.size + 1) R2 2 Wz2) (fun _ _ _ => False) (ri_own _ _ _ _ _ _ HSW2.out _ (by omega)) (fun _ _ _ _ _ hs _ _ => hs)
                    (fun pre m => OwnFrom.and (Own.from (by
                      intro x X Y row hs hg hrow
                      exact own_pays (N := m) [x] X Y row (fun y hy => by obtain rfl : y = x := (by simpa using hy); exact hs) hg hrow x (by simp)) _) (ownFrom_pure _ _))
                    ⟨hK1, hA1, hR1, hBst.mono HSW2.out, hKFr⟩
                    ?az2b ?assign2b ?body2b ?done2b ?stop2b
                  case assign2b =>
                    intro l x W K hK
                    unfold encF FrD.v at *
                    gi_wp2
                    exact hK
                  case body2b =>
                    rintro l' pre x W0' W hI0 hI ⟨hx, hpf⟩ hlt
                    obtain ⟨b1, b2, b3, hBW, hFW⟩ := id hI
                    have hB9W : Below w9.heap.size w9 W := HB2.out.trans hBW
                    obtain ⟨y1, y2, y3, y4, y5, y6, y7, -⟩ := hBunW W hB9W
                    obtain ⟨hpl, hpk⟩ := place_eq pre x b hpf
                    have hyl := HYL.out
                    have hpy : pre.length < ys.length := by omega
                    obtain ⟨mb, hma, hcY⟩ := row_cell y1 pre.length hpy
                    subst hma
                    have hyk : (ys[pre.length]'hpy).pay = x.pay := by
                      have q : (ys.map FrD.key)[pre.length]? = some x.key := by rw [HK4.out]; exact hpk
                      rw [List.getElem?_map, List.getElem?_eq_getElem hpy] at q
                      have := Option.some.inj q
                      exact congrArg Prod.snd this
                    have hOy := y2 _ (List.getElem_mem hpy)
                    have hmc : ys.length ≤ mc ∧ mc ≤ 9223372036854775807 := by
                      rcases y1.2 with ⟨q1, q2⟩ | ⟨g', cap', cur, q1, _, _, q2, q3, _⟩
                      · omega
                      · cases q1; unfold maxLen at q3; exact ⟨q2, by omega⟩
                    have hbd : x.place + 8 + x.pay.length ≤ 4000 := by
                      have := framesOf_in b x.key (List.mem_of_getElem? hpk)
                      simp only [FrD.key] at this
                      omega
                    have CSM : Hid (Calls Try.prog 14 #[x.v, (ys[pre.length]'hpy).v] W fun e w' => e = .returned (.bool true) ∧ ∃ n, w' = W.drewN n) := by
                      have h1 := hx.sl (Nat.le_refl W.heap.size)
                      have h2 := hOy.sl (Nat.le_refl W.heap.size)
                      rw [hyk] at h2
                      have := same_any _ _ _ _ _ W h1 h2
                      unfold Hid
                      simpa using this
                    have HRI : Hid (∀ n, RI w9.heap.size Wz2.heap.size (Wz2.heap.size + 1) R2 2 Wz2 (pre ++ [x]) (((W.drewN n).setCell ⟨Wz2.heap.size + 1, 0, none⟩ (.int .i64 ((lastEnd pre : Int) + 8 + (x.pay.length : Int)))).setCell ⟨Wz2.heap.size, 0, none⟩ (.int .i64 ((pre.length : Int) + 1))) ∧ KeepsFrom 0 W (((W.drewN n).setCell ⟨Wz2.heap.size + 1, 0, none⟩ (.int .i64 ((lastEnd pre : Int) + 8 + (x.pay.length : Int)))).setCell ⟨Wz2.heap.size, 0, none⟩ (.int .i64 ((pre.length : Int) + 1))) ∧ Below w9.heap.size W (((W.drewN n).setCell ⟨Wz2.heap.size + 1, 0, none⟩ (.int .i64 ((lastEnd pre : Int) + 8 + (x.pay.length : Int)))).setCell ⟨Wz2.heap.size, 0, none⟩ (.int .i64 ((pre.length : Int) + 1)))) := by
                      intro n
                      have := ri_more (x := x) hI (by have := HSW2.out; omega) (by have := HSW2.out; omega) (by omega) (by have := HRW2.out; omega) (by have := HRW2.out; omega) n
                      rw [lastEnd_snoc, hpl] at this
                      have e1 : ((lastEnd pre + 8 + x.pay.length : Nat) : Int) = (lastEnd pre : Int) + 8 + (x.pay.length : Int) := by omega
                      have e2 : (((pre ++ [x]).length : Nat) : Int) = (pre.length : Int) + 1 := by simp
                      rw [e1, e2] at this
                      exact this
                    have hcK := b1.cell
                    have hcA := b2.cell
                    have hcR := b3.cell
                    have hfK := b1.frozen
                    have hfA := b2.frozen
                    have hcW := y3.cell
                    have hRK : ∀ n v v', (((W.drewN n).setCell ⟨Wz2.heap.size + 1, 0, none⟩ v).setCell ⟨Wz2.heap.size, 0, none⟩ v').cell? ⟨R2, 0, none⟩ = some (.int .i64 2) := fun n v v' => (((show Boxed (W.drewN n) R2 3 (.int .i64 2) from b3).other (B' := Wz2.heap.size + 1) (by have := HRW2.out; omega) v).other (B' := Wz2.heap.size) (by have := HRW2.out; omega) v').cell
                    have hSK : ∀ n v v', (((W.drewN n).setCell ⟨Wz2.heap.size + 1, 0, none⟩ v).setCell ⟨Wz2.heap.size, 0, none⟩ v').cell? ⟨w.heap.size, 0, none⟩ = some (.int .i64 stop) := fun n v v' => (((show Boxed (W.drewN n) w.heap.size 3 (.int .i64 stop) from y6).other (B' := Wz2.heap.size + 1) (by have := HSW2.out; have := HW9.out; omega) v).other (B' := Wz2.heap.size) (by have := HSW2.out; have := HW9.out; omega) v').cell
                    have HBK : Hid (∀ v v' n, Boxed W Bb 22 (.slice ca b.length cc) → Boxed ((((W.drewN n).setCell ⟨Wz2.heap.size + 1, 0, none⟩ v)).setCell ⟨Wz2.heap.size, 0, none⟩ v') Bb 22 (.slice ca b.length cc)) := fun v v' n q => ((show Boxed (W.drewN n) Bb 22 (.slice ca b.length cc) from q).other (B' := Wz2.heap.size + 1) (by have := HSW2.out; omega) v).other (B' := Wz2.heap.size) (by have := HSW2.out; omega) v'
                    rw [hpl] at hbd
                    have h3 : 1 ≤ n - 1 - 1 := by omega
                    clear b1 b2 b3 y1 y2 y3 y5 y6 y7 hI hI0 hBW hFW hB9W hpf hpk hlt hOy hx hyl
                    generalize (ys[pre.length]'hpy) = y at *
                    obtain ⟨ypl, yp, ya, yc⟩ := y
                    obtain ⟨xpl, xp, xa, xc⟩ := x
                    simp only [FrD.v] at *
                    subst hyk
                    subst hpl
                    gi_wp2_with (refine ⟨trivial, ?_⟩; gi_at_call 14; refine (CallsIn.inRound _ (callsIn_wide.2 CSM.out)).mono ?_; rintro e w' ⟨rfl, n', rfl⟩)
                    obtain ⟨r1, r2, r3⟩ := HRI.out n'
                    exact ⟨⟨r2.size, fun k o _ hk ho => r2.same k o (Nat.zero_le _) hk ho⟩, ⟨r3, fun q => HBK.out _ _ n' q⟩, r1⟩
                  case done2b =>
                    rintro D2 zs W hD hS hI hK
                    obtain ⟨b1, b2, b3, hBW, hFW⟩ := hI
                    have hB9W : Below w9.heap.size w9 W := HB2.out.trans hBW
                    obtain ⟨y1, y2, y3, y4, y5, y6, y7, -⟩ := hBunW W hB9W
                    have hzl : zs.length = ys.length := by rw [HYL.out, ← hS, List.length_map]
                    rw [hzl] at b1
                    have hcK := b1.cell
                    have hcR := b3.cell
                    have hcW := y3.cell
                    have hcS := y6.cell
                    have HB3 : Hid (Below w9.heap.size w9 (W.alloc (.cells #[.int .i64 3] 3))) := hB9W.alloc hB9W.size _
                    have bR3 := Boxed.new W 3 (.int .i64 3)
                    have HSW3 : Hid (w9.heap.size ≤ (W.alloc (.cells #[.int .i64 3] 3)).heap.size) := HB3.out.size
                    have HM3 : Hid (Marks w9.heap.size (W.alloc (.cells #[.int .i64 3] 3)) ({ target := .collected D2, args := #[] } :: [{ target := .collected D1, args := #[] }, { target := .collected D0, args := #[] }])) := HM2.out.cons (fun E hN hE => below_heap ((Below.refl _ _).alloc (Nat.le_refl _) _) (hFW.same E _ hN hE rfl)) D2 (by have := HSW2.out; omega) (by omega) (below_heap ((Below.refl _ _).alloc (Nat.le_refl _) _) hK)
                    clear b1 b2 b3 y1 y2 y3 y4 y5 y6 y7 hBW hFW hB9W hK1 hA1 hR1 hBst hKFr hB91 hbn hsl1 hK hD
                    gi_wp2
                    generalize W.alloc (.cells #[.int .i64 3] 3) = Wz3 at *
                    obtain ⟨R3, hR3⟩ : ∃ R3, W.heap.size = R3 := ⟨_, rfl⟩
                    rw [hR3] at bR3
                    simp only [hR3]
                    clear hR3 hcK hcR hcW hcS
                    rw [roundsIn_succ]
                    have hc3 := bR3.cell
                    have bRes := (hBunW Wz3 HB3.out).2.2.2.2.2.2.1
                    have hcF := bRes.cell
                    have hfF := bRes.frozen
                    gi_wp2
                    obtain ⟨Ds, hds, hnd, hmk⟩ := HM3.out
                    have HF : Hid (Below w.heap.size w (Wz3.setCell ⟨w.heap.size + 1, 0, none⟩ (.bool true))) := (HWX.out.trans (HB3.out.mono HWX.out.size)).setCell (p := ⟨w.heap.size + 1, 0, none⟩) (by simp) _
                    show LeavesInM _ _ _ _ _ _ _ _ _
                    rw [hds]
                    refine leave_marks (w.heap.size + 1 + 1) Ds _ hnd (fun E hE => ⟨by have := (hmk E hE).1; have := HW9.out; omega, (KeepsOthers.setCell Wz3 ⟨w.heap.size + 1, 0, none⟩ (.bool true)).same E _ (hmk E hE).2 rfl⟩) (fun w' hBw hcw => ?_) (by have := HSW3.out; have := HW9.out; simp; omega)
                    have hbf := bRes.set (.bool true)
                    exact ⟨_, results_cell rfl _ _ (w.heap.size + 1) true rfl (hcw _ _ hbf rfl), rfl, HF.out.trans (hBw.mono (by omega))⟩
                  case stop2b =>
                    rintro D c' pre W _ _ h _
                    exact h.elim
              case stop1 =>
                rintro D1 c' pre W hD hSp ⟨rfl, ⟨b1, b2, b3, hBW, hFW⟩, hst, hst3⟩ hK
                have hB9W : Below w9.heap.size w9 W := HB1.out.trans hBW
                obtain ⟨y1, y2, y3, y4, y5, y6, y7, -⟩ := hBunW W hB9W
                have hzl : pre.length ≤ ys.length := by have := hSp.length_le; rw [List.length_map] at this; rw [HYL.out]; exact this
                rw [hst] at b1
                have hst2 : stop ≤ (ys.length : Int) := by omega
                clear hst hzl hSp
                have hcK := b1.cell
                have hcR := b3.cell
                have hcW := y3.cell
                have hcS := y6.cell
                have HB2 : Hid (Below w9.heap.size w9 (W.alloc (.cells #[.int .i64 2] 3))) := hB9W.alloc hB9W.size _
                have bR2 := Boxed.new W 3 (.int .i64 2)
                have HSW2 : Hid (w9.heap.size ≤ (W.alloc (.cells #[.int .i64 2] 3)).heap.size) := HB2.out.size
                have HM2 : Hid (Marks w9.heap.size (W.alloc (.cells #[.int .i64 2] 3)) ({ target := .collected D1, args := #[] } :: [{ target := .collected D0, args := #[] }])) := HM1.out.cons (fun E hN hE => below_heap ((Below.refl _ _).alloc (Nat.le_refl _) _) (hFW.same E _ hN hE rfl)) D1 (by have := HSW1.out; omega) (by omega) (below_heap ((Below.refl _ _).alloc (Nat.le_refl _) _) hK)
                clear b1 b2 b3 y1 y2 y3 y4 y5 y6 y7 hBW hFW hB9W hK1 hA1 hR1 hBst hKFr hB91 hbn hsl1 hK hD
                gi_wp2
                generalize W.alloc (.cells #[.int .i64 2] 3) = Wz2 at *
                obtain ⟨R2, hR2⟩ : ∃ R2, W.heap.size = R2 := ⟨_, rfl⟩
                rw [hR2] at bR2
                simp only [hR2]
                clear hR2 hcK hcR hcW hcS
                rw [roundsIn_succ]
                have hc2 := bR2.cell
                have HRW2 : Hid (R2 < Wz2.heap.size) := bR2.lt
                gi_wp2
                have hK1 : Boxed ((Wz2.alloc (.cells #[.int .i64 0] 3)).alloc (.cells #[.int .i64 0] 3)) Wz2.heap.size 3 (.int .i64 0) := (Boxed.new Wz2 3 (.int .i64 0)).alloc _
                have hA1 : Boxed ((Wz2.alloc (.cells #[.int .i64 0] 3)).alloc (.cells #[.int .i64 0] 3)) (Wz2.heap.size + 1) 3 (.int .i64 0) := by
                  have := Boxed.new (Wz2.alloc (.cells #[.int .i64 0] 3)) 3 (.int .i64 0)
                  rwa [World.size_alloc] at this
                have hR1 : Boxed ((Wz2.alloc (.cells #[.int .i64 0] 3)).alloc (.cells #[.int .i64 0] 3)) R2 3 (.int .i64 2) := (bR2.alloc _).alloc _
                have hBst : Below Wz2.heap.size Wz2 ((Wz2.alloc (.cells #[.int .i64 0] 3)).alloc (.cells #[.int .i64 0] 3)) := ((Below.refl _ _).alloc (Nat.le_refl _) _).alloc (by simp) _
                have hsz1 : ((Wz2.alloc (.cells #[.int .i64 0] 3)).alloc (.cells #[.int .i64 0] 3)).heap.size = Wz2.heap.size + 1 + 1 := by simp
                have hKFr : KeepsFrom w9.heap.size Wz2 ((Wz2.alloc (.cells #[.int .i64 0] 3)).alloc (.cells #[.int .i64 0] 3)) := ((KeepsOthers.alloc Wz2 _).trans (KeepsOthers.alloc _ _)).from _
                generalize hW1 : (Wz2.alloc (.cells #[.int .i64 0] 3)).alloc (.cells #[.int .i64 0] 3) = W12 at *
                have hB91 : Below w9.heap.size w9 W12 := HB2.out.trans (hBst.mono HSW2.out)
                have hbn := hBunW W12 hB91
                have hbb9 : Bb < w9.heap.size := HBun3.out.2.2.2.1.lt
                have hsl1 : Sl w9.heap.size W12 (.slice ca b.length cc) b := (HBun3.out.2.2.2.2.1.sl (Nat.le_refl _)).below hB91
                refine range_yields (n := n) (gf := 42) (lb := #[.pointer (some ⟨Bb, 0, none⟩)]) rfl (enters_of Try.func42 (by kernel_rfl) rfl)
                  (frames_yields (n - 1) (by omega) Bb w9.heap.size _ b (by omega) W12 (by have := HSW2.out; omega) hbn.2.2.2.1 hsl1)
                  (fun h k => ⟨h.1.trans k.1, fun q => k.2 (h.2 q)⟩)
                  (fun W l o o' hl hh ho => ⟨(Below.refl w9.heap.size W).grown (grownBy_putObj' W l o') (by have := (Array.getElem?_eq_some_iff.1 hh).1; have := HSW2.out; omega) (fun k e => by cases e; have := HSW2.out; omega), fun q => q.kept (grownBy_putObj' W l o') (fun e => by cases e; rw [show W.heap[Bb]? = _ from q] at hh; cases hh; cases ho)⟩)
                  (Below.refl _ _) (fun _ => rfl)
                  (RI w9.heap.size Wz2.heap.size (Wz2.heap.size + 1) R2 2 Wz2) (fun _ _ _ => False) (ri_own _ _ _ _ _ _ HSW2.out _ (by omega)) (fun _ _ _ _ _ hs _ _ => hs)
                  (fun pre m => OwnFrom.and (Own.from (by
                    intro x X Y row hs hg hrow
                    exact own_pays (N := m) [x] X Y row (fun y hy => by obtain rfl : y = x := (by simpa using hy); exact hs) hg hrow x (by simp)) _) (ownFrom_pure _ _))
                  ⟨hK1, hA1, hR1, hBst.mono HSW2.out, hKFr⟩
                  ?az2c ?assign2c ?body2c ?done2c ?stop2c
                case assign2c =>
                  intro l x W K hK
                  unfold encF FrD.v at *
                  gi_wp2
                  exact hK
                case body2c =>
                  rintro l' pre x W0' W hI0 hI ⟨hx, hpf⟩ hlt
                  obtain ⟨b1, b2, b3, hBW, hFW⟩ := id hI
                  have hB9W : Below w9.heap.size w9 W := HB2.out.trans hBW
                  obtain ⟨y1, y2, y3, y4, y5, y6, y7, -⟩ := hBunW W hB9W
                  obtain ⟨hpl, hpk⟩ := place_eq pre x b hpf
                  have hyl := HYL.out
                  have hpy : pre.length < ys.length := by omega
                  obtain ⟨mb, hma, hcY⟩ := row_cell y1 pre.length hpy
                  subst hma
                  have hyk : (ys[pre.length]'hpy).pay = x.pay := by
                    have q : (ys.map FrD.key)[pre.length]? = some x.key := by rw [HK4.out]; exact hpk
                    rw [List.getElem?_map, List.getElem?_eq_getElem hpy] at q
                    have := Option.some.inj q
                    exact congrArg Prod.snd this
                  have hOy := y2 _ (List.getElem_mem hpy)
                  have hmc : ys.length ≤ mc ∧ mc ≤ 9223372036854775807 := by
                    rcases y1.2 with ⟨q1, q2⟩ | ⟨g', cap', cur, q1, _, _, q2, q3, _⟩
                    · omega
                    · cases q1; unfold maxLen at q3; exact ⟨q2, by omega⟩
                  have hbd : x.place + 8 + x.pay.length ≤ 4000 := by
                    have := framesOf_in b x.key (List.mem_of_getElem? hpk)
                    simp only [FrD.key] at this
                    omega
                  have CSM : Hid (Calls Try.prog 14 #[x.v, (ys[pre.length]'hpy).v] W fun e w' => e = .returned (.bool true) ∧ ∃ n, w' = W.drewN n) := by
                    have h1 := hx.sl (Nat.le_refl W.heap.size)
                    have h2 := hOy.sl (Nat.le_refl W.heap.size)
                    rw [hyk] at h2
                    have := same_any _ _ _ _ _ W h1 h2
                    unfold Hid
                    simpa using this
                  have HRI : Hid (∀ n, RI w9.heap.size Wz2.heap.size (Wz2.heap.size + 1) R2 2 Wz2 (pre ++ [x]) (((W.drewN n).setCell ⟨Wz2.heap.size + 1, 0, none⟩ (.int .i64 ((lastEnd pre : Int) + 8 + (x.pay.length : Int)))).setCell ⟨Wz2.heap.size, 0, none⟩ (.int .i64 ((pre.length : Int) + 1))) ∧ KeepsFrom 0 W (((W.drewN n).setCell ⟨Wz2.heap.size + 1, 0, none⟩ (.int .i64 ((lastEnd pre : Int) + 8 + (x.pay.length : Int)))).setCell ⟨Wz2.heap.size, 0, none⟩ (.int .i64 ((pre.length : Int) + 1))) ∧ Below w9.heap.size W (((W.drewN n).setCell ⟨Wz2.heap.size + 1, 0, none⟩ (.int .i64 ((lastEnd pre : Int) + 8 + (x.pay.length : Int)))).setCell ⟨Wz2.heap.size, 0, none⟩ (.int .i64 ((pre.length : Int) + 1)))) := by
                    intro n
                    have := ri_more (x := x) hI (by have := HSW2.out; omega) (by have := HSW2.out; omega) (by omega) (by have := HRW2.out; omega) (by have := HRW2.out; omega) n
                    rw [lastEnd_snoc, hpl] at this
                    have e1 : ((lastEnd pre + 8 + x.pay.length : Nat) : Int) = (lastEnd pre : Int) + 8 + (x.pay.length : Int) := by omega
                    have e2 : (((pre ++ [x]).length : Nat) : Int) = (pre.length : Int) + 1 := by simp
                    rw [e1, e2] at this
                    exact this
                  have hcK := b1.cell
                  have hcA := b2.cell
                  have hcR := b3.cell
                  have hfK := b1.frozen
                  have hfA := b2.frozen
                  have hcW := y3.cell
                  have hRK : ∀ n v v', (((W.drewN n).setCell ⟨Wz2.heap.size + 1, 0, none⟩ v).setCell ⟨Wz2.heap.size, 0, none⟩ v').cell? ⟨R2, 0, none⟩ = some (.int .i64 2) := fun n v v' => (((show Boxed (W.drewN n) R2 3 (.int .i64 2) from b3).other (B' := Wz2.heap.size + 1) (by have := HRW2.out; omega) v).other (B' := Wz2.heap.size) (by have := HRW2.out; omega) v').cell
                  have hSK : ∀ n v v', (((W.drewN n).setCell ⟨Wz2.heap.size + 1, 0, none⟩ v).setCell ⟨Wz2.heap.size, 0, none⟩ v').cell? ⟨w.heap.size, 0, none⟩ = some (.int .i64 stop) := fun n v v' => (((show Boxed (W.drewN n) w.heap.size 3 (.int .i64 stop) from y6).other (B' := Wz2.heap.size + 1) (by have := HSW2.out; have := HW9.out; omega) v).other (B' := Wz2.heap.size) (by have := HSW2.out; have := HW9.out; omega) v').cell
                  have HBK : Hid (∀ v v' n, Boxed W Bb 22 (.slice ca b.length cc) → Boxed ((((W.drewN n).setCell ⟨Wz2.heap.size + 1, 0, none⟩ v)).setCell ⟨Wz2.heap.size, 0, none⟩ v') Bb 22 (.slice ca b.length cc)) := fun v v' n q => ((show Boxed (W.drewN n) Bb 22 (.slice ca b.length cc) from q).other (B' := Wz2.heap.size + 1) (by have := HSW2.out; omega) v).other (B' := Wz2.heap.size) (by have := HSW2.out; omega) v'
                  rw [hpl] at hbd
                  have h3 : 1 ≤ n - 1 - 1 := by omega
                  clear b1 b2 b3 y1 y2 y3 y5 y6 y7 hI hI0 hBW hFW hB9W hpf hpk hlt hOy hx hyl
                  generalize (ys[pre.length]'hpy) = y at *
                  obtain ⟨ypl, yp, ya, yc⟩ := y
                  obtain ⟨xpl, xp, xa, xc⟩ := x
                  simp only [FrD.v] at *
                  subst hyk
                  subst hpl
                  gi_wp2_with (refine ⟨trivial, ?_⟩; gi_at_call 14; refine (CallsIn.inRound _ (callsIn_wide.2 CSM.out)).mono ?_; rintro e w' ⟨rfl, n', rfl⟩)
                  obtain ⟨r1, r2, r3⟩ := HRI.out n'
                  exact ⟨⟨r2.size, fun k o _ hk ho => r2.same k o (Nat.zero_le _) hk ho⟩, ⟨r3, fun q => HBK.out _ _ n' q⟩, r1⟩
                case done2c =>
                  rintro D2 zs W hD hS hI hK
                  obtain ⟨b1, b2, b3, hBW, hFW⟩ := hI
                  have hB9W : Below w9.heap.size w9 W := HB2.out.trans hBW
                  obtain ⟨y1, y2, y3, y4, y5, y6, y7, -⟩ := hBunW W hB9W
                  have hzl : zs.length = ys.length := by rw [HYL.out, ← hS, List.length_map]
                  rw [hzl] at b1
                  have hcK := b1.cell
                  have hcR := b3.cell
                  have hcW := y3.cell
                  have hcS := y6.cell
                  have HB3 : Hid (Below w9.heap.size w9 (W.alloc (.cells #[.int .i64 3] 3))) := hB9W.alloc hB9W.size _
                  have bR3 := Boxed.new W 3 (.int .i64 3)
                  have HSW3 : Hid (w9.heap.size ≤ (W.alloc (.cells #[.int .i64 3] 3)).heap.size) := HB3.out.size
                  have HM3 : Hid (Marks w9.heap.size (W.alloc (.cells #[.int .i64 3] 3)) ({ target := .collected D2, args := #[] } :: [{ target := .collected D1, args := #[] }, { target := .collected D0, args := #[] }])) := HM2.out.cons (fun E hN hE => below_heap ((Below.refl _ _).alloc (Nat.le_refl _) _) (hFW.same E _ hN hE rfl)) D2 (by have := HSW2.out; omega) (by omega) (below_heap ((Below.refl _ _).alloc (Nat.le_refl _) _) hK)
                  clear b1 b2 b3 y1 y2 y3 y4 y5 y6 y7 hBW hFW hB9W hK1 hA1 hR1 hBst hKFr hB91 hbn hsl1 hK hD
                  gi_wp2
                  generalize W.alloc (.cells #[.int .i64 3] 3) = Wz3 at *
                  obtain ⟨R3, hR3⟩ : ∃ R3, W.heap.size = R3 := ⟨_, rfl⟩
                  rw [hR3] at bR3
                  simp only [hR3]
                  clear hR3 hcK hcR hcW hcS
                  rw [roundsIn_succ]
                  have hc3 := bR3.cell
                  have bRes := (hBunW Wz3 HB3.out).2.2.2.2.2.2.1
                  have hcF := bRes.cell
                  have hfF := bRes.frozen
                  gi_wp2
                  obtain ⟨Ds, hds, hnd, hmk⟩ := HM3.out
                  have HF : Hid (Below w.heap.size w (Wz3.setCell ⟨w.heap.size + 1, 0, none⟩ (.bool true))) := (HWX.out.trans (HB3.out.mono HWX.out.size)).setCell (p := ⟨w.heap.size + 1, 0, none⟩) (by simp) _
                  show LeavesInM _ _ _ _ _ _ _ _ _
                  rw [hds]
                  refine leave_marks (w.heap.size + 1 + 1) Ds _ hnd (fun E hE => ⟨by have := (hmk E hE).1; have := HW9.out; omega, (KeepsOthers.setCell Wz3 ⟨w.heap.size + 1, 0, none⟩ (.bool true)).same E _ (hmk E hE).2 rfl⟩) (fun w' hBw hcw => ?_) (by have := HSW3.out; have := HW9.out; simp; omega)
                  have hbf := bRes.set (.bool true)
                  exact ⟨_, results_cell rfl _ _ (w.heap.size + 1) true rfl (hcw _ _ hbf rfl), rfl, HF.out.trans (hBw.mono (by omega))⟩
                case stop2c =>
                  rintro D c' pre W _ _ h _
                  exact h.elim
            case stop0 =>
              rintro D c' pre W _ _ h _
              exact h.elim
  · have hl' : decide ((4000 : Int) < (b.length : Int)) = true := by simp; omega
    have hcR := bR1.cell
    have hfR := bR1.frozen
    clear hB1
    gi_wp2
    have hbR2 := bR1.set (.bool true)
    refine ⟨_, results_cell rfl _ _ (w.heap.size + 1) true rfl hbR2, rfl, HW1.out.setCell (p := ⟨w.heap.size + 1, 0, none⟩) (by simp) _⟩
end Go.Proofs.Ythhnjiodfbckcaa
