/-
  frame.All: the payloads of the frames from the beginning on, how many bytes they have, the error of the first that is at fault.
-/
import Derived.Test.YthhnjiodfbckcaaIter
namespace Go.Proofs.Ythhnjiodfbckcaa
open Go.RowKit Go.Shelf
attribute [local go_sem] Oper.semAt_some

theorem info22 : (Try.prog.info? 22).map (fun i => (i.zero, i.size, i.bytes)) = some (some (.slice none 0 0), 1, 24) := by kernel_rfl

/-- No two of them share memory. -/
def Apart (xs : List FrD) : Prop := xs.Pairwise (fun x y => x.v.ownBlock = none ∨ x.v.ownBlock ≠ y.v.ownBlock)

/-- All's error. -/
def allE (b : List UInt8) : Nat := if endOf b = b.length then 0 else (getAt b (endOf b : Int)).2.2

/-- What All answers: a list of its own, each payload in memory of its own. -/
def AllP (b : List UInt8) (w w' : World) (e : Ending) : Prop :=
  ∃ (xs : List FrD) (vl : Value), e = .returned (.tuple #[vl, .int .i64 (endOf b : Int), .int .i64 (allE b : Int)]) ∧ xs.map FrD.key = framesOf b ∧
    w'.ownsRow w.heap.size 22 1 vl xs.length (xs.map FrD.v) ∧ (∀ x ∈ xs, Ow w.heap.size w' x.v x.pay) ∧ Apart xs ∧ Below w.heap.size w w'

theorem own_pays {N : Nat} : Own (fun (pre : List FrD) W => ∀ x ∈ pre, Ow N W x.v x.pay) := by
  intro s X Y row hs hg hrow x hx
  refine (hs x hx).kept hg ?_
  rcases (hs x hx).2 with ⟨h, _⟩ | ⟨g, cap, cur, h, _, hgb, _⟩
  · exact .inl (by rw [h]; rfl)
  · refine .inr fun e' => ?_
    rw [h] at e'
    obtain ⟨o, ho, hc⟩ := hrow g (by rw [← e']; rfl)
    rw [hgb] at ho; cases ho; cases hc

/-- The sequence's caller, as it stands behind the frames pre. -/
def AllI (w : World) (vb : Value) (pre : List FrD) (W : World) : Prop :=
  (∃ v, Boxed W w.heap.size 40 v ∧ W.ownsRow w.heap.size 22 1 v pre.length (pre.map FrD.v) ∧ v.ownBlock ≠ some (w.heap.size + 1 + 1)) ∧
  Boxed W (w.heap.size + 1) 3 (.int .i64 (lastEnd pre : Int)) ∧ Boxed W (w.heap.size + 1 + 1) 22 vb ∧ (∀ x ∈ pre, Ow w.heap.size W x.v x.pay) ∧ Apart pre ∧ Below w.heap.size w W

theorem allI_own (w : World) (vb : Value) (B : Nat) (hB : w.heap.size ≤ B) : OwnFrom B (AllI w vb) :=
  OwnFrom.and (Own.from (holdsRow_own w.heap.size w.heap.size 40 22 1 (fun pre : List FrD => pre.length) (fun pre => pre.map FrD.v) (fun _ v => v.ownBlock ≠ some (w.heap.size + 1 + 1))) _)
    (OwnFrom.and (Own.from (boxed_own _ _ (fun pre => .int .i64 (lastEnd pre : Int))) _) (OwnFrom.and (Own.from (boxed_own _ _ (fun _ => vb)) _) (OwnFrom.and (Own.from own_pays _) (OwnFrom.and (ownFrom_pure _ Apart) (ownFrom_below (Nat.le_refl _) hB)))))

/-- One round: the list has grown by the payload, the end is behind it. -/
theorem allI_round {w W w1 : World} {vb v v' : Value} {pre : List FrD} {x : FrD} {tmp : Obj} {W0 : World}
    (hI : AllI w vb pre W) (hv : Boxed W w.heap.size 40 v) (hrow : W.ownsRow w.heap.size 22 1 v pre.length (pre.map FrD.v)) (hne : v.ownBlock ≠ some (w.heap.size + 1 + 1))
    (h0 : AllI w vb pre W0) (hx : Ow W0.heap.size W x.v x.pay)
    (hown' : w1.ownsRow w.heap.size 22 1 v' (pre.length + 1) (pre.map FrD.v ++ [x.v])) (hgrow : (W.alloc tmp).grownBy w1 v.ownBlock) (hnew : v'.ownBlock = v.ownBlock ∨ v'.ownBlock = some (W.alloc tmp).heap.size) :
    Boxed w1 w.heap.size 40 v ∧ Boxed (w1.setCell ⟨w.heap.size, 0, none⟩ v') (w.heap.size + 1) 3 (.int .i64 (lastEnd pre : Int)) ∧
    KeepsFrom 0 W ((w1.setCell ⟨w.heap.size, 0, none⟩ v').setCell ⟨w.heap.size + 1, 0, none⟩ (.int .i64 (lastEnd (pre ++ [x]) : Int))) ∧
    KeepB w.heap.size (w.heap.size + 1 + 1) vb W ((w1.setCell ⟨w.heap.size, 0, none⟩ v').setCell ⟨w.heap.size + 1, 0, none⟩ (.int .i64 (lastEnd (pre ++ [x]) : Int))) ∧
    AllI w vb (pre ++ [x]) ((w1.setCell ⟨w.heap.size, 0, none⟩ v').setCell ⟨w.heap.size + 1, 0, none⟩ (.int .i64 (lastEnd (pre ++ [x]) : Int))) := by
  obtain ⟨-, hE, hb, hp, hap, hB⟩ := hI
  have hz := hB.size
  obtain ⟨hv1, hv2, hr2, hk2, hb2⟩ := hv.appended (by decide) hrow hz (Nat.le_refl _) hown' hgrow
  have hlt : w.heap.size + 1 + 1 < W.heap.size := hb.lt
  have hE1 : Boxed w1 (w.heap.size + 1) 3 (.int .i64 (lastEnd pre : Int)) := (hE.alloc tmp).kept hgrow (hE.not_row (by decide) hrow)
  have hE2 := hE1.other (B' := w.heap.size) (by omega) v'
  have hb1 : Boxed w1 (w.heap.size + 1 + 1) 22 vb := (hb.alloc tmp).kept hgrow (fun e => hne e.symm)
  have hb3 := (hb1.other (B' := w.heap.size) (by omega) v').other (B' := w.heap.size + 1) (by omega) (.int .i64 (lastEnd (pre ++ [x]) : Int))
  have hB3 : Below w.heap.size W ((w1.setCell ⟨w.heap.size, 0, none⟩ v').setCell ⟨w.heap.size + 1, 0, none⟩ (.int .i64 (lastEnd (pre ++ [x]) : Int))) := hb2.setCell (p := ⟨w.heap.size + 1, 0, none⟩) (by simp) _
  have hpay : ∀ y : FrD, Ow w.heap.size W y.v y.pay → Ow w.heap.size ((w1.setCell ⟨w.heap.size, 0, none⟩ v').setCell ⟨w.heap.size + 1, 0, none⟩ (.int .i64 (lastEnd (pre ++ [x]) : Int))) y.v y.pay := by
    intro y hy
    have y1 : Ow w.heap.size w1 y.v y.pay := by
      refine (hy.alloc tmp).kept hgrow ?_
      rcases hrow.2 with ⟨h, _⟩ | ⟨g, cap, cur, h, _, hgb, _⟩
      · rw [h]
        cases e : y.v.ownBlock with
        | none => exact .inl rfl
        | some k => exact .inr (by simp [Value.ownBlock])
      · right
        rw [h]
        exact hy.not_at hgb (by decide)
    have y2 := y1.kept (grownBy_setCell' w1 w.heap.size v') (.inr (y1.not_at hv1 (by decide)))
    exact y2.kept (grownBy_setCell' _ (w.heap.size + 1) _) (.inr (y2.not_at hE2 (by decide)))
  have hz0 := h0.2.2.2.2.2.size
  refine ⟨hv1, hE2, (hk2.trans (KeepsOthers.setCell _ _ _)).from 0, ⟨hB3, fun _ => hb3⟩, ⟨v', ?_, ?_, ?_⟩, hE2.set _, hb3, ?_, ?_, hB.trans hB3⟩
  · exact hv2.other (by omega) _
  · have := hr2.kept (grownBy_setCell' _ (w.heap.size + 1) (.int .i64 (lastEnd (pre ++ [x]) : Int))) (.inr (hE2.not_row (by decide) hr2).symm)
    simpa using this
  · rcases hnew with h | h
    · rw [h]; exact hne
    · rw [h]; simp; omega
  · intro y hy
    rcases List.mem_append.1 hy with h | h
    · exact hpay y (hp y h)
    · obtain rfl : y = x := by simpa using h
      exact hpay y (hx.base hz0)
  · unfold Apart
    rw [List.pairwise_append]
    refine ⟨hap, List.pairwise_singleton _ _, fun y hy z hz => ?_⟩
    obtain rfl : z = x := by simpa using hz
    exact (h0.2.2.2.1 y hy).apart hx (Nat.le_refl _)

set_option maxRecDepth 100000 in
set_option maxHeartbeats 4000000 in
theorem all_in (n : Nat) (hn : 3 ≤ n) (v : Value) (b : List UInt8) (w : World) (hv : Sl w.heap.size w v b) (hbl : b.length ≤ 1099511627776) :
    CallsIn Fence.wide n Try.prog 22 #[v] w fun e w' => AllP b w w' e := by
  have h1 : 1 ≤ n := by omega
  obtain ⟨i0, hi, hz0, hz1, hz2⟩ := info_parts info22
  obtain ⟨a0, cap0, rfl, -, hcm, -⟩ := id hv
  unfold maxLen at hcm
  refine callsIn_of_wp_marks Try.func22 rfl trivial ?_ rfl
  simp only [Try.ntmps22, List.size_toArray, List.length_cons, List.length_nil, Nat.reduceAdd, Nat.reduceSub, Array.replicate_succ, Array.replicate_zero, List.push_toArray, List.append_toArray, List.nil_append, List.cons_append]
  gi_wp2_with (refine ⟨trivial, ?_⟩; gi_at_call 38; refine (callsIn_wide.2 (frames_any _ _ _ _)).mono ?_; rintro e w' ⟨rfl, hw⟩; subst w')
  obtain ⟨W0, hW0⟩ : ∃ W0, (((w.alloc (Obj.cells #[Value.slice none 0 0] 40)).alloc (Obj.cells #[Value.int IntKind.i64 0] 3)).alloc (Obj.cells #[Value.slice a0 b.length cap0] 22)) = W0 := ⟨_, rfl⟩
  rw [hW0]
  have hsz : W0.heap.size = w.heap.size + 1 + 1 + 1 := by rw [← hW0]; simp
  have hB0 : Below w.heap.size w W0 := by rw [← hW0]; exact (((Below.refl _ w).alloc (Nat.le_refl _) _).alloc (by simp) _).alloc (by simp; omega) _
  have b1 : Boxed W0 w.heap.size 40 (.slice none 0 0) := by rw [← hW0]; exact ((Boxed.new w 40 (.slice none 0 0)).alloc _).alloc _
  have b2 : Boxed W0 (w.heap.size + 1) 3 (.int .i64 0) := by
    have := (Boxed.new (w.alloc (Obj.cells #[Value.slice none 0 0] 40)) 3 (.int .i64 0)).alloc (Obj.cells #[Value.slice a0 b.length cap0] 22)
    rw [World.size_alloc] at this
    rw [← hW0]; exact this
  have b3 : Boxed W0 (w.heap.size + 1 + 1) 22 (.slice a0 b.length cap0) := by
    have := Boxed.new ((w.alloc (Obj.cells #[Value.slice none 0 0] 40)).alloc (Obj.cells #[Value.int IntKind.i64 0] 3)) 22 (.slice a0 b.length cap0)
    rw [World.size_alloc, World.size_alloc] at this
    rw [← hW0]; exact this
  have hv0 := hv.below hB0
  have hvS := hv
  have hfl := framesOf_len b
  clear hW0
  refine range_yields (n := n) (gf := 42) (lb := #[.pointer (some ⟨w.heap.size + 1 + 1, 0, none⟩)]) rfl (enters_of Try.func42 (by kernel_rfl) rfl)
    (frames_yields (n - 1) (by omega) (w.heap.size + 1 + 1) w.heap.size _ b hbl W0 (by omega) b3 hv0)
    (fun h k => ⟨h.1.trans k.1, fun q => k.2 (h.2 q)⟩)
    (fun W l o o' hl hh ho => ⟨(Below.refl w.heap.size W).grown (grownBy_putObj' W l o') (by have := (Array.getElem?_eq_some_iff.1 hh).1; omega) (fun k e => by cases e; omega), fun q => q.kept (grownBy_putObj' W l o') (fun e => by cases e; rw [show W.heap[w.heap.size + 1 + 1]? = _ from q] at hh; cases hh; cases ho)⟩)
    (Below.refl _ _) (fun _ => rfl)
    (AllI w (.slice a0 b.length cap0)) (fun _ _ _ => False) (allI_own _ _ _ (by omega)) (fun _ _ _ _ _ hs _ _ => hs)
    (fun pre m => OwnFrom.and (Own.from (by
      intro x X Y row hs hg hrow
      exact own_pays (N := m) [x] X Y row (fun y hy => by obtain rfl : y = x := (by simpa using hy); exact hs) hg hrow x (by simp)) _) (ownFrom_pure _ _))
    ⟨⟨_, b1, World.ownsRow_nil _ _ _ _, by simp [Value.ownBlock]⟩, b2, b3, (fun x hx => by cases hx), List.Pairwise.nil, hB0⟩
    (fun x => { tmps := #[.slice a0 b.length cap0, undef, .slice none 0 0, .int .i64 0, .int .i64 0, .pointer (some ⟨w.heap.size, 0, none⟩), .pointer (some ⟨w.heap.size + 1, 0, none⟩), .int .i64 (x.place : Int), x.v, undef, undef, undef, .slice a0 b.length cap0, .func (.func 42) #[] #[.pointer (some ⟨w.heap.size + 1 + 1, 0, none⟩)], .int .i64 (x.place : Int), x.v, undef, undef, undef, undef, undef, undef, undef, undef, undef, undef, undef, undef, undef, undef, undef, undef, undef, undef, undef, undef, undef, undef, undef, undef, undef], defers := [] })
    ?assign ?body ?done ?stop
  case assign =>
    intro l x W K hK
    unfold encF FrD.v at *
    gi_wp2
    exact hK
  case body =>
    rintro l' pre x W1 W hI0 hI ⟨hx, hpf⟩ hlt
    obtain ⟨⟨vl, hv, hrow, hne⟩, hE, hb, hp, hap, hB⟩ := id hI
    have hc := hv.cell
    have hlen : pre.length ≤ 1099511627776 := by omega
    have hsz1 : w.heap.size ≤ W.heap.size := hB.size
    have hbd : x.place + 8 + x.pay.length ≤ 1099511627776 := by
      have := framesOf_in b x.key (hpf.subset (by simp))
      simp only [FrD.key] at this
      omega
    have HR : Hid (∀ v' w1, w1.ownsRow w.heap.size 22 1 v' (pre.length + 1) (pre.map FrD.v ++ [x.v]) → (W.alloc (.cells #[x.v] 22)).grownBy w1 vl.ownBlock → (v'.ownBlock = vl.ownBlock ∨ v'.ownBlock = some (W.alloc (.cells #[x.v] 22)).heap.size) → _) := fun v' w1 ho hg hn => allI_round hI hv hrow hne hI0 hx ho hg hn
    clear hI0 hI hx hpf hlt hE hb hp hap hB
    simp only [lastEnd_snoc] at HR
    obtain ⟨pl, pay, xa, xc⟩ := x
    simp only [FrD.v] at hbd HR ⊢
    gi_wp2_with (gi_at_builtin; refine wpListIn_append_own_at _ rfl _ _ 40 rfl w.heap.size 22 i0 (.slice none 0 0) 1 24 Try.underlying40 hi hz0 hz1 hz2 rfl (by decide) _ _ _ rfl (hrow.alloc _) ⟨W.heap.size, 0, none⟩ 1 1 [.slice xa pay.length xc] rfl rfl (cell_one_new _ _ _) (by simp [Value.oneCell']) (by unfold maxLen; omega) (by omega) (by simp; omega) ?_; intro v' w1 hown' hgrow _ hnew; obtain ⟨k1, k2, k3, k4, k5⟩ := HR.out v' w1 hown' hgrow hnew; obtain ⟨g', cap', rfl⟩ := ownsRow_succ hown'; have hc1 := k1.cell; have hf1 := k1.frozen; have hc2 := k2.cell; have hf2 := k2.frozen)
    have hcast : ((pl + 8 + pay.length : Nat) : Int) = (pl : Int) + 8 + (pay.length : Int) := by omega
    rw [hcast] at k3 k4 k5
    exact ⟨⟨k3.size, fun k o _ hk ho => k3.same k o (Nat.zero_le _) hk ho⟩, k4, k5⟩
  case done =>
    rintro D xs W hD hS hI hK
    obtain ⟨⟨vl, hv, hrow, hne⟩, hE, hb, hp, hap, hB⟩ := id hI
    rw [lastEnd_all xs b hS] at hE
    have hc := hv.cell
    have hc2 := hE.cell
    have hel := endOf_le b
    have HP : Hid (∀ W2 e, Below W.heap.size W W2 → e = (allE b : Int) → AllP b w (W2.putObj D (.deferred none)) (.returned (.tuple #[vl, .int .i64 (endOf b : Int), .int .i64 e]))) := by
      intro W2 e hB2 he
      subst he
      have hK2 := below_heap hB2 hK
      refine ⟨xs, vl, rfl, hS, ownsRow_putObj (hrow.kept (Below.grownBy' hB2 none) ?_) _ hK2 rfl, fun x hx => ownsRow_putObj ((hp x hx).below hB2 (Nat.le_refl _)) _ hK2 rfl, hap, ?_⟩
      · cases e : vl.ownBlock with
        | none => exact .inl rfl
        | some k => exact .inr (by simp)
      · refine (hB.trans (hB2.mono hB.size)).trans ((Below.refl w.heap.size W2).grown (grownBy_putObj' W2 D _) (by have := hB.size; have := hB2.size; omega) (fun k e => by cases e; omega))
    by_cases he : endOf b = b.length
    · have he' : ((endOf b : Int) == (b.length : Int)) = true := by rw [beq_iff_eq]; omega
      have HA : Hid (allE b = 0) := by unfold Hid allE; rw [if_pos he]
      clear hI hE hb hp hap hB hrow he
      gi_wp2
      gi_region
      gi_wp2
      have hK' : W.drew.heap[D]? = some (.deferred (some [])) := hK
      refine ⟨by simp, .inl ⟨_, _, rfl, run_takeDeferred hK', ?_⟩⟩
      refine ⟨_, results_tmp3 rfl _ _ _, ?_⟩
      exact HP.out W.drew 0 (below_drew (Below.refl _ _)) (by rw [HA.out]; rfl)
    · have he' : ((endOf b : Int) == (b.length : Int)) = false := by rw [beq_eq_false_iff_ne]; omega
      have HA : Hid (allE b = (getAt b (endOf b : Int)).2.2) := by unfold Hid allE; rw [if_neg he]
      have CG := get_any w.heap.size _ b (endOf b : Int) W (hvS.below hB) hB.size hbl (by omega)
      generalize getAt b (endOf b : Int) = g at *
      obtain ⟨q1, q2, q3⟩ := g
      have hvk : ∀ W2, Below W.heap.size W W2 → W2.cell? ⟨w.heap.size, 0, none⟩ = some vl := fun W2 h => (hv.kept (Below.grownBy' h none) (by simp)).cell
      have hek : ∀ W2, Below W.heap.size W W2 → W2.cell? ⟨w.heap.size + 1, 0, none⟩ = some (.int .i64 (endOf b : Int)) := fun W2 h => (hE.kept (Below.grownBy' h none) (by simp)).cell
      clear hI hE hb hp hap hB hrow he
      gi_wp2_with (refine ⟨trivial, ?_⟩; gi_at_call 18; refine (callsIn_wide.2 CG).mono ?_; rintro r w5 ⟨v5, rfl, -, hB5⟩; have hc5 := hvk w5 hB5; have hc6 := hek w5 hB5; clear hvk hek)
      gi_region
      gi_wp2
      have hK' : w5.drew.heap[D]? = some (.deferred (some [])) := (below_heap hB5 hK : w5.heap[D]? = _)
      refine ⟨by simp, .inl ⟨_, _, rfl, run_takeDeferred hK', ?_⟩⟩
      refine ⟨_, results_tmp3 rfl _ _ _, ?_⟩
      exact HP.out w5.drew q3 (below_drew hB5) (by rw [HA.out])
  case stop =>
    rintro D c pre W _ _ h _
    exact h.elim

theorem all_any (v : Value) (b : List UInt8) (w : World) (hv : Sl w.heap.size w v b) (hbl : b.length ≤ 1099511627776) :
    Calls Try.prog 22 #[v] w fun e w' => AllP b w w' e := callsIn_wide.1 (all_in 3 (by decide) v b w hv hbl)
end Go.Proofs.Ythhnjiodfbckcaa
