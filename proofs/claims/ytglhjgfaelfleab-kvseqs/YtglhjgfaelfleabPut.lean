/-
  wire.Size, wire.PutInt: for every int what the document says.
-/
import Derived.Test.YtglhjgfaelfleabSeq
import Derived.Maps.OwnIn
namespace Go.Proofs.Ytglhjgfaelfleab
open Go.RowKit Go.Shelf
attribute [local go_sem] Oper.semAt_some

/-- The block of a slice stayed its own, or is new. -/
def SameOrNew (w : World) (v v' : Value) : Prop := v'.ownBlock = v.ownBlock ∨ ∃ k, v'.ownBlock = some k ∧ w.heap.size ≤ k

theorem Ow.shape {N : Nat} {w : World} {v : Value} {l : List UInt8} (h : Ow N w v l) : ∃ a cap, v = .slice a l.length cap ∧ l.length ≤ cap ∧ cap ≤ maxLen := by
  rcases h.2 with ⟨rfl, h2⟩ | ⟨g, cap, cur, rfl, _, _, h3, h4, _⟩
  · exact ⟨none, 0, by rw [h2], by omega, by unfold maxLen; omega⟩
  · exact ⟨_, _, rfl, h3, h4⟩

theorem ownFrom_grown {β : Type} {w₀ : World} {row : Option Nat} {B : Nat} (hB : w₀.heap.size ≤ B) : OwnFrom B (fun (_ : β) W => w₀.grownBy W row) :=
  fun _ W W' r hs hg hr => ⟨hg.os.trans hs.os, hg.tape.trans hs.tape, hg.output.trans hs.output, Nat.le_trans hs.size hg.size, fun k hk hne =>
    (hg.block k (Nat.lt_of_lt_of_le hk hs.size) (fun e => by have := (hr k e.symm).1; omega)).trans (hs.block k hk hne)⟩

theorem grown_trans {w W W' : World} {row r : Option Nat} (h : w.grownBy W row) (hg : W.grownBy W' r) (hr : ∀ k, r = some k → row = some k ∨ w.heap.size ≤ k) : w.grownBy W' row :=
  ⟨hg.os.trans h.os, hg.tape.trans h.tape, hg.output.trans h.output, Nat.le_trans h.size hg.size, fun k hk hne =>
    (hg.block k (Nat.lt_of_lt_of_le hk h.size) (fun e => by
      rcases hr k e.symm with h' | h'
      · exact hne h'.symm
      · omega)).trans (h.block k hk hne)⟩

theorem grown_refl (w : World) (row : Option Nat) : w.grownBy w row := ⟨rfl, rfl, rfl, Nat.le_refl _, fun _ _ _ => rfl⟩

theorem SameOrNew.row {w : World} {v v' : Value} (h : SameOrNew w v v') : ∀ k, v'.ownBlock = some k → v.ownBlock = some k ∨ w.heap.size ≤ k := by
  intro k hk
  rcases h with h | ⟨j, h1, h2⟩
  · exact .inl (h ▸ hk)
  · rw [h1] at hk; cases hk; exact .inr h2

theorem SameOrNew.step {w W : World} {v v1 v2 : Value} (h : SameOrNew w v v1) (hs : w.heap.size ≤ W.heap.size) (h2 : v2.ownBlock = v1.ownBlock ∨ v2.ownBlock = some W.heap.size) : SameOrNew w v v2 := by
  rcases h2 with h2 | h2
  · rcases h with h | ⟨k, h3, h4⟩
    · exact .inl (h2.trans h)
    · exact .inr ⟨k, h2.trans h3, h4⟩
  · exact .inr ⟨_, h2, hs⟩

set_option maxRecDepth 100000 in
set_option maxHeartbeats 2000000 in
theorem appendInt_in (n : Nat) (hn : 3 ≤ n) (N : Nat) (v : Value) (l : List UInt8) (m : Nat) (hm : m ≤ 4611686018427387904) (w : World) (hN : N ≤ w.heap.size) (hl : l.length ≤ 1073741824) (hv : Ow N w v l) :
    CallsIn Fence.wide n Try.prog 35 #[v, .int .i64 (m : Int)] w fun e w' => ∃ v', e = .returned v' ∧ Ow N w' v' (l ++ numB m) ∧ w.grownBy w' v.ownBlock ∧ SameOrNew w v v' := by
  have h1 : 1 ≤ n := by omega
  obtain ⟨i0, hi, hz0, hz1, hz2⟩ := info_parts info5
  obtain ⟨a0, cap0, rfl, -, -⟩ := hv.shape
  generalize hv0 : Value.slice a0 l.length cap0 = v0 at hv
  refine callsIn_of_wp_marks Try.func35 rfl trivial ?_ rfl
  rw [← hv0]
  have HV0 : Hid (Value.slice a0 l.length cap0 = v0) := hv0
  clear hv0
  simp only [Try.ntmps35, List.size_toArray, List.length_cons, List.length_nil, Nat.reduceAdd, Nat.reduceSub, Array.replicate_succ, Array.replicate_zero, List.push_toArray, List.append_toArray, List.nil_append, List.cons_append]
  gi_wp2_with (refine ⟨trivial, ?_⟩; gi_at_call 55; refine (bytesOf_in (n - 1) _ _).mono ?_; rintro e w' ⟨rfl, hw⟩; subst w')
  have bO := Boxed.new w 35 (.slice a0 l.length cap0)
  have bN := Boxed.new (w.alloc (.cells #[.slice a0 l.length cap0] 35)) 3 (.int .i64 (m : Int))
  rw [World.size_alloc] at bN
  have g0 : w.grownBy ((w.alloc (.cells #[.slice a0 l.length cap0] 35)).alloc (.cells #[.int .i64 (m : Int)] 3)) v0.ownBlock := grown_trans (grown_trans (grown_refl w _) (World.grownBy_alloc _ _ none) (by simp)) (World.grownBy_alloc _ _ none) (by simp)
  have hv' : World.ownsRow w N 5 1 (.slice a0 l.length cap0) l.length (l.map encB) := by rw [HV0.out]; exact hv
  refine wpIn_rangeFunc_ownG rfl h1 (gf := 65) (lb := #[.pointer (some ⟨w.heap.size + 1, 0, none⟩)]) rfl trivial (enters_of Try.func65 (by kernel_rfl) rfl)
    (bytesOf_stops (n - 1) (by omega) (w.heap.size + 1) N m hm _ (by simp) bN.cell) belowK_t (belowK_b (by simp; omega)) (Below.refl _ _) (fun _ => rfl)
    (fun pre W => (∃ v, Boxed W w.heap.size 35 v ∧ W.ownsRow N 5 1 v (l ++ pre).length ((l ++ pre).map encB) ∧ SameOrNew w v0 v) ∧ w.grownBy W v0.ownBlock)
    (fun _ _ _ => False)
    (OwnFrom.and (Own.from (holdsRow_own N w.heap.size 35 5 1 (fun pre => (l ++ pre).length) (fun pre => (l ++ pre).map encB) (fun _ v => SameOrNew w v0 v)) _) (ownFrom_grown (by simp; omega)))
    (fun _ _ _ _ _ hs _ _ => hs)
    ⟨⟨_, bO.alloc _, by simpa using (hv'.alloc _).alloc _, .inl (by rw [HV0.out])⟩, g0⟩
    (fun x => { tmps := #[.slice a0 l.length cap0, .int .i64 (m : Int), .pointer (some ⟨w.heap.size, 0, none⟩), undef, .slice none 0 0, encB x, .int .i64 (m : Int), .func (.func 65) #[] #[.pointer (some ⟨w.heap.size + 1, 0, none⟩)], encB x, undef, undef, undef, undef, undef], defers := [] }) ?assign ?body ?done ?stop
  case assign =>
    intro l x W K hK
    unfold encB at hK ⊢
    gi_wp2
    exact hK
  case body =>
    rintro l' pre x W ⟨⟨v, hv, hrow, hsn⟩, hg⟩ hlt
    have hc := hv.cell
    have hlen : (numB m).length ≤ 10 := num_len_le 9 m
    have hp : pre.length ≤ 10 := by omega
    have hll : (l ++ pre).length ≤ 1073741834 := by simp; omega
    have hsz : N ≤ W.heap.size := Nat.le_trans hN hg.size
    clear hlt hlen
    generalize hlp : l ++ pre = lp at hrow hll
    have HLP : Hid (l ++ pre = lp) := hlp
    clear hlp
    unfold encB
    gi_wp2_with (gi_at_builtin; refine wpListIn_append_own_at _ rfl _ _ 35 rfl N 5 i0 (.int .u8 0) 1 1 Try.underlying35 hi hz0 hz1 hz2 rfl (by decide) _ _ _ rfl (hrow.alloc _) ⟨W.heap.size, 0, none⟩ 1 1 [.int .u8 (x.toNat : Int)] rfl rfl (cell_one_new _ _ _) (by simp [Value.oneCell']) (by unfold maxLen; omega) (by omega) (by simp; omega) ?_; intro v' w1 hown' hgrow _ hnew; obtain ⟨g', cap', rfl⟩ := ownsRow_succ hown'; obtain ⟨hv1, hv2, hr2, hk2, hb2⟩ := hv.appended (by decide) hrow hsz hN hown' hgrow; have hc1 := hv1.cell; have hf1 := hv1.frozen)
    refine ⟨hk2.from _, hb2, ⟨_, hv2, ?_, ?_⟩, ?_⟩
    · have := HLP.out
      rw [← List.append_assoc, this, List.map_append, List.length_append]
      exact hr2
    · exact hsn.step (W := W.alloc (.cells #[.int .u8 (x.toNat : Int)] 5)) (by have := hg.size; simp; omega) hnew
    · exact grown_trans (grown_trans (grown_trans hg (World.grownBy_alloc _ _ none) (by simp)) hgrow hsn.row) (grownBy_setCell' _ _ _) (fun k e => .inr (by cases e; exact Nat.le_refl _))
  case done =>
    rintro D ys W hD rfl ⟨⟨v, hv, hrow, hsn⟩, hg⟩ hK
    have hc := hv.cell
    gi_wp2
    refine ⟨by simp, .inl ⟨_, _, rfl, run_takeDeferred hK, ?_⟩⟩
    exact ⟨_, results_tmp rfl _ _ _, v, rfl, ownsRow_putObj hrow _ hK rfl, by rw [HV0.out]; exact grown_trans hg (grownBy_putObj' _ _ _) (fun k e => .inr (by cases e; simp at hD; omega)), by rw [HV0.out]; exact hsn⟩
  case stop =>
    rintro D c pre W _ _ h _
    exact h.elim

theorem appendInt_any (N : Nat) (v : Value) (l : List UInt8) (m : Nat) (hm : m ≤ 4611686018427387904) (w : World) (hN : N ≤ w.heap.size) (hl : l.length ≤ 1073741824) (hv : Ow N w v l) :
    Calls Try.prog 35 #[v, .int .i64 (m : Int)] w fun e w' => ∃ v', e = .returned v' ∧ Ow N w' v' (l ++ numB m) ∧ w.grownBy w' v.ownBlock ∧ SameOrNew w v v' :=
  callsIn_wide.1 (appendInt_in 3 (by decide) N v l m hm w hN hl hv)

end Go.Proofs.Ytglhjgfaelfleab
