/-
  The sequence of a queue's things: what Each makes, and what it yields.
-/
import Derived.Test.YthaoobfldponpaaRange
import Derived.LoopIn
namespace Go.Proofs.Ythaoobfldponpaa
open Go.RowKit Go.Shelf
attribute [local go_sem] Oper.semAt_some
set_option linter.unusedVariables false

/-- The first k things with their places. -/
def prs (L : List Int) (k : Nat) : List (Nat × Int) := (List.range k).map (fun i => (i, L[i]?.getD 0))
theorem prs_len (L : List Int) (k : Nat) : (prs L k).length = k := by simp [prs]
theorem prs_succ (L : List Int) (k : Nat) : prs L (k + 1) = prs L k ++ [(k, L[k]?.getD 0)] := by simp [prs, List.range_succ]
def encP (x : Nat × Int) : Array Value := #[.int .i64 (x.1 : Int), .int .i64 x.2]

/-- What a round keeps: each row of cells but those of X. -/
def KeepX (X : Nat → Prop) (W W' : World) : Prop := W.heap.size ≤ W'.heap.size ∧ ∀ i c t z, W.heap[i]? = some (.cells c t z) → ¬ X i → W'.heap[i]? = some (.cells c t z)

theorem Ow.keepX {N : Nat} {X : Nat → Prop} {W W' : World} {v : Value} {l : List Int} (h : Ow N W v l) (hk : KeepX X W W') (hx : ∀ g, v.ownBlock = some g → ¬ X g) : Ow N W' v l := by
  refine ⟨h.1, ?_⟩
  rcases h.2 with h2 | ⟨g, cap, cur, rfl, hg, hb, r⟩
  · exact .inl h2
  · exact .inr ⟨g, cap, cur, rfl, hg, hk.2 g _ _ _ hb (hx g rfl), r⟩

set_option maxRecDepth 100000 in
set_option maxHeartbeats 2000000 in
theorem each1_in (n : Nat) (hn : 1 ≤ n) (l B N b R : Nat) (S X : Nat → Prop) (L : List Int) (J Jx : List (Nat × Int) → World → Prop)
    (hJ : ∀ s A B, J s A → Below A.heap.size A B → J s B)
    (hY : ∀ pre x W0 W1, J pre W0 → Below W0.heap.size W0 W1 → x = (pre.length, L[pre.length]?.getD 0) → pre.length < L.length → YieldAt Fence.wide (n - 1) Try.prog l (encP x) W1 fun e W' =>
      (e = .returned (.bool true) ∧ J (pre ++ [x]) W' ∧ KeepX X W1 W') ∨ (e = .returned (.bool false) ∧ Jx (pre ++ [x]) W'))
    (W : World) (hX : ∀ i, X i → i < W.heap.size) (hbox : Boxed W B 24 (.pointer (some ⟨b, 0, none⟩))) (hq : Qu N S W b R L) (h0 : J [] W) :
    CallsIn Fence.wide n Try.prog 49 #[.func (.yield l) #[] #[], .pointer (some ⟨B, 0, none⟩)] W fun e W' => (∃ v, e = .returned v) ∧
      (J (prs L L.length) W' ∨ (∃ k, k < L.length ∧ Jx (prs L (k + 1)) W')) := by
  have CI := items_any hq
  have hc := hbox.cell
  have hL : L.length ≤ 64 := Nat.le_trans hq.len hq.rm
  have HJ0 : Hid (J [] W) := h0
  have HX : Hid (∀ i, X i → i < W.heap.size) := hX
  have HY : Hid (∀ pre x W0 W1, J pre W0 → Below W0.heap.size W0 W1 → x = (pre.length, L[pre.length]?.getD 0) → pre.length < L.length → YieldAt Fence.wide (n - 1) Try.prog l (encP x) W1 fun e W' =>
      (e = .returned (.bool true) ∧ J (pre ++ [x]) W' ∧ KeepX X W1 W') ∨ (e = .returned (.bool false) ∧ Jx (pre ++ [x]) W')) := hY
  have HJJ : Hid (∀ s A B, J s A → Below A.heap.size A B → J s B) := hJ
  clear hq hbox h0 hX hY hJ
  refine callsIn_of_wp Try.func49 rfl trivial ?_ rfl
  simp only [Try.ntmps49, List.size_toArray, List.length_cons, List.length_nil, Nat.reduceAdd, Nat.reduceSub, Array.replicate_succ, Array.replicate_zero, List.push_toArray, List.append_toArray, List.nil_append, List.cons_append]
  gi_wp2_with (refine ⟨trivial, ?_⟩; gi_at_call 37; refine (callsIn_wide.2 CI).mono ?_; rintro r w1 ⟨v1, rfl, hO1, hB1⟩; obtain ⟨a1, c1, rfl, -, -⟩ := hO1.shape; have HO1 : Hid _ := hO1; have HB1 : Hid _ := hB1; clear hO1 hB1)
  gi_loopw [8] (fun kv wr => ∃ k : Nat, kv = .int .i64 (k : Int) ∧ k ≤ L.length ∧ J (prs L k) wr ∧ Ow W.heap.size wr (.slice a1 L.length c1) L) (fun kv _ => L.length - (intOf kv).toNat)
  case atStart => exact ⟨0, rfl, Nat.zero_le _, HJJ.out _ _ _ HJ0.out HB1.out, HO1.out⟩
  case round =>
    obtain ⟨k, rfl, hk, hJk, hOk⟩ := hrel
    have HJK : Hid (J (prs L k) wr) := hJk
    have HOK : Hid (Ow W.heap.size wr (.slice a1 L.length c1) L) := hOk
    clear hJk hOk HO1 HB1 HJ0 hc CI
    by_cases hkl : k < L.length
    · have hkl' : (k : Int) < (L.length : Int) := by omega
      obtain ⟨g, c, hv, hgN, hcell, -⟩ := HOK.out.at0 (by omega)
      cases hv
      have d0 := hcell k hkl
      have HYY := HY.out (prs L k) (k, L[k]?.getD 0) wr wr HJK.out (Below.refl _ _) (by rw [prs_len]) (by rw [prs_len]; exact hkl)
      rw [← prs_succ] at HYY
      have HXG : Hid (∀ g', (Value.slice (some ⟨g, 0, none⟩) L.length c1).ownBlock = some g' → ¬ X g') := fun g' hg' hx => by
        have := HX.out g' hx
        have := (Ow.lt HOK.out hg').1
        omega
      unfold encP at HYY
      simp only at HYY
      generalize L[k]?.getD 0 = x at d0 HYY
      obtain ⟨fn, tmps, assign, body, hy, hR⟩ := HYY
      clear hcell
      gi_wp2
      refine hR.mono ?_
      rintro e W3 (⟨rfl, hJ3, hK3⟩ | ⟨rfl, hJx3⟩)
      · have HO3 : Hid (Ow W.heap.size W3 (.slice (some ⟨g, 0, none⟩) L.length c1) L) := HOK.out.keepX hK3 HXG.out
        have HJ3 : Hid _ := hJ3
        clear hy hR hJ3 hK3
        gi_wp2
        go_roundw
        case rel => exact ⟨k + 1, by go_num, by omega, HJ3.out, HO3.out⟩
        case measure => simp [intOf]; omega
      · have HJX : Hid _ := hJx3
        clear hy hR hJx3
        gi_wp2
        refine bodyPost_ret (results_none rfl _ _ _) rfl ?_
        exact ⟨⟨_, rfl⟩, .inr ⟨k, by omega, HJX.out⟩⟩
    · have hkl' : decide ((k : Int) < (L.length : Int)) = false := by simp; omega
      obtain rfl : k = L.length := by omega
      gi_wp2
      first | go_end0 | refine bodyPost_end (results_none rfl _ _ _) rfl ?_
      exact ⟨⟨_, rfl⟩, .inl HJK.out⟩

theorem each_fn (b : Nat) (w : World) : Calls Try.prog 45 #[.pointer (some ⟨b, 0, none⟩)] w fun e w' => e = .returned (.func (.func 49) #[] #[.pointer (some ⟨w.heap.size, 0, none⟩)]) ∧ w' = w.alloc (.cells #[.pointer (some ⟨b, 0, none⟩)] 24) := by
  go_enter Try.func45, Try.ntmps45
  go_wp2
  go_ret
  exact ⟨rfl, rfl⟩

end Go.Proofs.Ythaoobfldponpaa
