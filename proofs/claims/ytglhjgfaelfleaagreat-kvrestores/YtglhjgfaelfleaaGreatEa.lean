/-
  The sequence of a store's keys and values: what Each makes, and what it yields.
-/
import Derived.Test.YtglhjgfaelfleaaGreatRg
import Derived.LoopIn
namespace Go.Proofs.YtglhjgfaelfleaaGreat
open Go.RowKit Go.Shelf
attribute [local go_sem] Oper.semAt_some
set_option linter.unusedVariables false

def encY (x : Bs × Bs) : Array Value := #[.string ⟨x.1.toArray⟩, .string ⟨x.2.toArray⟩]
/-- What a round keeps: each row of pairs. -/
def KeepP (W W' : World) : Prop := W.heap.size ≤ W'.heap.size ∧ ∀ (i : Nat) (c : Array Value) (z : Nat × Nat), W.heap[i]? = some (.cells c 74 z) → W'.heap[i]? = some (.cells c 74 z)

theorem Ro.keepP {N : Nat} {W W' : World} {v : Value} {l : List (Bs × Bs)} (h : Ro RP N W v l) (hk : KeepP W W') : Ro RP N W' v l := by
  refine ⟨h.1, ?_⟩
  rcases h.2 with h2 | ⟨g, cap, cur, rfl, hg, hb, r⟩
  · exact .inl h2
  · exact .inr ⟨g, cap, cur, rfl, hg, hk.2 g _ _ hb, r⟩
theorem KeepP.trans {A B C : World} (h : KeepP A B) (k : KeepP B C) : KeepP A C := ⟨Nat.le_trans h.1 k.1, fun i c z hi => k.2 i c z (h.2 i c z hi)⟩
theorem KeepP.putObj (W : World) (l : Nat) (o o' : Obj) (hl : W.heap[l]? = some o) (ho : o.isCells = false) : KeepP W (W.putObj l o') := by
  refine ⟨by simp [World.putObj], fun i c z hi => ?_⟩
  refine (World.putObj_heap_other (fun e => ?_)).trans hi
  subst e
  rw [hl] at hi
  cases hi
  cases ho
theorem KeepP.below {W W' : World} (h : Below W.heap.size W W') : KeepP W W' := ⟨h.size, fun i c z hi => (h.block i (Array.getElem?_eq_some_iff.1 hi).1).trans hi⟩

set_option maxRecDepth 100000 in
set_option maxHeartbeats 2000000 in
theorem each1_in (n : Nat) (hn : 1 ≤ n) (l B b mp ms : Nat) (K : KV) (J Jx : List (Bs × Bs) → World → Prop)
    (hJ : ∀ s A B, J s A → Below A.heap.size A B → J s B)
    (hY : ∀ pre x W0 W1, J pre W0 → Below W0.heap.size W0 W1 → (∃ q, K.ps = pre ++ x :: q) → pre.length < K.ps.length → YieldAt Fence.wide (n - 1) Tryz.prog l (encY x) W1 fun e W' =>
      (e = .returned (.bool true) ∧ J (pre ++ [x]) W' ∧ KeepP W1 W') ∨ (e = .returned (.bool false) ∧ Jx (pre ++ [x]) W'))
    (W : World) (hbox : Boxed W B 27 (.pointer (some ⟨b, 0, none⟩))) (hst : St W b mp ms K) (h0 : J [] W) :
    CallsIn Fence.wide n Tryz.prog 78 #[.func (.yield l) #[] #[], .pointer (some ⟨B, 0, none⟩)] W fun e W' => (∃ v, e = .returned v) ∧
      (J K.ps W' ∨ (∃ k, k < K.ps.length ∧ Jx (K.ps.take (k + 1)) W')) := by
  have CI := rising_any hst
  have hc := hbox.cell
  have hL : K.ps.length ≤ 128 := hst.ok.few
  generalize K.ps = xs at *
  have HJ0 : Hid (J [] W) := h0
  have HY : Hid (∀ pre x W0 W1, J pre W0 → Below W0.heap.size W0 W1 → (∃ q, xs = pre ++ x :: q) → pre.length < xs.length → YieldAt Fence.wide (n - 1) Tryz.prog l (encY x) W1 fun e W' =>
      (e = .returned (.bool true) ∧ J (pre ++ [x]) W' ∧ KeepP W1 W') ∨ (e = .returned (.bool false) ∧ Jx (pre ++ [x]) W')) := hY
  have HJJ : Hid (∀ s A B, J s A → Below A.heap.size A B → J s B) := hJ
  clear hst hbox h0 hY hJ
  refine callsIn_of_wp Tryz.func78 rfl trivial ?_ rfl
  simp only [Tryz.ntmps78, List.size_toArray, List.length_cons, List.length_nil, Nat.reduceAdd, Nat.reduceSub, Array.replicate_succ, Array.replicate_zero, List.push_toArray, List.append_toArray, List.nil_append, List.cons_append]
  gi_wp2_with (refine ⟨trivial, ?_⟩; gi_at_call 79; refine (callsIn_wide.2 CI).mono ?_; rintro r w1 ⟨v1, rfl, hO1, hB1⟩; obtain ⟨a1, c1, rfl, -, -⟩ := hO1.shape; have HO1 : Hid (Ro RP W.heap.size w1 (.slice a1 xs.length c1) xs) := hO1; have HB1 : Hid (Below W.heap.size W w1) := hB1; clear hO1 hB1)
  gi_loopw [8] (fun kv wr => ∃ k : Nat, kv = .int .i64 (k : Int) ∧ k ≤ xs.length ∧ J (xs.take k) wr ∧ Ro RP W.heap.size wr (.slice a1 xs.length c1) xs) (fun kv _ => xs.length - (intOf kv).toNat)
  case atStart => exact ⟨0, rfl, Nat.zero_le _, by simpa using HJJ.out _ _ _ HJ0.out HB1.out, HO1.out⟩
  case round =>
    obtain ⟨k, rfl, hk, hJk, hOk⟩ := hrel
    have HJK : Hid (J (xs.take k) wr) := hJk
    have HOK : Hid (Ro RP W.heap.size wr (.slice a1 xs.length c1) xs) := hOk
    clear hJk hOk HO1 HB1 HJ0 hc CI
    by_cases hkl : k < xs.length
    · have hkl' : (k : Int) < (xs.length : Int) := by omega
      obtain ⟨g, c, hv, hgN, hgl, -, hcell⟩ := HOK.out.at0 (by omega)
      cases hv
      have d0 := hcell k 0 hkl (by decide)
      have d1 := hcell k 1 hkl (by decide)
      have hxs : xs = xs.take k ++ xs[k] :: xs.drop (k + 1) := by rw [← List.drop_eq_getElem_cons hkl, List.take_append_drop]
      have hts : xs.take k ++ [xs[k]] = xs.take (k + 1) := by rw [List.take_succ_eq_append_getElem hkl]
      have hll : (xs.take k).length < xs.length := by simp; omega
      have HYY := fun W1 hB => HY.out (xs.take k) xs[k] wr W1 HJK.out hB ⟨_, hxs⟩ hll
      rw [hts] at HYY
      have HXX : Hid (∃ q, xs = xs.take k ++ xs[k] :: q) := ⟨_, hxs⟩
      clear hxs hts
      generalize xs[k] = x at *
      obtain ⟨x1, x2⟩ := x
      have d0' : wr.cell? ⟨g, k * 2, none⟩ = some (.string ⟨x1.toArray⟩) := d0
      have d1' : wr.cell? ⟨g, k * 2 + 1, none⟩ = some (.string ⟨x2.toArray⟩) := d1
      unfold encY at HYY
      simp only at HYY
      have HYZ := HYY (wr.alloc (.cells #[.string ⟨x1.toArray⟩, .string ⟨x2.toArray⟩] 74)) ((Below.refl _ wr).alloc (Nat.le_refl _) _)
      obtain ⟨fn, tmps, assign, body, hy, hR⟩ := HYZ
      clear hcell d0 d1 HYY HXX hll
      gi_wp2
      refine hR.mono ?_
      rintro e W3 (⟨rfl, hJ3, hK3⟩ | ⟨rfl, hJx3⟩)
      · have HO3 : Hid (Ro RP W.heap.size W3 (.slice (some ⟨g, 0, none⟩) xs.length c1) xs) := (HOK.out.alloc _).keepP hK3
        have HJ3 : Hid (J (xs.take (k + 1)) W3) := hJ3
        clear hy hR hJ3 hK3
        gi_wp2
        go_roundw
        case rel => exact ⟨k + 1, by go_num, by omega, HJ3.out, HO3.out⟩
        case measure => simp [intOf]; omega
      · have HJX : Hid (Jx (xs.take (k + 1)) W3) := hJx3
        clear hy hR hJx3
        gi_wp2
        refine bodyPost_ret (results_none rfl _ _ _) rfl ?_
        exact ⟨⟨_, rfl⟩, .inr ⟨k, by omega, HJX.out⟩⟩
    · have hkl' : decide ((k : Int) < (xs.length : Int)) = false := by simp; omega
      obtain rfl : k = xs.length := by omega
      gi_wp2
      first | go_end0 | refine bodyPost_end (results_none rfl _ _ _) rfl ?_
      exact ⟨⟨_, rfl⟩, .inl (by simpa using HJK.out)⟩

theorem each_fn (b : Nat) (w : World) : Calls Tryz.prog 55 #[.pointer (some ⟨b, 0, none⟩)] w fun e w' => e = .returned (.func (.func 78) #[] #[.pointer (some ⟨w.heap.size, 0, none⟩)]) ∧ w' = w.alloc (.cells #[.pointer (some ⟨b, 0, none⟩)] 27) := by
  go_enter Tryz.func55, Tryz.ntmps55
  go_wp2
  go_ret
  exact ⟨rfl, rfl⟩

theorem each_yields (n : Nat) (hn : 1 ≤ n) (B b mp ms : Nat) (K : KV) (w : World) (hbox : Boxed w B 27 (.pointer (some ⟨b, 0, none⟩))) (hst : St w b mp ms K) :
    Yields n 78 #[.pointer (some ⟨B, 0, none⟩)] encY (fun pre x _ _ => ∃ q, K.ps = pre ++ x :: q) KeepP (fun xs => xs = K.ps) (fun pre => ∃ k, k < K.ps.length ∧ pre = K.ps.take (k + 1)) K.ps.length w :=
  fun l J Jx W hW hJ _ hY h0 => (each1_in n hn l B b mp ms K J Jx hJ hY W (hbox.kept (Below.grownBy' hW none) (by simp)) (hst.below hW) h0).mono (fun e W' h => ⟨h.1, h.2.imp (fun h1 => ⟨_, rfl, h1⟩) (fun ⟨k, hk, h2⟩ => ⟨_, ⟨k, hk, rfl⟩, h2⟩)⟩)
end Go.Proofs.YtglhjgfaelfleaaGreat
