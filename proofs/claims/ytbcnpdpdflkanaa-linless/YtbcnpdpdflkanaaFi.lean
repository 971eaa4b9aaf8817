/-
  SameInts; the statements' first history; few.
-/
import Derived.Test.YtbcnpdpdflkanaaEx
namespace Go.Proofs.Ytbcnpdpdflkanaa
open Go.RowKit

/-- v is a slice that reads numbers. -/
def IRd (W : World) (v : Value) (l : List Nat) : Prop :=
  ∃ (a : Option Addr) (cap : Nat), v = .slice a l.length cap ∧ l.length ≤ cap ∧ cap ≤ maxLen ∧
    (l = [] ∨ ∃ b off, a = some ⟨b, off, none⟩ ∧ ∀ i, i < l.length → W.cell? ⟨b, off + i, none⟩ = some (encI (l[i]?.getD 0)))
theorem same_yes {l1 l2 : List Nat} (hl : l1.length = l2.length) (h : ∀ j, j < l1.length → l1[j]?.getD 0 = l2[j]?.getD 0) : l1 = l2 := by
  apply List.ext_getElem hl
  intro i h1 h2
  have := h i h1
  simpa [List.getElem?_eq_getElem h1, List.getElem?_eq_getElem h2] using this
theorem IOw.rd {N : Nat} {w : World} {v : Value} {l : List Nat} (h : IOw N w v l) : IRd w v l := by
  obtain ⟨a, cap, rfl, h1, h2⟩ := row_shape h
  refine ⟨a, cap, rfl, h1, h2, ?_⟩
  rcases Nat.eq_zero_or_pos l.length with e | e
  · exact .inl (List.length_eq_zero_iff.1 e)
  · obtain ⟨g, rfl, -, -⟩ := row_ptr h e
    refine .inr ⟨g, 0, rfl, fun i hi => ?_⟩
    have := (row_cell h (j := i) (by omega)).1
    rw [Nat.zero_add, this, List.getD_eq_getElem?_getD, List.getElem?_map, List.getElem?_eq_getElem hi]
    rfl

set_option maxRecDepth 100000 in
set_option maxHeartbeats 1000000 in
theorem sameInts_any (v1 v2 : Value) (l1 l2 : List Nat) (w : World) (h1 : IRd w v1 l1) (h2 : IRd w v2 l2) :
    Calls Try.prog 23 #[v1, v2] w fun e w' => e = .returned (.bool (decide (l1 = l2))) ∧ ∃ n, w' = w.drewN n := by
  obtain ⟨a1, cap1, rfl, hc1, hm1, g1⟩ := h1
  obtain ⟨a2, cap2, rfl, hc2, hm2, g2⟩ := h2
  unfold maxLen at hm1 hm2
  by_cases hlen : l1.length = l2.length
  · have e1 : ((l1.length : Int) != (l2.length : Int)) = false := by simp [hlen]
    by_cases hz : l1 = []
    · subst hz
      obtain rfl : l2 = [] := List.length_eq_zero_iff.1 (by simpa using hlen.symm)
      clear hlen
      go_enter Try.func23, Try.ntmps23
      go_wp2
      go_loop [5] (fun i => i = .int .i64 0) (fun _ => 0)
      case atStart => rfl
      case round =>
        subst hrel
        go_wp2
        go_ret
        exact ⟨rfl, 0, rfl⟩
    · have hp : 0 < l1.length := List.length_pos_iff.2 hz
      obtain ⟨b1, o1, rfl, f1⟩ := g1.resolve_left hz
      obtain ⟨b2, o2, rfl, f2⟩ := g2.resolve_left (by intro h; rw [h] at hlen; simp at hlen; exact hz hlen)
      have HL : Hid (l1.length = l2.length) := hlen
      have hle : l1.length ≤ l2.length := by omega
      clear hlen
      go_enter Try.func23, Try.ntmps23
      go_wp2
      go_loopw [5] (fun i wr => ∃ k n : Nat, i = .int .i64 k ∧ k ≤ l1.length ∧ wr = w.drewN n ∧ ∀ j, j < k → l1[j]?.getD 0 = l2[j]?.getD 0) (fun i _ => l1.length - (intOf i).toNat)
      case atStart => exact ⟨0, 0, rfl, by omega, rfl, fun j hj => by omega⟩
      case round =>
        obtain ⟨k, n, rfl, hk, rfl, hj⟩ := hrel
        by_cases hlt : k < l1.length
        · have c1 := f1 k hlt
          have c2 := f2 k (by omega)
          have HJ : Hid (∀ j, j < k → l1[j]?.getD 0 = l2[j]?.getD 0) := hj
          clear hj f1 f2
          unfold encI at c1 c2
          generalize hx1 : l1[k]?.getD 0 = x1 at c1
          generalize hx2 : l2[k]?.getD 0 = x2 at c2
          have H1 : Hid (l1[k]?.getD 0 = x1) := hx1
          have H2 : Hid (l2[k]?.getD 0 = x2) := hx2
          clear hx1 hx2
          by_cases he : x1 = x2
          · subst he
            go_wp2
            go_quiet (fail)
            go_wp2
            go_roundw
            case rel => 
              refine ⟨k + 1, _, by go_num, by omega, rfl, fun j hj => ?_⟩
              by_cases e : j = k
              · subst e; rw [H1.out, H2.out]
              · exact HJ.out j (by omega)
            case measure => simp [intOf]; omega
          · have hb : ((x1 : Int) != (x2 : Int)) = true := by
              rw [bne_iff_ne]; intro h; exact he (by omega)
            have HN : Hid (decide (l1 = l2) = false) := by
              show decide (l1 = l2) = false
              simp only [decide_eq_false_iff_not]; intro h; apply he; rw [← H1.out, ← H2.out, h]
            clear he
            go_wp2
            go_quiet (fail)
            go_wp2
            go_ret
            rw [HN.out]
            exact ⟨rfl, n + nq, by simp⟩
        · have HN : Hid (decide (l1 = l2) = true) := by
            show decide (l1 = l2) = true
            simp only [decide_eq_true_eq]
            exact same_yes HL.out (fun j hj' => hj j (by omega))
          clear hj
          go_wp2
          go_ret
          rw [HN.out]
          exact ⟨rfl, _, rfl⟩
  · have e1 : ((l1.length : Int) != (l2.length : Int)) = true := by simp; omega
    have e2 : decide (l1 = l2) = false := by simp; intro h; exact hlen (by rw [h])
    rw [e2]
    clear hlen e2
    go_enter Try.func23, Try.ntmps23
    go_wp2
    go_ret
    exact ⟨rfl, 0, rfl⟩

/-! ### the first history -/
def o1 : Lo := ⟨0, 0, 2, [97], [120], [], 1, 5, ⟨1, []⟩⟩
def o2 : Lo := ⟨0, 0, 1, [97], [], [], 2, 3, ⟨2, []⟩⟩
def o3 : Lo := ⟨0, 0, 1, [97], [], [], 4, 6, ⟨1, [120]⟩⟩
def o4 : Lo := ⟨0, 0, 1, [97], [], [], 6, 7, ⟨2, []⟩⟩
theorem f1v : valid [o1, o2, o3] = 0 := by decide
theorem f1e : explE [o1, o2, o3] [97] = some [1, 0, 2] := by decide
theorem f2v : valid [o1, o4] = 0 := by decide
theorem f2c : checkE [o1, o4] = false := by decide

theorem hat_new (w : World) (h : List Lo) (cs : Array Value) (hcs : cs.toList = h.flatMap (fun x => x.cells.toList)) : HAt (w.heap.size + 1) (w.alloc (.cells cs 35)) (some ⟨w.heap.size, 0, none⟩) h := by
  refine .inr ⟨_, _, rfl, by omega, fun i hi => ?_⟩
  have hh : (w.alloc (.cells cs 35)).heap[w.heap.size]? = some (.cells cs 35) := heap_alloc_new w _
  have key : ∀ j, j < 10 → (w.alloc (.cells cs 35)).cell? ⟨w.heap.size, 0 + i * 10 + j, none⟩ = some ((oat h i).cells.toList.getD j undef) := fun j hj => by
    simp only [World.cell?, hh, Nat.zero_add]
    have h1 := flat_get (fun x : Lo => x.cells.toList) (sz := 10) (fun _ => rfl) h i j hi hj
    rw [← hcs] at h1
    have h2 : cs[i * 10 + j]? = (h[i].cells.toList)[j]? := by simpa using h1
    rw [h2]
    have ho : oat h i = h[i] := by unfold oat; rw [List.getElem?_eq_getElem hi]; rfl
    rw [ho, List.getD_eq_getElem?_getD]
    have : j < (h[i].cells.toList).length := hj
    rw [List.getElem?_eq_getElem this]; rfl
  exact ⟨key 0 (by omega), key 1 (by omega), key 2 (by omega), key 3 (by omega), key 4 (by omega), key 5 (by omega), key 6 (by omega), key 7 (by omega), key 8 (by omega), key 9 (by omega)⟩

theorem ird_new (w : World) (l : List Nat) (cs : Array Value) (hcs : cs.toList = l.map encI) (hl : l.length ≤ maxLen) : IRd (w.alloc (.cells cs 3)) (.slice (some ⟨w.heap.size, 0, none⟩) l.length l.length) l := by
  refine ⟨_, _, rfl, Nat.le_refl _, hl, .inr ⟨_, _, rfl, fun i hi => ?_⟩⟩
  have hh : (w.alloc (.cells cs 3)).heap[w.heap.size]? = some (.cells cs 3) := heap_alloc_new w _
  simp only [World.cell?, hh, Nat.zero_add]
  have : cs.toList[i]? = (l.map encI)[i]? := by rw [hcs]
  rw [List.getElem?_map, List.getElem?_eq_getElem hi] at this
  rw [List.getElem?_eq_getElem hi]
  simpa using this
theorem num_any (n : Int) (w : World) : Calls Try.prog 19 #[.int .i64 n] w fun e w' => e = .returned (.int .i64 n) ∧ w' = w := by
  go_enter Try.func19, Try.ntmps19
  go_wp2
  go_ret
  exact ⟨rfl, rfl⟩
theorem ok_first : ∀ x ∈ [o1, o2, o3], LoOk x := by
  intro x hx
  simp only [List.mem_cons, List.not_mem_nil, or_false] at hx
  rcases hx with rfl | rfl | rfl <;> exact ⟨by decide, by decide, by decide, by decide⟩
theorem ok_second : ∀ x ∈ [o1, o4], LoOk x := by
  intro x hx
  simp only [List.mem_cons, List.not_mem_nil, or_false] at hx
  rcases hx with rfl | rfl <;> exact ⟨by decide, by decide, by decide, by decide⟩

set_option maxRecDepth 100000 in
set_option maxHeartbeats 2000000 in
theorem first_any (w : World) : Calls Try.prog 9 #[] w fun e w' => e = .returned (.bool true) ∧ Below w.heap.size w w' := by
  have HE : Hid (∀ (W : World) (n : Nat) (cs : Array Value), W.heap.size = n → cs.toList = [o1, o2, o3].flatMap (fun x => x.cells.toList) → Calls Try.prog 21 #[.slice (some ⟨n, 0, none⟩) 3 3, .string ⟨#[97]⟩] (W.alloc (.cells cs 35)) fun e w' => ∃ v, e = .returned (.tuple #[v, .bool true, .int .i64 0]) ∧ IOw W.heap.size w' v [1, 0, 2] ∧ Below W.heap.size W w') := fun W n cs hn hcs => by
    subst hn
    have := Explain_any (W.heap.size + 1) (W.alloc (.cells cs 35)) (some ⟨W.heap.size, 0, none⟩) 3 [o1, o2, o3] [97] (by simp) (hat_new W _ cs hcs) ok_first (by decide)
    rw [f1e, f1v] at this
    refine this.mono ?_
    rintro e w' ⟨v, rfl, hI, hB⟩
    exact ⟨v, rfl, ownsRow_base_a hI (by simp), ((Below.refl _ W).alloc (Nat.le_refl _) _).trans (hB.mono (by simp))⟩
  have HC : Hid (∀ (W : World) (n : Nat) (cs : Array Value), W.heap.size = n → cs.toList = [o1, o4].flatMap (fun x => x.cells.toList) → Calls Try.prog 12 #[.slice (some ⟨n, 0, none⟩) 2 2] (W.alloc (.cells cs 35)) fun e w' => e = .returned (.tuple #[.bool false, .int .i64 0]) ∧ Below W.heap.size W w') := fun W n cs hn hcs => by
    subst hn
    have := check_any (W.heap.size + 1) (W.alloc (.cells cs 35)) (some ⟨W.heap.size, 0, none⟩) 2 [o1, o4] (by simp) (hat_new W _ cs hcs) ok_second (by decide)
    rw [f2c, f2v] at this
    exact this.mono fun e w' ⟨he, hB⟩ => ⟨he, ((Below.refl _ W).alloc (Nat.le_refl _) _).trans (hB.mono (by simp))⟩
  have HN := num_any
  go_enter Try.func9, Try.ntmps9
  have hp1 : Hid (Below w.heap.size w (((w.alloc o1.box).alloc o2.box).alloc o3.box)) := below3 w _ _ _
  go_wp2_with fail
  refine Calls.mono (HE.out _ _ _ (by simp) rfl) ?_
  rintro e w1 ⟨v, rfl, hI, hB1⟩
  have hz1 := hB1.size
  simp only [World.size_alloc] at hz1
  have hx1 : OpAt w1 w.heap.size 0 o1 := (opAt_box (b := w.heap.size) (x := o1) (w := ((w.alloc o1.box).alloc o2.box).alloc o3.box) (by rw [Below.heap_alloc _ _ _ (by simp only [World.size_alloc]; omega), Below.heap_alloc _ _ _ (by simp only [World.size_alloc]; omega)]; exact heap_alloc_new _ _)).same (fun o => hB1.cell (p := ⟨w.heap.size, o, none⟩) (by simp only [World.size_alloc]; omega))
  obtain ⟨d0, d1, d2, d3, d4, d5, d6, d7, d8, d9⟩ := hx1
  unfold str o1 at d3 d4 d5 d9
  unfold o1 at d0 d1 d2 d6 d7 d8
  dsimp only at d0 d1 d2 d3 d4 d5 d6 d7 d8 d9
  have HI : Hid (IOw _ w1 v [1, 0, 2]) := hI
  have HB1 : Hid (Below w.heap.size w w1) := hp1.out.trans (hB1.mono (by simp only [World.size_alloc]; omega))
  clear hI hB1
  go_wp2_with fail
  refine Calls.mono (HC.out _ _ _ rfl rfl) ?_
  rintro e w2 ⟨rfl, hB2⟩
  have HB2 : Hid (Below w.heap.size w w2) := HB1.out.trans (hB2.mono HB1.out.size)
  have HSI : Hid (Calls Try.prog 23 #[v, .slice (some ⟨w2.heap.size, 0, none⟩) 3 3] (w2.alloc (.cells #[.int .i64 1, .int .i64 0, .int .i64 2] 3)) fun e w' => e = .returned (.bool true) ∧ ∃ n, w' = (w2.alloc (.cells #[.int .i64 1, .int .i64 0, .int .i64 2] 3)).drewN n) := by
    have h1 : IOw _ (w2.alloc (.cells #[.int .i64 1, .int .i64 0, .int .i64 2] 3)) v [1, 0, 2] := World.ownsRow.alloc (row_below HI.out (hB2.mono (Nat.le_refl _))) _
    have h2 : IRd (w2.alloc (.cells #[.int .i64 1, .int .i64 0, .int .i64 2] 3)) (.slice (some ⟨w2.heap.size, 0, none⟩) 3 3) [1, 0, 2] := ird_new w2 [1, 0, 2] _ rfl (by decide)
    have := sameInts_any _ _ _ _ _ h1.rd h2
    rw [show decide (([1, 0, 2] : List Nat) = [1, 0, 2]) = true from by decide] at this
    exact this
  clear hB2 d0 d1 d2 d3 d4 d5 d6 d7 d8 d9
  go_wp2_with (first
    | (go_at_call 19; refine (HN _ _).mono ?_; rintro e w3 ⟨rfl, rfl⟩)
    | (go_at_call 23; refine HSI.out.mono ?_; rintro e w3 ⟨rfl, nq, rfl⟩))
  go_ret
  exact ⟨rfl, by first | exact ((HB2.out.alloc HB2.out.size _)) | (have hq := HB2.out.alloc HB2.out.size (.cells #[.int .i64 1, .int .i64 0, .int .i64 2] 3); exact ⟨hq.os, hq.tape, hq.output, hq.size, hq.block⟩)⟩
end Go.Proofs.Ytbcnpdpdflkanaa
