/-
  The document's options of a line.
-/
import Derived.Test.YtbckogojnjmjcaaGreatDoorQ3
import Derived.Test.YtbckogojnjmjcaaGreatDoorQ7
import Derived.Test.YtbckogojnjmjcaaGreatDoorN1
import Derived.Test.YtbckogojnjmjcaaGreatDoorTw
namespace Go.Proofs.YtbckogojnjmjcaaGreatDoor
open Go.RowKit Go.Shelf

theorem results_Oc {fn : Func} {t t2 : Tmp} (h : fn.results = #[.cell t 59, .tmp t2]) (tmps : Array Value) (w : World) (B : Nat) {cs : Array Value} {y : Value} (ht : tmps.getD t undef = .pointer (some ⟨B, 0, none⟩)) (hy : tmps.getD t2 undef = y) (hb : w.heap[B]? = some (.cells cs 59 (0, 0))) (hs : cs.size = 19) :
    (results fn tmps).run Tryz.prog w = .ok (.tuple #[.agg cs, y]) w := by
  have hl := run_loadVar_row (P := Tryz.prog) w B 59 59 cs (0, 0) _ hb Tryz.underlying59 rfl (by rw [hs]; kernel_rfl)
  rw [results_cell_tmp h, ht, hy]
  simp only [asAddr, Sem.run_pure, Result.andThen_ok, hl]
theorem nums_mem {ss : List Bs} {l : List Int} (h : nums ss = .ok l) : ∀ s ∈ ss, numOf s ≠ none := by
  induction ss generalizing l with
  | nil => intro s hs; cases hs
  | cons x ss ih =>
    simp only [nums] at h
    split at h
    · cases h
    · rename_i n hn
      split at h
      · cases h
      · rename_i l' hl'
        intro s hs
        rcases List.mem_cons.1 hs with rfl | hs
        · rw [hn]; intro hc; cases hc
        · exact ih hl' s hs
theorem nums_none {ss : List Bs} {s : Bs} (hs : s ∈ ss) (h : numOf s = none) : nums ss = .error 22 := by
  cases hn : nums ss with
  | ok l => exact absurd h (nums_mem hn s hs)
  | error e => rw [nums_err22 hn]
theorem nums_take {ss : List Bs} {l : List Int} (h : nums ss = .ok l) (k : Nat) : nums (ss.take k) = .ok (l.take k) := by
  induction ss generalizing l k with
  | nil => cases h; cases k <;> rfl
  | cons x ss ih =>
    simp only [nums] at h
    split at h
    · cases h
    · rename_i n hn
      split at h
      · cases h
      · rename_i l' hl'
        cases h
        cases k with
        | zero => rfl
        | succ k =>
          rw [List.take_succ_cons, List.take_succ_cons, nums, hn]
          simp only
          rw [ih hl' k]
theorem num_48 {s : Bs} : numOf s = some 0 ↔ s = [48] := by
  constructor
  · intro h
    have := (numOf_some.1 h).2.2
    rw [← this, itoa_zero]
  · intro h
    rw [h, ← itoa_zero]
    exact numOf_itoa (by decide)
/-- Words of options: a number that is none, or the last one not 0. -/
theorem parseO_bad {wd : Bs} {ws : List Bs} (h1 : wd = wWorld) (h2 : ws.length = 18) {j : Nat} (hj : j < 18) (h : numOf (ws.getD j []) = none ∨ (j = 17 ∧ ∃ n, numOf (ws.getD j []) = some n ∧ n ≠ 0)) : parseO (wd :: ws) = .error 22 := by
  simp only [parseO]
  rw [if_neg (fun k => k h1), if_neg (fun k => k h2)]
  by_cases h48 : ws.getD 17 [] = [48]
  · rw [if_neg (fun k => k h48)]
    rcases h with h | ⟨rfl, n, h, hn⟩
    · have hj17 : j ≠ 17 := fun e => by rw [e, h48, num_48.2 rfl] at h; cases h
      refine nums_none (s := ws.getD j []) ?_ h
      rw [List.getD_eq_getElem?_getD, List.getElem?_eq_getElem (by omega)]
      exact List.mem_take_iff_getElem.2 ⟨j, by omega, rfl⟩
    · rw [h48, num_48.2 rfl] at h
      cases h
      exact absurd rfl hn
  · rw [if_pos h48]
theorem parseO_good {wd : Bs} {ws : List Bs} {pre : List Int} (h1 : wd = wWorld) (h2 : ws.length = 18) (h3 : nums ws = .ok pre) (h4 : pre.getD 17 0 = 0) (h5 : numOf (ws.getD 17 []) = some (pre.getD 17 0)) : parseO (wd :: ws) = .ok (pre.take 17) := by
  simp only [parseO]
  rw [if_neg (fun k => k h1), if_neg (fun k => k h2), if_neg (fun k => k (num_48.1 (by rw [h5, h4]))), nums_take h3]
theorem tyI : Ty 134 3 (.int .i64 0) 1 8 := ⟨Tryz.underlying134, by kernel_rfl, rfl, by decide, by decide⟩
/-- Numbers of the call's own. -/
def IOw (N : Nat) (w : World) (v : Value) (l : List Int) : Prop := w.ownsRow N 3 1 v l.length (l.map (.int .i64))
theorem lst18 {α : Type} {cs : List α} (h : cs.length = 18) : ∃ p0 p1 p2 p3 p4 p5 p6 p7 p8 p9 p10 p11 p12 p13 p14 p15 p16 p17, cs = [p0, p1, p2, p3, p4, p5, p6, p7, p8, p9, p10, p11, p12, p13, p14, p15, p16, p17] := by
  match cs, h with
  | [p0, p1, p2, p3, p4, p5, p6, p7, p8, p9, p10, p11, p12, p13, p14, p15, p16, p17], _ => exact ⟨_, _, _, _, _, _, _, _, _, _, _, _, _, _, _, _, _, _, rfl⟩
theorem IOw.at {N : Nat} {w : World} {a : Option Addr} {c : Nat} {l : List Int} (h : IOw N w (.slice a l.length c) l) (h0 : 0 < l.length) : ∃ g, a = some ⟨g, 0, none⟩ ∧ N ≤ g ∧ g < w.heap.size ∧ ∀ j, j < l.length → w.cell? ⟨g, j, none⟩ = some (.int .i64 (l.getD j 0)) := by
  have hh := h
  unfold IOw at hh
  rcases hh.2 with ⟨h1, h2⟩ | ⟨g, cap, cur, h1, h2, h3, h4, h5, _⟩
  · omega
  · injection h1 with e1 e2 e3
    subst e1
    subst e3
    refine ⟨g, rfl, h2, (Array.getElem?_eq_some_iff.1 h3).1, fun j hj => ?_⟩
    have := row_cell hh (j := j) (by omega)
    rw [this.1, List.getD_eq_getElem?_getD, List.getElem?_map, List.getElem?_eq_getElem hj, List.getD_eq_getElem?_getD, List.getElem?_eq_getElem hj]
    rfl
set_option maxRecDepth 100000 in
set_option maxHeartbeats 8000000 in
theorem rparseOpts_any (s : Bs) (hl : s.length ≤ 1000000) (w : World) : Calls Tryz.prog 21 #[.string ⟨s.toArray⟩] w fun e w' => PoX s e ∧ Below w.heap.size w w' := by
  have HB0 : Hid (Below w.heap.size w (w.alloc (.cells #[.int .i64 0, .int .i64 0, .int .i64 0, .int .i64 0, .int .i64 0, .int .i64 0, .int .i64 0, .int .i64 0, .int .i64 0, .int .i64 0, .int .i64 0, .int .i64 0, .int .i64 0, .int .i64 0, .int .i64 0, .int .i64 0, .int .i64 0, .int .i64 0, .int .i64 0] 59))) := (Below.refl _ _).alloc (Nat.le_refl _) _
  have HX0 : Hid ((w.alloc (.cells #[.int .i64 0, .int .i64 0, .int .i64 0, .int .i64 0, .int .i64 0, .int .i64 0, .int .i64 0, .int .i64 0, .int .i64 0, .int .i64 0, .int .i64 0, .int .i64 0, .int .i64 0, .int .i64 0, .int .i64 0, .int .i64 0, .int .i64 0, .int .i64 0, .int .i64 0] 59)).heap[w.heap.size]? = some (.cells #[.int .i64 0, .int .i64 0, .int .i64 0, .int .i64 0, .int .i64 0, .int .i64 0, .int .i64 0, .int .i64 0, .int .i64 0, .int .i64 0, .int .i64 0, .int .i64 0, .int .i64 0, .int .i64 0, .int .i64 0, .int .i64 0, .int .i64 0, .int .i64 0, .int .i64 0] 59 (0, 0))) := heap_alloc_new w _
  have HRW := rwords_t s hl (w.alloc (.cells #[.int .i64 0, .int .i64 0, .int .i64 0, .int .i64 0, .int .i64 0, .int .i64 0, .int .i64 0, .int .i64 0, .int .i64 0, .int .i64 0, .int .i64 0, .int .i64 0, .int .i64 0, .int .i64 0, .int .i64 0, .int .i64 0, .int .i64 0, .int .i64 0, .int .i64 0] 59))
  have HEND : Hid (∀ (w' : World), Below (w.heap.size + 1) (w.alloc (.cells #[.int .i64 0, .int .i64 0, .int .i64 0, .int .i64 0, .int .i64 0, .int .i64 0, .int .i64 0, .int .i64 0, .int .i64 0, .int .i64 0, .int .i64 0, .int .i64 0, .int .i64 0, .int .i64 0, .int .i64 0, .int .i64 0, .int .i64 0, .int .i64 0, .int .i64 0] 59)) w' → w'.heap[w.heap.size]? = some (.cells #[.int .i64 0, .int .i64 0, .int .i64 0, .int .i64 0, .int .i64 0, .int .i64 0, .int .i64 0, .int .i64 0, .int .i64 0, .int .i64 0, .int .i64 0, .int .i64 0, .int .i64 0, .int .i64 0, .int .i64 0, .int .i64 0, .int .i64 0, .int .i64 0, .int .i64 0] 59 (0, 0)) ∧ Below w.heap.size w w') := fun w' h => ⟨(h.block _ (by omega)).trans HX0.out, HB0.out.trans (h.mono (by omega))⟩
  rw [World.size_alloc] at HRW
  go_enter Tryz.func21, Tryz.ntmps21
  go_wp2_with fail
  refine HRW.mono ?_
  rintro e w1 ⟨⟨va, vc, kk, ws, hWT, hS, hwl, rfl⟩, hB1⟩
  have HX1 : Hid _ := HEND.out w1 hB1
  have HB1 : Hid (Below (w.heap.size + 1) _ w1) := hB1
  have hz1 : w.heap.size + 1 ≤ w1.heap.size := by have := hB1.size; simpa using this
  rcases hWT with ⟨h1, rfl, rfl⟩ | ⟨h1, h2, rfl, rfl⟩ | ⟨h1, h2, rfl⟩
  · clear hB1 HRW hS
    go_upto_region 3 with fail
    apply wp_region_lit
    refine Go.Great.wpList_readTo rfl (some 18) rfl (.agg #[.int .i64 0, .int .i64 0, .int .i64 0, .int .i64 0, .int .i64 0, .int .i64 0, .int .i64 0, .int .i64 0, .int .i64 0, .int .i64 0, .int .i64 0, .int .i64 0, .int .i64 0, .int .i64 0, .int .i64 0, .int .i64 0, .int .i64 0, .int .i64 0, .int .i64 0]) (by kernel_rfl) ?_
    refine Go.Great.wpList_readTo rfl (some 19) rfl (.int .i64 3) (by kernel_rfl) ?_
    refine wpList_store_rowTo rfl 59 _ _ rfl rfl w.heap.size #[.int .i64 0, .int .i64 0, .int .i64 0, .int .i64 0, .int .i64 0, .int .i64 0, .int .i64 0, .int .i64 0, .int .i64 0, .int .i64 0, .int .i64 0, .int .i64 0, .int .i64 0, .int .i64 0, .int .i64 0, .int .i64 0, .int .i64 0, .int .i64 0, .int .i64 0] (by kernel_rfl) (by kernel_rfl) 59 _ HX1.out.1 (by kernel_rfl) rfl (by kernel_rfl) ?_
    go_wp2
    refine bodyPost_ret (results_Oc rfl _ _ w.heap.size rfl rfl (setRow_heap _ _ _ _ _ _ HX1.out.1) rfl) rfl ?_
    exact ⟨⟨.error 3, .inl ⟨h1, rfl⟩, rfl⟩, below_setRow HX1.out.2 (Nat.le_refl _) _⟩
  · clear hB1 HRW hS
    go_upto_region 3 with fail
    apply wp_region_lit
    refine Go.Great.wpList_readTo rfl (some 18) rfl (.agg #[.int .i64 0, .int .i64 0, .int .i64 0, .int .i64 0, .int .i64 0, .int .i64 0, .int .i64 0, .int .i64 0, .int .i64 0, .int .i64 0, .int .i64 0, .int .i64 0, .int .i64 0, .int .i64 0, .int .i64 0, .int .i64 0, .int .i64 0, .int .i64 0, .int .i64 0]) (by kernel_rfl) ?_
    refine Go.Great.wpList_readTo rfl (some 19) rfl (.int .i64 4) (by kernel_rfl) ?_
    refine wpList_store_rowTo rfl 59 _ _ rfl rfl w.heap.size #[.int .i64 0, .int .i64 0, .int .i64 0, .int .i64 0, .int .i64 0, .int .i64 0, .int .i64 0, .int .i64 0, .int .i64 0, .int .i64 0, .int .i64 0, .int .i64 0, .int .i64 0, .int .i64 0, .int .i64 0, .int .i64 0, .int .i64 0, .int .i64 0, .int .i64 0] (by kernel_rfl) (by kernel_rfl) 59 _ HX1.out.1 (by kernel_rfl) rfl (by kernel_rfl) ?_
    go_wp2
    refine bodyPost_ret (results_Oc rfl _ _ w.heap.size rfl rfl (setRow_heap _ _ _ _ _ _ HX1.out.1) rfl) rfl ?_
    exact ⟨⟨.error 4, .inr (.inl ⟨h1, h2, rfl⟩), rfl⟩, below_setRow HX1.out.2 (Nat.le_refl _) _⟩
  have HPA : Hid (∀ r, parseO ws = r → OpR s r) := fun r h => .inr (.inr ⟨h1, _, h2, h.symm⟩)
  have HWL : Hid (∀ x ∈ ws, x.length ≤ 1000000) := fun x hx => by have := word_len h2 x hx; omega
  have HSR : Hid (SRd w1 (.slice va ws.length vc) ws) := hS
  clear h1 h2 hS hB1 HRW
  cases ws with
  | nil =>
    have HR : Hid (parseO [] = .error 20) := rfl
    go_upto_region 5 with fail
    apply wp_region_lit
    refine Go.Great.wpList_readTo rfl (some 29) rfl (.agg #[.int .i64 0, .int .i64 0, .int .i64 0, .int .i64 0, .int .i64 0, .int .i64 0, .int .i64 0, .int .i64 0, .int .i64 0, .int .i64 0, .int .i64 0, .int .i64 0, .int .i64 0, .int .i64 0, .int .i64 0, .int .i64 0, .int .i64 0, .int .i64 0, .int .i64 0]) (by kernel_rfl) ?_
    refine wpList_store_rowTo rfl 59 _ _ rfl rfl w.heap.size #[.int .i64 0, .int .i64 0, .int .i64 0, .int .i64 0, .int .i64 0, .int .i64 0, .int .i64 0, .int .i64 0, .int .i64 0, .int .i64 0, .int .i64 0, .int .i64 0, .int .i64 0, .int .i64 0, .int .i64 0, .int .i64 0, .int .i64 0, .int .i64 0, .int .i64 0] (by kernel_rfl) (by kernel_rfl) 59 _ HX1.out.1 (by kernel_rfl) rfl (by kernel_rfl) ?_
    go_wp2
    refine bodyPost_ret (results_Oc rfl _ _ w.heap.size rfl rfl (setRow_heap _ _ _ _ _ _ HX1.out.1) rfl) rfl ?_
    exact ⟨⟨.error 20, HPA.out _ HR.out, rfl⟩, below_setRow HX1.out.2 (Nat.le_refl _) _⟩
  | cons wd r =>
    obtain ⟨nw, hnw⟩ : ∃ nw, nw = r.length + 1 := ⟨_, rfl⟩
    have HNW : Hid (r.length + 1 = nw) := hnw.symm
    have HSRn : Hid (SRd w1 (.slice va (wd :: r).length vc) (wd :: r)) := HSR.out
    have hlen : (wd :: r).length = nw := hnw.symm
    obtain ⟨b0, off0, rfl, hb0, hc0⟩ := HSRn.out.at (k := 0) (by simp)
    have hcw0 : w1.cell? ⟨b0, off0, none⟩ = some (.string ⟨wd.toArray⟩) := hc0
    have hnp : 0 < nw := by omega
    have hz0b : ((nw : Int) == 0) = false := by rw [beq_eq_false_iff_ne]; omega
    have hl3 : nw ≤ 1000000 := by rw [← hlen]; exact hwl
    rw [hlen]
    clear hlen hnw hc0 hwl HSR
    cases hwd : (wd == wWorld) with
    | false =>
      have hwn : wd ≠ wWorld := by simpa using hwd
      have HR : Hid (parseO (wd :: r) = .error 20) := by show _ = _; simp only [parseO]; rw [if_pos hwn]
      have hwb : (wd == [119, 111, 114, 108, 100]) = false := by rw [beq_eq_false_iff_ne]; exact hwn
      clear hwn hwd
      go_upto_region 5 with fail
      apply wp_region_lit
      refine Go.Great.wpList_readTo rfl (some 29) rfl (.agg #[.int .i64 0, .int .i64 0, .int .i64 0, .int .i64 0, .int .i64 0, .int .i64 0, .int .i64 0, .int .i64 0, .int .i64 0, .int .i64 0, .int .i64 0, .int .i64 0, .int .i64 0, .int .i64 0, .int .i64 0, .int .i64 0, .int .i64 0, .int .i64 0, .int .i64 0]) (by kernel_rfl) ?_
      refine wpList_store_rowTo rfl 59 _ _ rfl rfl w.heap.size #[.int .i64 0, .int .i64 0, .int .i64 0, .int .i64 0, .int .i64 0, .int .i64 0, .int .i64 0, .int .i64 0, .int .i64 0, .int .i64 0, .int .i64 0, .int .i64 0, .int .i64 0, .int .i64 0, .int .i64 0, .int .i64 0, .int .i64 0, .int .i64 0, .int .i64 0] (by kernel_rfl) (by kernel_rfl) 59 _ HX1.out.1 (by kernel_rfl) rfl (by kernel_rfl) ?_
      go_wp2
      refine bodyPost_ret (results_Oc rfl _ _ w.heap.size rfl rfl (setRow_heap _ _ _ _ _ _ HX1.out.1) rfl) rfl ?_
      exact ⟨⟨.error 20, HPA.out _ HR.out, rfl⟩, below_setRow HX1.out.2 (Nat.le_refl _) _⟩
    | true =>
    have hwe : wd = wWorld := by simpa using hwd
    have HWE : Hid (wd = wWorld) := hwe
    have hwb : (wd == [119, 111, 114, 108, 100]) = true := by rw [hwe]; rfl
    clear hwd hwe
    by_cases hne : r.length = 18
    case neg =>
      have HR : Hid (parseO (wd :: r) = .error 21) := by show _ = _; simp only [parseO]; rw [if_neg (fun h => h HWE.out), if_pos hne]
      have hnb : ((nw : Int) != 19) = true := by rw [bne_iff_ne]; have := HNW.out; omega
      clear hne
      go_upto_region 7 with fail
      apply wp_region_lit
      refine Go.Great.wpList_readTo rfl (some 33) rfl (.agg #[.int .i64 0, .int .i64 0, .int .i64 0, .int .i64 0, .int .i64 0, .int .i64 0, .int .i64 0, .int .i64 0, .int .i64 0, .int .i64 0, .int .i64 0, .int .i64 0, .int .i64 0, .int .i64 0, .int .i64 0, .int .i64 0, .int .i64 0, .int .i64 0, .int .i64 0]) (by kernel_rfl) ?_
      refine wpList_store_rowTo rfl 59 _ _ rfl rfl w.heap.size #[.int .i64 0, .int .i64 0, .int .i64 0, .int .i64 0, .int .i64 0, .int .i64 0, .int .i64 0, .int .i64 0, .int .i64 0, .int .i64 0, .int .i64 0, .int .i64 0, .int .i64 0, .int .i64 0, .int .i64 0, .int .i64 0, .int .i64 0, .int .i64 0, .int .i64 0] (by kernel_rfl) (by kernel_rfl) 59 _ HX1.out.1 (by kernel_rfl) rfl (by kernel_rfl) ?_
      go_wp2
      refine bodyPost_ret (results_Oc rfl _ _ w.heap.size rfl rfl (setRow_heap _ _ _ _ _ _ HX1.out.1) rfl) rfl ?_
      exact ⟨⟨.error 21, HPA.out _ HR.out, rfl⟩, below_setRow HX1.out.2 (Nat.le_refl _) _⟩
    have HRL : Hid (r.length = 18) := hne
    have h19 : nw = 19 := by have := HNW.out; omega
    subst h19
    clear hne hnp hz0b hl3 HNW
    go_wp2
    go_loopw [6, 7] (fun vl vi wr => ∃ (k : Nat) (pre : List Int), vi = .int .i64 ((k : Int) + 1) ∧ k ≤ 18 ∧ Hid (pre.length = k) ∧ Hid (IOw w1.heap.size wr vl pre) ∧ Hid (NumsTo r pre) ∧ Hid (∀ j, j < k → numOf (r.getD j []) = some (pre.getD j 0)) ∧ Hid (k = 18 → pre.getD 17 0 = 0) ∧ Hid (Below w1.heap.size w1 wr)) (fun _ i _ => 19 - (intOf i).toNat)
    case atStart => exact ⟨0, [], rfl, by omega, rfl, ⟨rfl, .inl ⟨rfl, rfl⟩⟩, by show NumsTo _ _; unfold NumsTo; rw [List.length_nil, List.drop_zero]; cases nums r <;> rfl, fun j hj => absurd hj (Nat.not_lt_zero j), (fun h => by omega), Below.refl _ _⟩
    case round =>
      obtain ⟨k, pre, rfl, hk, HPL, HIO, HNT, HNJ, HLZ, HBR⟩ := hrel
      have hzr : w1.heap.size ≤ wr.heap.size := HBR.out.size
      have HXr : Hid _ := HEND.out wr (HB1.out.trans (HBR.out.mono (by omega)))
      obtain ⟨vla, vlc, rfl, hc1, hc2⟩ := row_shape HIO.out
      have hpl : pre.length = k := HPL.out
      rw [hpl] at hc1 HIO
      rw [hpl]
      clear hpl
      by_cases hlt : k < 18
      · have hkr : k < r.length := by rw [HRL.out]; exact hlt
        have hsl : (r.getD k []).length ≤ 1000000 := HWL.out _ (.tail _ (by rw [List.getD_eq_getElem?_getD, List.getElem?_eq_getElem hkr]; exact List.getElem_mem hkr))
        obtain ⟨b', o', hbe, -, hck⟩ := HSRn.out.at (k := k + 1) (by simp [HRL.out]; omega)
        cases hbe
        have hck' : wr.cell? ⟨b0, off0 + (k + 1), none⟩ = some (.string ⟨(r.getD k []).toArray⟩) := (HBR.out.cell (p := ⟨b0, off0 + (k + 1), none⟩) hb0).trans hck
        have hbl : b0 < wr.heap.size := by omega
        have HNU := rnumber_any (r.getD k []) hsl wr
        have hsk : r[pre.length]? = some (r.getD k []) := by rw [HPL.out, List.getD_eq_getElem?_getD, List.getElem?_eq_getElem hkr]; rfl
        have HBAD : Hid (numOf (r.getD k []) = none ∨ (k = 17 ∧ ∃ n, numOf (r.getD k []) = some n ∧ n ≠ 0) → parseO (wd :: r) = .error 22) := fun h => parseO_bad HWE.out HRL.out hlt h
        have HNX : Hid (∀ n, numOf (r.getD k []) = some n → NumsTo r (pre ++ [n])) := fun n hn => HNT.out.next hsk hn
        have HJN : Hid (∀ n, numOf (r.getD k []) = some n → ∀ j, j < k + 1 → numOf (r.getD j []) = some ((pre ++ [n]).getD j 0)) := fun n hn j hj => by
          by_cases hjk : j = k
          · subst hjk
            rw [hn, List.getD_eq_getElem?_getD, List.getElem?_append_right (by rw [HPL.out]; exact Nat.le_refl _), HPL.out, Nat.sub_self]
            rfl
          · rw [HNJ.out j (by omega), List.getD_eq_getElem?_getD, List.getD_eq_getElem?_getD, List.getElem?_append_left (by rw [HPL.out]; omega)]
        generalize r.getD k [] = sk at *
        clear hck hsl hkr hsk
        have hk1 : (k : Int) + 1 < 19 := by omega
        have hkn : ((k : Int) + 1).toNat = k + 1 := by omega
        go_wp2_with fail
        refine HNU.mono ?_
        rintro e w5 ⟨⟨n, hn, rfl⟩ | ⟨hn, rfl⟩, hw⟩
        · subst w5
          have HNS : Hid (numOf sk = some n) := numOf_some.2 hn
          have HN1 : Hid (NumsTo r (pre ++ [n])) := HNX.out n HNS.out
          have HN2 : Hid (∀ j, j < k + 1 → numOf (r.getD j []) = some ((pre ++ [n]).getD j 0)) := HJN.out n HNS.out
          clear HNU hn HNX HJN
          by_cases hk17 : k = 17
          · by_cases hn0 : n = 0
            · have HLZ1 : Hid ((pre ++ [n]).getD 17 0 = 0) := by
                show _ = _
                rw [List.getD_eq_getElem?_getD, List.getElem?_append_right (by rw [HPL.out, hk17]; exact Nat.le_refl _), HPL.out, hk17, hn0]
                rfl
              subst hk17
              subst hn0
              go_wp2_with (first
                | (at_builtin; refine wpList_app tyI rfl _ _ rfl w1.heap.size (.slice vla 17 vlc) 17 (pre.map (.int .i64)) ⟨wr.heap.size, 0, none⟩ 1 1 [.int .i64 0] rfl (World.ownsRow.alloc (by have := HIO.out; unfold IOw at this; rwa [HPL.out] at this) _) rfl rfl (news_at wr #[.int .i64 0] 3) (fun u hu => by cases List.mem_singleton.1 hu; rfl) (by omega) (by simp; omega) ?_; intro v6 w6 r1 r2 r3)
                | fail)
              have HI6 : Hid (IOw w1.heap.size w6 v6 (pre ++ [0])) := by
                show IOw _ _ _ _
                unfold IOw
                rw [List.length_append, HPL.out, List.map_append]
                exact r1
              have HB6 : Hid (Below w1.heap.size w1 w6) := (HBR.out.alloc hzr _).grown r2 (by simp; omega) (fun q hq => (World.ownsRow.lt HIO.out q hq).1)
              clear r1 r2 r3
              go_wp2
              go_roundw
              case rel => exact ⟨17 + 1, pre ++ [0], by simp, by omega, by show _ = _; rw [List.length_append, HPL.out]; rfl, HI6.out, HN1.out, HN2.out, fun _ => HLZ1.out, HB6.out⟩
              case measure => simp [intOf]
            · have HR : Hid _ := HBAD.out (.inr ⟨hk17, n, HNS.out, hn0⟩)
              have hnb : (n != 0) = true := by rw [bne_iff_ne]; exact hn0
              subst hk17
              clear hn0 hk1 hkn hck'
              go_upto_region 14 with fail
              apply wp_region_lit
              refine Go.Great.wpList_readTo rfl (some 56) rfl (.agg #[.int .i64 0, .int .i64 0, .int .i64 0, .int .i64 0, .int .i64 0, .int .i64 0, .int .i64 0, .int .i64 0, .int .i64 0, .int .i64 0, .int .i64 0, .int .i64 0, .int .i64 0, .int .i64 0, .int .i64 0, .int .i64 0, .int .i64 0, .int .i64 0, .int .i64 0]) (by kernel_rfl) ?_
              refine wpList_store_rowTo rfl 59 _ _ rfl rfl w.heap.size #[.int .i64 0, .int .i64 0, .int .i64 0, .int .i64 0, .int .i64 0, .int .i64 0, .int .i64 0, .int .i64 0, .int .i64 0, .int .i64 0, .int .i64 0, .int .i64 0, .int .i64 0, .int .i64 0, .int .i64 0, .int .i64 0, .int .i64 0, .int .i64 0, .int .i64 0] (by kernel_rfl) (by kernel_rfl) 59 _ HXr.out.1 (by kernel_rfl) rfl (by kernel_rfl) ?_
              go_wp2
              refine bodyPost_ret (results_Oc rfl _ _ w.heap.size rfl rfl (setRow_heap _ _ _ _ _ _ HXr.out.1) rfl) rfl ?_
              exact ⟨⟨.error 22, HPA.out _ HR.out, rfl⟩, below_setRow HXr.out.2 (Nat.le_refl _) _⟩
          · have hkb : ((k : Int) + 1 == 18) = false := by rw [beq_eq_false_iff_ne]; omega
            have HK17 : Hid (¬ k = 17) := hk17
            clear hk17
            go_wp2_with (first
              | (at_builtin; refine wpList_app tyI rfl _ _ rfl w1.heap.size (.slice vla k vlc) k (pre.map (.int .i64)) ⟨wr.heap.size, 0, none⟩ 1 1 [.int .i64 n] rfl (World.ownsRow.alloc (by have := HIO.out; unfold IOw at this; rwa [HPL.out] at this) _) rfl rfl (news_at wr #[.int .i64 n] 3) (fun u hu => by cases List.mem_singleton.1 hu; rfl) (by omega) (by simp; omega) ?_; intro v6 w6 r1 r2 r3)
              | fail)
            have HI6 : Hid (IOw w1.heap.size w6 v6 (pre ++ [n])) := by
              show IOw _ _ _ _
              unfold IOw
              rw [List.length_append, HPL.out, List.map_append]
              exact r1
            have HB6 : Hid (Below w1.heap.size w1 w6) := (HBR.out.alloc hzr _).grown r2 (by simp; omega) (fun q hq => (World.ownsRow.lt HIO.out q hq).1)
            clear r1 r2 r3
            go_wp2
            go_roundw
            case rel => exact ⟨k + 1, pre ++ [n], by simp, by omega, by show _ = _; rw [List.length_append, HPL.out]; rfl, HI6.out, HN1.out, HN2.out, fun h => absurd (by omega) HK17.out, HB6.out⟩
            case measure => simp [intOf]; omega
        · subst w5
          have HR : Hid _ := HBAD.out (.inl (numOf_none hn))
          clear HNU hn hck'
          go_upto_region 14 with fail
          apply wp_region_lit
          refine Go.Great.wpList_readTo rfl (some 56) rfl (.agg #[.int .i64 0, .int .i64 0, .int .i64 0, .int .i64 0, .int .i64 0, .int .i64 0, .int .i64 0, .int .i64 0, .int .i64 0, .int .i64 0, .int .i64 0, .int .i64 0, .int .i64 0, .int .i64 0, .int .i64 0, .int .i64 0, .int .i64 0, .int .i64 0, .int .i64 0]) (by kernel_rfl) ?_
          refine wpList_store_rowTo rfl 59 _ _ rfl rfl w.heap.size #[.int .i64 0, .int .i64 0, .int .i64 0, .int .i64 0, .int .i64 0, .int .i64 0, .int .i64 0, .int .i64 0, .int .i64 0, .int .i64 0, .int .i64 0, .int .i64 0, .int .i64 0, .int .i64 0, .int .i64 0, .int .i64 0, .int .i64 0, .int .i64 0, .int .i64 0] (by kernel_rfl) (by kernel_rfl) 59 _ HXr.out.1 (by kernel_rfl) rfl (by kernel_rfl) ?_
          go_wp2
          refine bodyPost_ret (results_Oc rfl _ _ w.heap.size rfl rfl (setRow_heap _ _ _ _ _ _ HXr.out.1) rfl) rfl ?_
          exact ⟨⟨.error 22, HPA.out _ HR.out, rfl⟩, below_setRow HXr.out.2 (Nat.le_refl _) _⟩
      · have hke : k = 18 := by omega
        subst hke
        have HLZ0 : Hid (pre.getD 17 0 = 0) := HLZ.out rfl
        have HR : Hid (parseO (wd :: r) = .ok (pre.take 17)) := parseO_good HWE.out HRL.out (HNT.out.all (by rw [HPL.out, HRL.out])) HLZ0.out (HNJ.out 17 (by omega))
        clear HNJ HNT HLZ HLZ0
        have HIO2 : IOw w1.heap.size wr (.slice vla pre.length vlc) pre := by rw [HPL.out]; exact HIO
        obtain ⟨g, rfl, hgN, hgl, hcs⟩ := HIO2.at (by rw [HPL.out]; omega)
        obtain ⟨p0, p1, p2, p3, p4, p5, p6, p7, p8, p9, p10, p11, p12, p13, p14, p15, p16, p17, rfl⟩ := lst18 HPL.out
        have HRV : Hid (intsV (optsOf ([p0, p1, p2, p3, p4, p5, p6, p7, p8, p9, p10, p11, p12, p13, p14, p15, p16, p17].take 17)) = #[.int .i64 p0, .int .i64 p1, .int .i64 0, .int .i64 0, .int .i64 p2, .int .i64 p3, .int .i64 p4, .int .i64 p5, .int .i64 p6, .int .i64 p7, .int .i64 p8, .int .i64 p9, .int .i64 p10, .int .i64 p11, .int .i64 p12, .int .i64 p13, .int .i64 p14, .int .i64 p15, .int .i64 p16]) := by show _ = _; kernel_rfl
        have c0 : wr.cell? ⟨g, 0, none⟩ = some (.int .i64 p0) := hcs 0 (by simp)
        have c1 : wr.cell? ⟨g, 1, none⟩ = some (.int .i64 p1) := hcs 1 (by simp)
        have c2 : wr.cell? ⟨g, 2, none⟩ = some (.int .i64 p2) := hcs 2 (by simp)
        have c3 : wr.cell? ⟨g, 3, none⟩ = some (.int .i64 p3) := hcs 3 (by simp)
        have c4 : wr.cell? ⟨g, 4, none⟩ = some (.int .i64 p4) := hcs 4 (by simp)
        have c5 : wr.cell? ⟨g, 5, none⟩ = some (.int .i64 p5) := hcs 5 (by simp)
        have c6 : wr.cell? ⟨g, 6, none⟩ = some (.int .i64 p6) := hcs 6 (by simp)
        have c7 : wr.cell? ⟨g, 7, none⟩ = some (.int .i64 p7) := hcs 7 (by simp)
        have c8 : wr.cell? ⟨g, 8, none⟩ = some (.int .i64 p8) := hcs 8 (by simp)
        have c9 : wr.cell? ⟨g, 9, none⟩ = some (.int .i64 p9) := hcs 9 (by simp)
        have c10 : wr.cell? ⟨g, 10, none⟩ = some (.int .i64 p10) := hcs 10 (by simp)
        have c11 : wr.cell? ⟨g, 11, none⟩ = some (.int .i64 p11) := hcs 11 (by simp)
        have c12 : wr.cell? ⟨g, 12, none⟩ = some (.int .i64 p12) := hcs 12 (by simp)
        have c13 : wr.cell? ⟨g, 13, none⟩ = some (.int .i64 p13) := hcs 13 (by simp)
        have c14 : wr.cell? ⟨g, 14, none⟩ = some (.int .i64 p14) := hcs 14 (by simp)
        have c15 : wr.cell? ⟨g, 15, none⟩ = some (.int .i64 p15) := hcs 15 (by simp)
        have c16 : wr.cell? ⟨g, 16, none⟩ = some (.int .i64 p16) := hcs 16 (by simp)
        clear hcs HIO2 HIO hc1 hc2 HPL
        have HR2 : Hid (OpR s (.ok ([p0, p1, p2, p3, p4, p5, p6, p7, p8, p9, p10, p11, p12, p13, p14, p15, p16, p17].take 17))) := HPA.out _ HR.out
        clear HR HPA HWL
        have hgr : g < wr.heap.size := hgl
        go_wp2
        go_region_held3 (fun V => V.cell? ⟨g, 8, none⟩ = some (.int .i64 p8) ∧ V.cell? ⟨g, 9, none⟩ = some (.int .i64 p9) ∧ V.cell? ⟨g, 10, none⟩ = some (.int .i64 p10) ∧ V.cell? ⟨g, 11, none⟩ = some (.int .i64 p11) ∧ V.cell? ⟨g, 12, none⟩ = some (.int .i64 p12) ∧ V.cell? ⟨g, 13, none⟩ = some (.int .i64 p13) ∧ V.cell? ⟨g, 14, none⟩ = some (.int .i64 p14) ∧ V.cell? ⟨g, 15, none⟩ = some (.int .i64 p15) ∧ V.cell? ⟨g, 16, none⟩ = some (.int .i64 p16)) (go_keep) (fail)
        generalize hW8 : World.drew _ = W8
        have HO8 : Hid (W8.heap[wr.heap.size]? = some (.cells #[.int .i64 0, .int .i64 0, .int .i64 0, .int .i64 0, .int .i64 0, .int .i64 0, .int .i64 0, .int .i64 0, .int .i64 p8, .int .i64 p9, .int .i64 p10, .int .i64 p11, .int .i64 p12, .int .i64 p13, .int .i64 p14, .int .i64 p15, .int .i64 p16] 57 (0, 0))) := by
          show _ = _
          rw [← hW8]
          exact heap_alloc_new wr _
        have HB8 : Hid (Below wr.heap.size wr W8) := by
          show Below _ _ _
          rw [← hW8]
          exact ((Below.refl _ _).alloc (Nat.le_refl _) _).drew
        clear hW8
        have d0 := (HB8.out.cell (p := ⟨g, 0, none⟩) hgr).trans c0
        have d1 := (HB8.out.cell (p := ⟨g, 1, none⟩) hgr).trans c1
        have d2 := (HB8.out.cell (p := ⟨g, 2, none⟩) hgr).trans c2
        have d3 := (HB8.out.cell (p := ⟨g, 3, none⟩) hgr).trans c3
        have d4 := (HB8.out.cell (p := ⟨g, 4, none⟩) hgr).trans c4
        have d5 := (HB8.out.cell (p := ⟨g, 5, none⟩) hgr).trans c5
        have d6 := (HB8.out.cell (p := ⟨g, 6, none⟩) hgr).trans c6
        have d7 := (HB8.out.cell (p := ⟨g, 7, none⟩) hgr).trans c7
        have o8 := HO8.out
        have e2 : W8.cell? ⟨wr.heap.size, 2, none⟩ = some (.int .i64 0) := by simp only [World.cell?, o8]; rfl
        have e3 : W8.cell? ⟨wr.heap.size, 3, none⟩ = some (.int .i64 0) := by simp only [World.cell?, o8]; rfl
        have e4 : W8.cell? ⟨wr.heap.size, 4, none⟩ = some (.int .i64 0) := by simp only [World.cell?, o8]; rfl
        have e5 : W8.cell? ⟨wr.heap.size, 5, none⟩ = some (.int .i64 0) := by simp only [World.cell?, o8]; rfl
        have e6 : W8.cell? ⟨wr.heap.size, 6, none⟩ = some (.int .i64 0) := by simp only [World.cell?, o8]; rfl
        have e7 : W8.cell? ⟨wr.heap.size, 7, none⟩ = some (.int .i64 0) := by simp only [World.cell?, o8]; rfl
        have ef : ∀ j, W8.frozen? ⟨wr.heap.size, j, none⟩ = false := fun j => by simp [World.frozen?, o8]
        have ho2 : (W8.setCell ⟨wr.heap.size, 2, none⟩ (.int .i64 p2)).heap[wr.heap.size]? = some (.cells #[.int .i64 0, .int .i64 0, .int .i64 p2, .int .i64 0, .int .i64 0, .int .i64 0, .int .i64 0, .int .i64 0, .int .i64 p8, .int .i64 p9, .int .i64 p10, .int .i64 p11, .int .i64 p12, .int .i64 p13, .int .i64 p14, .int .i64 p15, .int .i64 p16] 57 (0, 0)) := heap_set HO8.out 2 _
        have ho3 : ((W8.setCell ⟨wr.heap.size, 2, none⟩ (.int .i64 p2)).setCell ⟨wr.heap.size, 3, none⟩ (.int .i64 p3)).heap[wr.heap.size]? = some (.cells #[.int .i64 0, .int .i64 0, .int .i64 p2, .int .i64 p3, .int .i64 0, .int .i64 0, .int .i64 0, .int .i64 0, .int .i64 p8, .int .i64 p9, .int .i64 p10, .int .i64 p11, .int .i64 p12, .int .i64 p13, .int .i64 p14, .int .i64 p15, .int .i64 p16] 57 (0, 0)) := heap_set ho2 3 _
        have ho4 : (((W8.setCell ⟨wr.heap.size, 2, none⟩ (.int .i64 p2)).setCell ⟨wr.heap.size, 3, none⟩ (.int .i64 p3)).setCell ⟨wr.heap.size, 4, none⟩ (.int .i64 p4)).heap[wr.heap.size]? = some (.cells #[.int .i64 0, .int .i64 0, .int .i64 p2, .int .i64 p3, .int .i64 p4, .int .i64 0, .int .i64 0, .int .i64 0, .int .i64 p8, .int .i64 p9, .int .i64 p10, .int .i64 p11, .int .i64 p12, .int .i64 p13, .int .i64 p14, .int .i64 p15, .int .i64 p16] 57 (0, 0)) := heap_set ho3 4 _
        have ho5 : ((((W8.setCell ⟨wr.heap.size, 2, none⟩ (.int .i64 p2)).setCell ⟨wr.heap.size, 3, none⟩ (.int .i64 p3)).setCell ⟨wr.heap.size, 4, none⟩ (.int .i64 p4)).setCell ⟨wr.heap.size, 5, none⟩ (.int .i64 p5)).heap[wr.heap.size]? = some (.cells #[.int .i64 0, .int .i64 0, .int .i64 p2, .int .i64 p3, .int .i64 p4, .int .i64 p5, .int .i64 0, .int .i64 0, .int .i64 p8, .int .i64 p9, .int .i64 p10, .int .i64 p11, .int .i64 p12, .int .i64 p13, .int .i64 p14, .int .i64 p15, .int .i64 p16] 57 (0, 0)) := heap_set ho4 5 _
        have ho6 : (((((W8.setCell ⟨wr.heap.size, 2, none⟩ (.int .i64 p2)).setCell ⟨wr.heap.size, 3, none⟩ (.int .i64 p3)).setCell ⟨wr.heap.size, 4, none⟩ (.int .i64 p4)).setCell ⟨wr.heap.size, 5, none⟩ (.int .i64 p5)).setCell ⟨wr.heap.size, 6, none⟩ (.int .i64 p6)).heap[wr.heap.size]? = some (.cells #[.int .i64 0, .int .i64 0, .int .i64 p2, .int .i64 p3, .int .i64 p4, .int .i64 p5, .int .i64 p6, .int .i64 0, .int .i64 p8, .int .i64 p9, .int .i64 p10, .int .i64 p11, .int .i64 p12, .int .i64 p13, .int .i64 p14, .int .i64 p15, .int .i64 p16] 57 (0, 0)) := heap_set ho5 6 _
        have ho7 : ((((((W8.setCell ⟨wr.heap.size, 2, none⟩ (.int .i64 p2)).setCell ⟨wr.heap.size, 3, none⟩ (.int .i64 p3)).setCell ⟨wr.heap.size, 4, none⟩ (.int .i64 p4)).setCell ⟨wr.heap.size, 5, none⟩ (.int .i64 p5)).setCell ⟨wr.heap.size, 6, none⟩ (.int .i64 p6)).setCell ⟨wr.heap.size, 7, none⟩ (.int .i64 p7)).heap[wr.heap.size]? = some (.cells #[.int .i64 0, .int .i64 0, .int .i64 p2, .int .i64 p3, .int .i64 p4, .int .i64 p5, .int .i64 p6, .int .i64 p7, .int .i64 p8, .int .i64 p9, .int .i64 p10, .int .i64 p11, .int .i64 p12, .int .i64 p13, .int .i64 p14, .int .i64 p15, .int .i64 p16] 57 (0, 0)) := heap_set ho6 7 _
        have HO9 : Hid _ := ho7
        have HU9 : Hid (Out (fun i => i = wr.heap.size) W8 ((((((W8.setCell ⟨wr.heap.size, 2, none⟩ (.int .i64 p2)).setCell ⟨wr.heap.size, 3, none⟩ (.int .i64 p3)).setCell ⟨wr.heap.size, 4, none⟩ (.int .i64 p4)).setCell ⟨wr.heap.size, 5, none⟩ (.int .i64 p5)).setCell ⟨wr.heap.size, 6, none⟩ (.int .i64 p6)).setCell ⟨wr.heap.size, 7, none⟩ (.int .i64 p7))) := Out.put (X := fun i => i = wr.heap.size) (Out.put (X := fun i => i = wr.heap.size) (Out.put (X := fun i => i = wr.heap.size) (Out.put (X := fun i => i = wr.heap.size) (Out.put (X := fun i => i = wr.heap.size) (Out.put (X := fun i => i = wr.heap.size) (Out.refl _ _) rfl) rfl) rfl) rfl) rfl) rfl
        clear c0 c1 c2 c3 c4 c5 c6 c7 c8 c9 c10 c11 c12 c13 c14 c15 c16 ho2 ho3 ho4 ho5 ho6 ho7 o8
        go_upto_region 23 with fail
        have g0 : ((((((W8.setCell ⟨wr.heap.size, 2, none⟩ (.int .i64 p2)).setCell ⟨wr.heap.size, 3, none⟩ (.int .i64 p3)).setCell ⟨wr.heap.size, 4, none⟩ (.int .i64 p4)).setCell ⟨wr.heap.size, 5, none⟩ (.int .i64 p5)).setCell ⟨wr.heap.size, 6, none⟩ (.int .i64 p6)).setCell ⟨wr.heap.size, 7, none⟩ (.int .i64 p7)).cell? ⟨g, 0, none⟩ = some (.int .i64 p0) := by
          have hb := HU9.out.block g (by have := HB8.out.size; omega) (by omega)
          have := d0
          simp only [World.cell?] at this ⊢
          rw [hb]
          exact this
        have g1 : ((((((W8.setCell ⟨wr.heap.size, 2, none⟩ (.int .i64 p2)).setCell ⟨wr.heap.size, 3, none⟩ (.int .i64 p3)).setCell ⟨wr.heap.size, 4, none⟩ (.int .i64 p4)).setCell ⟨wr.heap.size, 5, none⟩ (.int .i64 p5)).setCell ⟨wr.heap.size, 6, none⟩ (.int .i64 p6)).setCell ⟨wr.heap.size, 7, none⟩ (.int .i64 p7)).cell? ⟨g, 1, none⟩ = some (.int .i64 p1) := by
          have hb := HU9.out.block g (by have := HB8.out.size; omega) (by omega)
          have := d1
          simp only [World.cell?] at this ⊢
          rw [hb]
          exact this
        have HX9 : Hid (((((((W8.setCell ⟨wr.heap.size, 2, none⟩ (.int .i64 p2)).setCell ⟨wr.heap.size, 3, none⟩ (.int .i64 p3)).setCell ⟨wr.heap.size, 4, none⟩ (.int .i64 p4)).setCell ⟨wr.heap.size, 5, none⟩ (.int .i64 p5)).setCell ⟨wr.heap.size, 6, none⟩ (.int .i64 p6)).setCell ⟨wr.heap.size, 7, none⟩ (.int .i64 p7)).heap[w.heap.size]? = some (.cells #[.int .i64 0, .int .i64 0, .int .i64 0, .int .i64 0, .int .i64 0, .int .i64 0, .int .i64 0, .int .i64 0, .int .i64 0, .int .i64 0, .int .i64 0, .int .i64 0, .int .i64 0, .int .i64 0, .int .i64 0, .int .i64 0, .int .i64 0, .int .i64 0, .int .i64 0] 59 (0, 0))) := (HU9.out.block _ (by have := HB8.out.size; omega) (by omega)).trans ((HB8.out.block _ (by omega)).trans HXr.out.1)
        have HW9 : Hid (Below w.heap.size w ((((((W8.setCell ⟨wr.heap.size, 2, none⟩ (.int .i64 p2)).setCell ⟨wr.heap.size, 3, none⟩ (.int .i64 p3)).setCell ⟨wr.heap.size, 4, none⟩ (.int .i64 p4)).setCell ⟨wr.heap.size, 5, none⟩ (.int .i64 p5)).setCell ⟨wr.heap.size, 6, none⟩ (.int .i64 p6)).setCell ⟨wr.heap.size, 7, none⟩ (.int .i64 p7))) := HXr.out.2.trans ((HB8.out.trans (HU9.out.below HB8.out.size (by intro i hi; omega))).mono (by omega))
        clear d0 d1 d2 d3 d4 d5 d6 d7 e2 e3 e4 e5 e6 e7 ef HU9 HO8 HB8
        generalize ((((((W8.setCell ⟨wr.heap.size, 2, none⟩ (.int .i64 p2)).setCell ⟨wr.heap.size, 3, none⟩ (.int .i64 p3)).setCell ⟨wr.heap.size, 4, none⟩ (.int .i64 p4)).setCell ⟨wr.heap.size, 5, none⟩ (.int .i64 p5)).setCell ⟨wr.heap.size, 6, none⟩ (.int .i64 p6)).setCell ⟨wr.heap.size, 7, none⟩ (.int .i64 p7)) = W9 at *
        refine wp_region_held_drew (S := fun V => V.cell? ⟨g, 0, none⟩ = some (.int .i64 p0) ∧ V.cell? ⟨g, 1, none⟩ = some (.int .i64 p1) ∧ V.heap[wr.heap.size]? = some (.cells #[.int .i64 0, .int .i64 0, .int .i64 p2, .int .i64 p3, .int .i64 p4, .int .i64 p5, .int .i64 p6, .int .i64 p7, .int .i64 p8, .int .i64 p9, .int .i64 p10, .int .i64 p11, .int .i64 p12, .int .i64 p13, .int .i64 p14, .int .i64 p15, .int .i64 p16] 57 (0, 0))) (by kernel_rfl) ⟨g0, g1, HO9.out⟩ (fun hHeld => ?_)
        refine wpAnyH_take (i := 0) (oi := { dst := some 119, op := Op.move (Operand.tmp 6), type := 134, pos := "text.go:354", after := #[], guard := none }) (v := .slice (some ⟨g, 0, none⟩) 18 vlc) rfl (by kernel_rfl) (by kernel_rfl) (by kernel_rfl) (fun _ _ _ h => h) (Or.inl ⟨by rfl, ?h0⟩) hHeld ?_
        case h0 => intro w hSw; (try dsimp only at hSw); kernel_rfl
        try simp only [Act.put, List.setIfInBounds_toArray, List.set_cons_zero, List.set_cons_succ]
        refine wpAnyH_take (i := 1) (oi := { dst := some 120, op := Op.indexAddr 134 (Operand.tmp 119) (Operand.const (Value.int IntKind.i64 0)), type := 0, pos := "text.go:354", after := #[{ on := 0, ground := Ground.data }], guard := none }) (v := .pointer (some ⟨g, 0, none⟩)) rfl (by kernel_rfl) (by kernel_rfl) (by kernel_rfl) (fun _ _ _ h => h) (Or.inl ⟨by rfl, ?h1⟩) hHeld ?_
        case h1 => intro w hSw; (try dsimp only at hSw); kernel_rfl
        try simp only [Act.put, List.setIfInBounds_toArray, List.set_cons_zero, List.set_cons_succ]
        refine wpAnyH_take (i := 2) (oi := { dst := some 121, op := Op.load 3 (Operand.tmp 120), type := 3, pos := "text.go:354", after := #[{ on := 1, ground := Ground.data }], guard := none }) (v := .int .i64 p0) rfl (by kernel_rfl) (by kernel_rfl) (by kernel_rfl) (fun _ _ _ h => h) (Or.inl ⟨by rfl, ?h2⟩) hHeld ?_
        case h2 => intro w hSw; (try dsimp only at hSw); obtain ⟨s0, s1, s2⟩ := hSw; go_simp; try with_reducible rfl
        try simp only [Act.put, List.setIfInBounds_toArray, List.set_cons_zero, List.set_cons_succ]
        refine wpAnyH_take (i := 3) (oi := { dst := some 122, op := Op.move (Operand.tmp 6), type := 134, pos := "text.go:354", after := #[], guard := none }) (v := .slice (some ⟨g, 0, none⟩) 18 vlc) rfl (by kernel_rfl) (by kernel_rfl) (by kernel_rfl) (fun _ _ _ h => h) (Or.inl ⟨by rfl, ?h3⟩) hHeld ?_
        case h3 => intro w hSw; (try dsimp only at hSw); kernel_rfl
        try simp only [Act.put, List.setIfInBounds_toArray, List.set_cons_zero, List.set_cons_succ]
        refine wpAnyH_take (i := 4) (oi := { dst := some 123, op := Op.indexAddr 134 (Operand.tmp 122) (Operand.const (Value.int IntKind.i64 1)), type := 0, pos := "text.go:354", after := #[{ on := 3, ground := Ground.data }], guard := none }) (v := .pointer (some ⟨g, 1, none⟩)) rfl (by kernel_rfl) (by kernel_rfl) (by kernel_rfl) (fun _ _ _ h => h) (Or.inl ⟨by rfl, ?h4⟩) hHeld ?_
        case h4 => intro w hSw; (try dsimp only at hSw); kernel_rfl
        try simp only [Act.put, List.setIfInBounds_toArray, List.set_cons_zero, List.set_cons_succ]
        refine wpAnyH_take (i := 5) (oi := { dst := some 124, op := Op.load 3 (Operand.tmp 123), type := 3, pos := "text.go:354", after := #[{ on := 4, ground := Ground.data }], guard := none }) (v := .int .i64 p1) rfl (by kernel_rfl) (by kernel_rfl) (by kernel_rfl) (fun _ _ _ h => h) (Or.inl ⟨by rfl, ?h5⟩) hHeld ?_
        case h5 => intro w hSw; (try dsimp only at hSw); obtain ⟨s0, s1, s2⟩ := hSw; go_simp; try with_reducible rfl
        try simp only [Act.put, List.setIfInBounds_toArray, List.set_cons_zero, List.set_cons_succ]
        refine wpAnyH_take (i := 6) (oi := { dst := some 125, op := Op.load 57 (Operand.tmp 10), type := 57, pos := "text.go:354", after := #[], guard := none }) (v := .agg #[.int .i64 0, .int .i64 0, .int .i64 p2, .int .i64 p3, .int .i64 p4, .int .i64 p5, .int .i64 p6, .int .i64 p7, .int .i64 p8, .int .i64 p9, .int .i64 p10, .int .i64 p11, .int .i64 p12, .int .i64 p13, .int .i64 p14, .int .i64 p15, .int .i64 p16]) rfl (by kernel_rfl) (by kernel_rfl) (by kernel_rfl) (fun _ _ _ h => h) (Or.inl ⟨by rfl, ?h6⟩) hHeld ?_
        case h6 => intro w hSw; (try dsimp only at hSw); exact load_row rfl (by kernel_rfl) (run_loadVar_row (P := Tryz.prog) _ wr.heap.size 57 57 _ (0, 0) _ hSw.2.2 Tryz.underlying57 rfl (by kernel_rfl))
        try simp only [Act.put, List.setIfInBounds_toArray, List.set_cons_zero, List.set_cons_succ]
        refine wpAnyH_take (i := 7) (oi := { dst := some 126, op := Op.build 59 #[(0, Operand.tmp 121), (1, Operand.tmp 124), (2, Operand.tmp 125)], type := 59, pos := "text.go:354", after := #[{ on := 2, ground := Ground.data }, { on := 5, ground := Ground.data }, { on := 6, ground := Ground.data }], guard := none }) (v := .agg #[.int .i64 p0, .int .i64 p1, .int .i64 0, .int .i64 0, .int .i64 p2, .int .i64 p3, .int .i64 p4, .int .i64 p5, .int .i64 p6, .int .i64 p7, .int .i64 p8, .int .i64 p9, .int .i64 p10, .int .i64 p11, .int .i64 p12, .int .i64 p13, .int .i64 p14, .int .i64 p15, .int .i64 p16]) rfl (by kernel_rfl) (by kernel_rfl) (by kernel_rfl) (fun _ _ _ h => h) (Or.inl ⟨by rfl, ?h7⟩) hHeld ?_
        case h7 => intro w hSw; (try dsimp only at hSw); kernel_rfl
        try simp only [Act.put, List.setIfInBounds_toArray, List.set_cons_zero, List.set_cons_succ]
        refine wpAnyH_ready (rs := [8]) (by kernel_rfl) (by simp) ?_
        refine AllReadyH.cons (o := { dst := none, op := Op.store 59 (Operand.tmp 2) (Operand.tmp 126), type := 0, pos := "text.go:354", after := #[{ on := 7, ground := Ground.data }, { on := 0, ground := Ground.phase }, { on := 1, ground := Ground.phase }, { on := 2, ground := Ground.phase }, { on := 3, ground := Ground.phase }, { on := 4, ground := Ground.phase }, { on := 5, ground := Ground.phase }, { on := 6, ground := Ground.phase }, { on := 7, ground := Ground.phase }], guard := none }) rfl (fun KK hK => ?_) ?_
        · rw [if_pos (by kernel_rfl)]
          refine wp_store_row 59 _ _ rfl w.heap.size #[.int .i64 p0, .int .i64 p1, .int .i64 0, .int .i64 0, .int .i64 p2, .int .i64 p3, .int .i64 p4, .int .i64 p5, .int .i64 p6, .int .i64 p7, .int .i64 p8, .int .i64 p9, .int .i64 p10, .int .i64 p11, .int .i64 p12, .int .i64 p13, .int .i64 p14, .int .i64 p15, .int .i64 p16] (by kernel_rfl) (by kernel_rfl) 59 _ HX9.out (by kernel_rfl) rfl (by kernel_rfl) ?_
          refine hK.out _ _ ?_ (fun hHeld => ?_)
          · refine ⟨?_, ?_, ?_⟩
            · have := g0
              simp only [World.cell?] at this ⊢
              rw [setRow_other _ _ _ _ (by omega)]
              exact this
            · have := g1
              simp only [World.cell?] at this ⊢
              rw [setRow_other _ _ _ _ (by omega)]
              exact this
            · rw [setRow_other _ _ _ _ (by omega)]
              exact HO9.out
          · clear hK
            refine wpAnyH_take (i := 9) (oi := { dst := some 3, op := Op.assign (Operand.const (Value.int IntKind.i64 0)), type := 3, pos := "text.go:354", after := #[{ on := 8, ground := Ground.chain }, { on := 0, ground := Ground.phase }, { on := 1, ground := Ground.phase }, { on := 2, ground := Ground.phase }, { on := 3, ground := Ground.phase }, { on := 4, ground := Ground.phase }, { on := 5, ground := Ground.phase }, { on := 6, ground := Ground.phase }, { on := 7, ground := Ground.phase }, { on := 8, ground := Ground.phase }], guard := none }) (v := .int .i64 0) rfl (by kernel_rfl) (by kernel_rfl) (by kernel_rfl) (fun _ _ _ h => h) (Or.inl ⟨by rfl, ?h9⟩) hHeld ?_
            case h9 => intro w hSw; (try dsimp only at hSw); kernel_rfl
            try simp only [Act.put, List.setIfInBounds_toArray, List.set_cons_zero, List.set_cons_succ]
            refine wpAnyH_done (by kernel_rfl) ?_ _
            go_wp2
            refine bodyPost_ret (results_Oc rfl _ _ w.heap.size rfl rfl (setRow_heap _ _ _ _ _ _ (show W9.drew.heap[w.heap.size]? = _ from HX9.out)) rfl) rfl ?_
            refine ⟨⟨_, HR2.out, ?_⟩, below_setRow HW9.out.drew (Nat.le_refl _) _⟩
            show _ = Ending.returned (.tuple #[.agg (intsV (optsOf _)), _])
            rw [HRV.out]
            rfl
        exact AllReadyH.nil
end Go.Proofs.YtbckogojnjmjcaaGreatDoor
