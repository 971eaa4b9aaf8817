/-
  follow: whether a task may be the next one, and where the search stands then.
-/
import Derived.Test.YtbcnpdpdflkanaaAn
namespace Go.Proofs.Ytbcnpdpdflkanaa
open Go.RowKit

/-- Where a search stands, as a value. -/
def spV (d : Nat) (th : Bool) (v : Bs) : Value := .agg #[.int .u64 d, .bool th, str v]
/-- May it be the next one? By masks. -/
def folB (t : Tk) (d : Nat) (th : Bool) (v : Bs) : Bool := decide (d &&& t.bit = 0) && (decide (t.ah &&& (18446744073709551615 - d) = 0) && okB th v t.op)

theorem cells3 {w : World} {b : Nat} {t : TypeId} {v0 v1 v2 : Value} (h : w.heap[b]? = some (.cells #[v0, v1, v2] t (0, 0))) : (w.cell? ⟨b, 0, none⟩ = some v0 ∧ w.cell? ⟨b, 1, none⟩ = some v1 ∧ w.cell? ⟨b, 2, none⟩ = some v2) ∧ ∀ o, w.frozen? ⟨b, o, none⟩ = false := by
  refine ⟨⟨?_, ?_, ?_⟩, fun o => by simp [World.frozen?, h]⟩
  all_goals (simp only [World.cell?, h]; rfl)
theorem results_F {fn : Func} {b c : Tmp} (h : fn.results = #[.cell c 73, .tmp b]) (tmps : Array Value) (w : World) (B : Nat) {x0 x1 x2 yb : Value} (hc : tmps.getD c undef = .pointer (some ⟨B, 0, none⟩)) (hb : tmps.getD b undef = yb) (hB : w.heap[B]? = some (.cells #[x0, x1, x2] 73 (0, 0))) :
    (results fn tmps).run Try.prog w = .ok (.tuple #[.agg #[x0, x1, x2], yb]) w := by
  obtain ⟨⟨c0, c1, c2⟩, -⟩ := cells3 hB
  have hc' : tmps[c]?.getD undef = .pointer (some ⟨B, 0, none⟩) := by rw [← Array.getD_eq_getD_getElem?]; exact hc
  have hb' : tmps[b]?.getD undef = yb := by rw [← Array.getD_eq_getD_getElem?]; exact hb
  simp [results, h, hb', hc', asAddr, loadVar, c0, c1, c2, go_sem]
theorem below3 (w : World) (o1 o2 o3 : Obj) : Below w.heap.size w (((w.alloc o1).alloc o2).alloc o3) := (((Below.refl _ w).alloc (Nat.le_refl _) _).alloc (by simp) _).alloc (by simp; omega) _
theorem heap3 (w : World) (o1 o2 o3 : Obj) : (((w.alloc o1).alloc o2).alloc o3).heap[w.heap.size + 2]? = some o3 := by have := heap_alloc_new ((w.alloc o1).alloc o2) o3; simpa using this

theorem past2 {w1 : World} {b : Nat} (hb : b < w1.heap.size) : (∀ (o : Obj) (j : Nat), (w1.alloc o).cell? ⟨b, j, none⟩ = w1.cell? ⟨b, j, none⟩) ∧ (∀ (o o' : Obj) (j : Nat), ((w1.alloc o).alloc o').cell? ⟨b, j, none⟩ = w1.cell? ⟨b, j, none⟩) ∧ (∀ (o o' : Obj) (j : Nat), ((w1.alloc o).alloc o').frozen? ⟨b, j, none⟩ = w1.frozen? ⟨b, j, none⟩) :=
  ⟨fun o j => ((Below.refl _ w1).alloc (Nat.le_refl _) o).cell (p := ⟨b, j, none⟩) hb, fun o o' j => (below2 w1 o o').cell (p := ⟨b, j, none⟩) hb, fun o o' j => (below2 w1 o o').frozen (p := ⟨b, j, none⟩) hb⟩
theorem past1 {w1 : World} {b : Nat} (hb : b < w1.heap.size) : ∀ (o : Obj) (j : Nat), (w1.alloc o).cell? ⟨b, j, none⟩ = w1.cell? ⟨b, j, none⟩ := (past2 hb).1
theorem fol_facts {w w1 : World} {t : Tk} {a0 a1 a2 b0 b1 b2 : Value} (h : Below (w.heap.size + 3) (((w.alloc (.cells t.cells.toArray 77)).alloc (.cells #[a0, a1, a2] 73)).alloc (.cells #[b0, b1, b2] 73)) w1) :
    ((w1.cell? ⟨w.heap.size, 0, none⟩ = some (.int .i64 t.op.cl) ∧ w1.cell? ⟨w.heap.size, 1, none⟩ = some (.int .i64 t.op.sq) ∧ w1.cell? ⟨w.heap.size, 2, none⟩ = some (.int .i64 t.op.kind) ∧ w1.cell? ⟨w.heap.size, 3, none⟩ = some (str t.op.key) ∧ w1.cell? ⟨w.heap.size, 4, none⟩ = some (str t.op.val) ∧ w1.cell? ⟨w.heap.size, 5, none⟩ = some (str t.op.old) ∧
    w1.cell? ⟨w.heap.size, 6, none⟩ = some (.int .i64 t.op.call) ∧ w1.cell? ⟨w.heap.size, 7, none⟩ = some (.int .i64 t.op.back) ∧ w1.cell? ⟨w.heap.size, 8, none⟩ = some (.int .i64 t.op.rp.code) ∧ w1.cell? ⟨w.heap.size, 9, none⟩ = some (str t.op.rp.val)) ∧ w1.cell? ⟨w.heap.size, 10, none⟩ = some (.int .i64 t.num) ∧ w1.cell? ⟨w.heap.size, 11, none⟩ = some (.int .u64 t.bit) ∧ w1.cell? ⟨w.heap.size, 12, none⟩ = some (.int .u64 t.ah)) ∧
    (w1.cell? ⟨w.heap.size + 1, 0, none⟩ = some a0 ∧ w1.cell? ⟨w.heap.size + 1, 1, none⟩ = some a1 ∧ w1.cell? ⟨w.heap.size + 1, 2, none⟩ = some a2) ∧
    ((w1.cell? ⟨w.heap.size + 1 + 1, 0, none⟩ = some b0 ∧ w1.cell? ⟨w.heap.size + 1 + 1, 1, none⟩ = some b1 ∧ w1.cell? ⟨w.heap.size + 1 + 1, 2, none⟩ = some b2) ∧ ∀ o, w1.frozen? ⟨w.heap.size + 1 + 1, o, none⟩ = false) ∧ w.heap.size + 3 ≤ w1.heap.size ∧
    w1.heap[w.heap.size + 2]? = some (.cells #[b0, b1, b2] 73 (0, 0)) ∧ Below w.heap.size w w1 := by
  have h0 : w1.heap[w.heap.size]? = some (.cells t.cells.toArray 77) := by
    rw [h.block _ (by omega), Below.heap_alloc _ _ _ (by simp; omega), Below.heap_alloc _ _ _ (by simp)]; exact heap_alloc_new _ _
  have h1 : w1.heap[w.heap.size + 1]? = some (.cells #[a0, a1, a2] 73 (0, 0)) := by
    rw [h.block _ (by omega), Below.heap_alloc _ _ _ (by simp)]; exact heap2 _ _ _
  have h2 : w1.heap[w.heap.size + 2]? = some (.cells #[b0, b1, b2] 73 (0, 0)) := by
    rw [h.block _ (by omega)]; exact heap3 _ _ _ _
  have hs := h.size
  simp only [World.size_alloc] at hs
  exact ⟨opAt_tk h0, (cells3 h1).1, cells3 h2, by omega, h2, (below3 w _ _ _).trans (h.mono (by omega))⟩

set_option maxRecDepth 100000 in
set_option maxHeartbeats 2000000 in
theorem follow_any (t : Tk) (d : Nat) (th : Bool) (v : Bs) (w : World) (hd : d < 4096) (hb : t.bit ≤ 4096) (ha : t.ah < 4096) :
    Calls Try.prog 39 #[t.v, spV d th v] w fun e w' => e = .returned (.tuple #[if folB t d th v then spV (d ||| t.bit) (step th v t.op).1 (step th v t.op).2.1 else spV 0 false [], .bool (folB t d th v)]) ∧ Below w.heap.size w w' := by
  have HS := step_any th v t.op
  have HO := open_any t.op
  obtain ⟨x, nm, bm, ah⟩ := t
  dsimp only at *
  have hand : bits .and .u64 (d : Int) (bm : Int) = ((d &&& bm : Nat) : Int) := u64_and_nat _ _ (by omega) (by omega)
  have hnot : bits .andNot .u64 (ah : Int) (d : Int) = ((ah &&& (18446744073709551615 - d) : Nat) : Int) := u64_andNot_nat _ _ (by omega) (by omega)
  have hor : bits .or .u64 (d : Int) (bm : Int) = ((d ||| bm : Nat) : Int) := u64_or_nat _ _ (by omega) (by omega)
  unfold folB
  dsimp only
  by_cases h1 : d &&& bm = 0
  · have e1 : (((d &&& bm : Nat) : Int) != 0) = false := by simp [h1]
    by_cases h2 : ah &&& (18446744073709551615 - d) = 0
    · have e2 : (((ah &&& (18446744073709551615 - d) : Nat) : Int) != 0) = false := by simp [h2]
      simp only [h1, h2, decide_true, Bool.true_and]
      rw [h1] at hand
      rw [h2] at hnot
      unfold okB
      generalize hst : step th v x = r at *
      obtain ⟨r1, r2, r3, r4⟩ := r
      dsimp only at *
      unfold Tk.v Lo.v Lo.box Lo.cells stV Rp.v spV at *
      dsimp only at *
      simp only [str] at *
      have HF : Hid (∀ w1, Below (w.heap.size + 3) (((w.alloc (.cells (⟨x, nm, bm, ah⟩ : Tk).cells.toArray 77)).alloc (.cells #[.int .u64 d, .bool th, str v] 73)).alloc (.cells #[.int .u64 0, .bool false, str []] 73)) w1 → _) := fun w1 h => fol_facts h
      clear h1 h2 e1 e2
      unfold Tk.cells str at HF
      dsimp only at HF
      by_cases hop : x.back = 0
      · have e0 : decide (x.back = 0) = true := by simpa using hop
        rw [e0] at HO
        simp only [e0, Bool.true_or, if_true]
        clear hop
        go_enter Try.func39, Try.ntmps39
        go_wp2_with (first
          | (go_at_call 24; refine (HS _).mono ?_; rintro e w1 ⟨rfl, hB1⟩; obtain ⟨⟨⟨d0, d1, d2, d3, d4, d5, d6, d7, d8, d9⟩, d10, d11, d12⟩, ⟨u0, u1, u2⟩, ⟨⟨y0, y1, y2⟩, yf⟩, hz1, hH, hBB⟩ := HF.out w1 (by simpa using hB1); have HH : Hid (w1.heap[w.heap.size + 2]? = _) := hH; have HBB : Hid (Below w.heap.size w w1) := hBB; clear hB1 hH hBB; have qa := past2 (show w.heap.size < w1.heap.size by omega); have qb := past2 (show w.heap.size + 1 < w1.heap.size by omega); have qc := past2 (show w.heap.size + 1 + 1 < w1.heap.size by omega); obtain ⟨qa1, qa2, -⟩ := qa; obtain ⟨qb1, qb2, -⟩ := qb; obtain ⟨qc1, qc2, qc3⟩ := qc)
          | (go_at_call 33; refine (HO _).mono ?_; rintro e w2 ⟨rfl, rfl⟩))
        have hh := fun o o' : Obj => ((below2 w1 o o').block (w.heap.size + 2) (by omega)).trans HH.out
        exact bodyPost_ret (results_F rfl _ _ (w.heap.size + 1 + 1) rfl rfl (heap_set (heap_set (heap_set (hh _ _) 0 _) 1 _) 2 _)) rfl ⟨rfl, (((HBB.out.trans ((below2 w1 _ _).mono (by omega))).setCell (p := ⟨w.heap.size + 1 + 1, 0, none⟩) (by simp; omega) _).setCell (p := ⟨w.heap.size + 1 + 1, 1, none⟩) (by simp; omega) _).setCell (p := ⟨w.heap.size + 1 + 1, 2, none⟩) (by simp; omega) _⟩
      · have e0 : decide (x.back = 0) = false := by simpa using hop
        rw [e0] at HO
        simp only [e0, Bool.false_or]
        clear hop
        by_cases hr : (⟨r3, r4⟩ : Rp) = x.rp
        · have hr3 : x.rp.code = r3 := by rw [← hr]
          have hr4 : x.rp.val = r4 := by rw [← hr]
          simp only [hr, decide_true, if_true]
          rw [hr3, hr4] at HO HF HS ⊢
          clear hr hr3 hr4 hst
          go_enter Try.func39, Try.ntmps39
          go_wp2_with (first
            | (go_at_call 24; refine (HS _).mono ?_; rintro e w1 ⟨rfl, hB1⟩; obtain ⟨⟨⟨d0, d1, d2, d3, d4, d5, d6, d7, d8, d9⟩, d10, d11, d12⟩, ⟨u0, u1, u2⟩, ⟨⟨y0, y1, y2⟩, yf⟩, hz1, hH, hBB⟩ := HF.out w1 (by simpa using hB1); have HH : Hid (w1.heap[w.heap.size + 2]? = _) := hH; have HBB : Hid (Below w.heap.size w w1) := hBB; clear hB1 hH hBB; have qa := past2 (show w.heap.size < w1.heap.size by omega); have qb := past2 (show w.heap.size + 1 < w1.heap.size by omega); have qc := past2 (show w.heap.size + 1 + 1 < w1.heap.size by omega); obtain ⟨qa1, qa2, -⟩ := qa; obtain ⟨qb1, qb2, -⟩ := qb; obtain ⟨qc1, qc2, qc3⟩ := qc)
            | (go_at_call 33; refine (HO _).mono ?_; rintro e w2 ⟨rfl, rfl⟩))
          have hh := fun o o' : Obj => ((below2 w1 o o').block (w.heap.size + 2) (by omega)).trans HH.out
          exact bodyPost_ret (results_F rfl _ _ (w.heap.size + 1 + 1) rfl rfl (heap_set (heap_set (heap_set (hh _ _) 0 _) 1 _) 2 _)) rfl ⟨rfl, (((HBB.out.trans ((below2 w1 _ _).mono (by omega))).setCell (p := ⟨w.heap.size + 1 + 1, 0, none⟩) (by simp; omega) _).setCell (p := ⟨w.heap.size + 1 + 1, 1, none⟩) (by simp; omega) _).setCell (p := ⟨w.heap.size + 1 + 1, 2, none⟩) (by simp; omega) _⟩
        · simp only [hr, decide_false]
          have HR : Hid (¬ (⟨r3, r4⟩ : Rp) = x.rp) := hr
          clear hr hst
          go_enter Try.func39, Try.ntmps39
          go_wp2_with (first
            | (go_at_call 24; refine (HS _).mono ?_; rintro e w1 ⟨rfl, hB1⟩; obtain ⟨⟨⟨d0, d1, d2, d3, d4, d5, d6, d7, d8, d9⟩, d10, d11, d12⟩, ⟨u0, u1, u2⟩, ⟨⟨y0, y1, y2⟩, yf⟩, hz1, hH, hBB⟩ := HF.out w1 (by simpa using hB1); have HH : Hid (w1.heap[w.heap.size + 2]? = _) := hH; have HBB : Hid (Below w.heap.size w w1) := hBB; clear hB1 hH hBB; have qa := past2 (show w.heap.size < w1.heap.size by omega); have qb := past2 (show w.heap.size + 1 < w1.heap.size by omega); have qc := past2 (show w.heap.size + 1 + 1 < w1.heap.size by omega); obtain ⟨qa1, qa2, -⟩ := qa; obtain ⟨qb1, qb2, -⟩ := qb; obtain ⟨qc1, qc2, qc3⟩ := qc)
            | (go_at_call 33; refine (HO _).mono ?_; rintro e w2 ⟨rfl, rfl⟩))
          all_goals (first
            | (exfalso; apply HR.out; clear HF HS HO HH HBB; simp_all; done)
            | (have hh := fun o o' : Obj => ((below2 w1 o o').block (w.heap.size + 2) (by omega)).trans HH.out
               exact bodyPost_ret (results_F rfl _ _ (w.heap.size + 1 + 1) rfl rfl (heap_set (heap_set (heap_set (hh _ _) 0 _) 1 _) 2 _)) rfl ⟨rfl, (((HBB.out.trans ((below2 w1 _ _).mono (by omega))).setCell (p := ⟨w.heap.size + 1 + 1, 0, none⟩) (by simp; omega) _).setCell (p := ⟨w.heap.size + 1 + 1, 1, none⟩) (by simp; omega) _).setCell (p := ⟨w.heap.size + 1 + 1, 2, none⟩) (by simp; omega) _⟩))
    · have e2 : (((ah &&& (18446744073709551615 - d) : Nat) : Int) != 0) = true := by simp [h2]
      simp only [h1, h2, decide_true, decide_false, Bool.true_and, Bool.false_and]
      unfold Tk.v spV
      simp only [str]
      clear HS HO h2
      generalize (ah &&& (18446744073709551615 - d)) = q at *
      go_enter Try.func39, Try.ntmps39
      go_wp2
      exact bodyPost_ret (results_F rfl _ _ (w.heap.size + 1 + 1) rfl rfl (heap3 _ _ _ _)) rfl ⟨rfl, below3 _ _ _ _⟩
  · have e1 : (((d &&& bm : Nat) : Int) != 0) = true := by simp [h1]
    simp only [h1, decide_false, Bool.false_and]
    unfold Tk.v spV
    simp only [str]
    clear HS HO h1
    generalize (d &&& bm) = q at *
    go_enter Try.func39, Try.ntmps39
    go_wp2
    exact bodyPost_ret (results_F rfl _ _ (w.heap.size + 1 + 1) rfl rfl (heap3 _ _ _ _)) rfl ⟨rfl, below3 _ _ _ _⟩
end Go.Proofs.Ytbcnpdpdflkanaa
