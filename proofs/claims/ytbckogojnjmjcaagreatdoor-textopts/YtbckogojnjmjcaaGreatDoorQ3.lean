/-
  The options of a line.
-/
import Derived.Test.YtbckogojnjmjcaaGreatDoorQ1
import Derived.Laws.Rows
import Derived.Laws.ResultCell
import Derived.Laws.Tables
import Derived.Laws.CopyOwn
import Derived.Deep.DeepCutAuto
import Derived.Great.Walk
import Derived.Great.BuildSlice
namespace Go.Proofs.YtbckogojnjmjcaaGreatDoor
open Go.RowKit Go.Shelf

theorem results_Ob {fn : Func} {t t2 : Tmp} (h : fn.results = #[.cell t 52, .tmp t2]) (tmps : Array Value) (w : World) (B : Nat) {cs : Array Value} {y : Value} (ht : tmps.getD t undef = .pointer (some ⟨B, 0, none⟩)) (hy : tmps.getD t2 undef = y) (hb : w.heap[B]? = some (.cells cs 52 (0, 0))) (hs : cs.size = 19) :
    (results fn tmps).run Tryz.prog w = .ok (.tuple #[.agg cs, y]) w := by
  have hl := run_loadVar_row (P := Tryz.prog) w B 52 52 cs (0, 0) _ hb Tryz.underlying52 rfl (by rw [hs]; kernel_rfl)
  rw [results_cell_tmp h, ht, hy]
  simp only [asAddr, Sem.run_pure, Result.andThen_ok, hl]
theorem load_row {P : Program} {o : Oper} {a : Act} {w : World} {t : TypeId} {x : Operand} {b : Nat} {v : Value} (ho : o.op = .load t x) (hx : a.eval x = .pointer (some ⟨b, 0, none⟩)) (h : (loadVar t ⟨b, 0, none⟩).run P w = .ok v w) : (execOp a.eval o).run P w = .ok (.value v) w := by
  unfold execOp
  simp only [ho, hx, Instr.loadAt, Instr.sureAddr, Sem.run_bind, Sem.run_pure, Result.andThen_ok, h]
theorem intsV_size (l : List Int) : (intsV l).size = l.length := by unfold intsV; simp
theorem intsV_one (l : List Int) : (intsV l).all (·.oneCell') = true := by
  unfold intsV
  rw [Array.all_eq_true_iff_forall_mem]
  intro v hv
  obtain ⟨n, _, rfl⟩ := List.mem_map.1 (by simpa using hv)
  rfl
def fillO : List Nat → List Int → List Int → List Int
  | o :: os, n :: ns, l => fillO os ns (l.set o n)
  | _, _, l => l
theorem fillO_len (os : List Nat) (ns l : List Int) : (fillO os ns l).length = l.length := by
  induction os generalizing ns l with
  | nil => cases ns <;> rfl
  | cons o os ih => cases ns with
    | nil => rfl
    | cons n ns => rw [fillO, ih]; simp
theorem fillO_snoc (os : List Nat) (ns : List Int) (n : Int) (l : List Int) (h : ns.length < os.length) : fillO os (ns ++ [n]) l = (fillO os ns l).set (os.getD ns.length 0) n := by
  induction os generalizing ns l with
  | nil => simp at h
  | cons o os ih =>
    cases ns with
    | nil => cases os <;> rfl
    | cons m ns =>
      rw [List.cons_append, fillO, fillO, ih ns (l.set o m) (by simpa using h)]
      rfl
def optsOf (ns : List Int) : List Int := fillO offs ns zeros
theorem optsOf_len (ns : List Int) : (optsOf ns).length = 19 := by unfold optsOf; rw [fillO_len]; rfl
def PoE : Except Nat (List Int) → Ending
  | .ok ns => .returned (.tuple #[.agg (intsV (optsOf ns)), .int .i64 0])
  | .error k => .returned (.tuple #[.agg (intsV zeros), .int .i64 (k : Int)])
def PoX (s : Bs) (e : Ending) : Prop := ∃ r, OpR s r ∧ e = PoE r
theorem nums_step {ss : List Bs} {k : Nat} {s : Bs} (hs : ss[k]? = some s) : nums (ss.drop k) = match numOf s with | none => .error 22 | some n => match nums (ss.drop (k + 1)) with | .error e => .error e | .ok l => .ok (n :: l) := by
  obtain ⟨h1, h2⟩ := List.getElem?_eq_some_iff.1 hs
  rw [List.drop_eq_getElem_cons h1, h2, nums]
  rfl
/-- What was read so far, and what is left. -/
def NumsTo (ss : List Bs) (pre : List Int) : Prop := nums ss = match nums (ss.drop pre.length) with | .error e => .error e | .ok l => .ok (pre ++ l)
theorem nums_err22 {ss : List Bs} {e : Nat} (h : nums ss = .error e) : e = 22 := by
  induction ss with
  | nil => cases h
  | cons s ss ih =>
    simp only [nums] at h
    split at h
    · cases h; rfl
    · split at h
      · rename_i hh; cases h; exact ih hh
      · cases h
theorem NumsTo.next {ss : List Bs} {pre : List Int} {s : Bs} {n : Int} (h : NumsTo ss pre) (hs : ss[pre.length]? = some s) (hn : numOf s = some n) : NumsTo ss (pre ++ [n]) := by
  unfold NumsTo at *
  rw [h, nums_step hs, hn, List.length_append]
  simp only [List.length_cons, List.length_nil]
  cases nums (ss.drop (pre.length + 1)) with
  | error e => rfl
  | ok l => simp
theorem NumsTo.bad {ss : List Bs} {pre : List Int} {s : Bs} (h : NumsTo ss pre) (hs : ss[pre.length]? = some s) (hn : numOf s = none) : nums ss = .error 22 := by
  unfold NumsTo at h
  rw [h, nums_step hs, hn]
theorem NumsTo.all {ss : List Bs} {pre : List Int} (h : NumsTo ss pre) (hl : pre.length = ss.length) : nums ss = .ok pre := by
  unfold NumsTo at h
  rw [h, hl, List.drop_of_length_le (Nat.le_refl _)]
  simp [nums]
set_option maxRecDepth 100000 in
set_option maxHeartbeats 8000000 in
theorem parseOpts_any (s : Bs) (hl : s.length ≤ 1000000) (w : World) (hv : Vars w) : Calls Tryz.prog 20 #[str s] w fun e w' => PoX s e ∧ Below w.heap.size w w' := by
  have HB0 : Hid (Below w.heap.size w (w.alloc (.cells #[.int .i64 0, .int .i64 0, .int .i64 0, .int .i64 0, .int .i64 0, .int .i64 0, .int .i64 0, .int .i64 0, .int .i64 0, .int .i64 0, .int .i64 0, .int .i64 0, .int .i64 0, .int .i64 0, .int .i64 0, .int .i64 0, .int .i64 0, .int .i64 0, .int .i64 0] 52))) := (Below.refl _ _).alloc (Nat.le_refl _) _
  have HX0 : Hid ((w.alloc (.cells #[.int .i64 0, .int .i64 0, .int .i64 0, .int .i64 0, .int .i64 0, .int .i64 0, .int .i64 0, .int .i64 0, .int .i64 0, .int .i64 0, .int .i64 0, .int .i64 0, .int .i64 0, .int .i64 0, .int .i64 0, .int .i64 0, .int .i64 0, .int .i64 0, .int .i64 0] 52)).heap[w.heap.size]? = some (.cells #[.int .i64 0, .int .i64 0, .int .i64 0, .int .i64 0, .int .i64 0, .int .i64 0, .int .i64 0, .int .i64 0, .int .i64 0, .int .i64 0, .int .i64 0, .int .i64 0, .int .i64 0, .int .i64 0, .int .i64 0, .int .i64 0, .int .i64 0, .int .i64 0, .int .i64 0] 52 (0, 0))) := heap_alloc_new w _
  have HCF := cutFirst_any s hl (w.alloc (.cells #[.int .i64 0, .int .i64 0, .int .i64 0, .int .i64 0, .int .i64 0, .int .i64 0, .int .i64 0, .int .i64 0, .int .i64 0, .int .i64 0, .int .i64 0, .int .i64 0, .int .i64 0, .int .i64 0, .int .i64 0, .int .i64 0, .int .i64 0, .int .i64 0, .int .i64 0] 52)) (hv.below HB0.out)
  have HEND : Hid (∀ (w' : World), Below (w.heap.size + 1) (w.alloc (.cells #[.int .i64 0, .int .i64 0, .int .i64 0, .int .i64 0, .int .i64 0, .int .i64 0, .int .i64 0, .int .i64 0, .int .i64 0, .int .i64 0, .int .i64 0, .int .i64 0, .int .i64 0, .int .i64 0, .int .i64 0, .int .i64 0, .int .i64 0, .int .i64 0, .int .i64 0] 52)) w' → w'.heap[w.heap.size]? = some (.cells #[.int .i64 0, .int .i64 0, .int .i64 0, .int .i64 0, .int .i64 0, .int .i64 0, .int .i64 0, .int .i64 0, .int .i64 0, .int .i64 0, .int .i64 0, .int .i64 0, .int .i64 0, .int .i64 0, .int .i64 0, .int .i64 0, .int .i64 0, .int .i64 0, .int .i64 0] 52 (0, 0)) ∧ Below w.heap.size w w') := fun w' h => ⟨(h.block _ (by omega)).trans HX0.out, HB0.out.trans (h.mono (by omega))⟩
  unfold str
  unfold str at HCF
  rw [World.size_alloc] at HCF
  go_enter Tryz.func20, Tryz.ntmps20
  go_wp2_with fail
  refine HCF.mono ?_
  rintro e w1 ⟨⟨h1, rfl⟩ | ⟨h1, h2, rfl⟩ | ⟨h1, h2, rfl⟩ | ⟨h1, wd, ws, v, h2, h3, h4, rfl⟩, hB1⟩
  · have HX1 : Hid _ := HEND.out w1 hB1
    clear hB1
    as_aux_lemma =>
      go_upto_region 3 with fail
      apply wp_region_lit
      refine Go.Great.wpList_readTo rfl (some 22) rfl (.agg #[.int .i64 0, .int .i64 0, .int .i64 0, .int .i64 0, .int .i64 0, .int .i64 0, .int .i64 0, .int .i64 0, .int .i64 0, .int .i64 0, .int .i64 0, .int .i64 0, .int .i64 0, .int .i64 0, .int .i64 0, .int .i64 0, .int .i64 0, .int .i64 0, .int .i64 0]) (by kernel_rfl) ?_
      refine Go.Great.wpList_readTo rfl (some 23) rfl (.int .i64 3) (by kernel_rfl) ?_
      refine wpList_store_rowTo rfl 52 _ _ rfl rfl w.heap.size #[.int .i64 0, .int .i64 0, .int .i64 0, .int .i64 0, .int .i64 0, .int .i64 0, .int .i64 0, .int .i64 0, .int .i64 0, .int .i64 0, .int .i64 0, .int .i64 0, .int .i64 0, .int .i64 0, .int .i64 0, .int .i64 0, .int .i64 0, .int .i64 0, .int .i64 0] (by kernel_rfl) (by kernel_rfl) 52 _ HX1.out.1 (by kernel_rfl) rfl (by kernel_rfl) ?_
      go_wp2
      refine bodyPost_ret (results_Ob rfl _ _ w.heap.size rfl rfl (setRow_heap _ _ _ _ _ _ HX1.out.1) rfl) rfl ?_
      exact ⟨⟨.error 3, .inl ⟨h1, rfl⟩, rfl⟩, below_setRow HX1.out.2 (Nat.le_refl _) _⟩
  · have HX1 : Hid _ := HEND.out w1 hB1
    clear hB1
    as_aux_lemma =>
      go_upto_region 3 with fail
      apply wp_region_lit
      refine Go.Great.wpList_readTo rfl (some 22) rfl (.agg #[.int .i64 0, .int .i64 0, .int .i64 0, .int .i64 0, .int .i64 0, .int .i64 0, .int .i64 0, .int .i64 0, .int .i64 0, .int .i64 0, .int .i64 0, .int .i64 0, .int .i64 0, .int .i64 0, .int .i64 0, .int .i64 0, .int .i64 0, .int .i64 0, .int .i64 0]) (by kernel_rfl) ?_
      refine Go.Great.wpList_readTo rfl (some 23) rfl (.int .i64 4) (by kernel_rfl) ?_
      refine wpList_store_rowTo rfl 52 _ _ rfl rfl w.heap.size #[.int .i64 0, .int .i64 0, .int .i64 0, .int .i64 0, .int .i64 0, .int .i64 0, .int .i64 0, .int .i64 0, .int .i64 0, .int .i64 0, .int .i64 0, .int .i64 0, .int .i64 0, .int .i64 0, .int .i64 0, .int .i64 0, .int .i64 0, .int .i64 0, .int .i64 0] (by kernel_rfl) (by kernel_rfl) 52 _ HX1.out.1 (by kernel_rfl) rfl (by kernel_rfl) ?_
      go_wp2
      refine bodyPost_ret (results_Ob rfl _ _ w.heap.size rfl rfl (setRow_heap _ _ _ _ _ _ HX1.out.1) rfl) rfl ?_
      exact ⟨⟨.error 4, .inr (.inl ⟨h1, h2, rfl⟩), rfl⟩, below_setRow HX1.out.2 (Nat.le_refl _) _⟩
  · have HX1 : Hid _ := HEND.out w1 hB1
    clear hB1
    as_aux_lemma =>
      go_upto_region 3 with fail
      apply wp_region_lit
      refine Go.Great.wpList_readTo rfl (some 22) rfl (.agg #[.int .i64 0, .int .i64 0, .int .i64 0, .int .i64 0, .int .i64 0, .int .i64 0, .int .i64 0, .int .i64 0, .int .i64 0, .int .i64 0, .int .i64 0, .int .i64 0, .int .i64 0, .int .i64 0, .int .i64 0, .int .i64 0, .int .i64 0, .int .i64 0, .int .i64 0]) (by kernel_rfl) ?_
      refine Go.Great.wpList_readTo rfl (some 23) rfl (.int .i64 20) (by kernel_rfl) ?_
      refine wpList_store_rowTo rfl 52 _ _ rfl rfl w.heap.size #[.int .i64 0, .int .i64 0, .int .i64 0, .int .i64 0, .int .i64 0, .int .i64 0, .int .i64 0, .int .i64 0, .int .i64 0, .int .i64 0, .int .i64 0, .int .i64 0, .int .i64 0, .int .i64 0, .int .i64 0, .int .i64 0, .int .i64 0, .int .i64 0, .int .i64 0] (by kernel_rfl) (by kernel_rfl) 52 _ HX1.out.1 (by kernel_rfl) rfl (by kernel_rfl) ?_
      go_wp2
      refine bodyPost_ret (results_Ob rfl _ _ w.heap.size rfl rfl (setRow_heap _ _ _ _ _ _ HX1.out.1) rfl) rfl ?_
      exact ⟨⟨.error 20, .inr (.inr ⟨h1, [], h2, rfl⟩), rfl⟩, below_setRow HX1.out.2 (Nat.le_refl _) _⟩
  · have HPA : Hid (∀ r, parseO (wd :: ws) = r → OpR s r) := fun r h => .inr (.inr ⟨h1, _, h2, h.symm⟩)
    have HWL : Hid (∀ x ∈ ws, x.length ≤ 1000000) := fun x hx => by have := word_len h2 x (.tail _ hx); omega
    obtain ⟨va, vc, hve⟩ := h4.shape
    subst hve
    have HSR : Hid (SRd w1 (.slice va ws.length vc) ws) := h4
    have hz1 : w.heap.size + 1 ≤ w1.heap.size := by have := hB1.size; simpa using this
    have HB1 : Hid (Below (w.heap.size + 1) _ w1) := hB1
    obtain ⟨W2, hW2⟩ : ∃ W2, w1.alloc (.cells #[.int .i64 0, .int .i64 0, .int .i64 0, .int .i64 0, .int .i64 0, .int .i64 0, .int .i64 0, .int .i64 0, .int .i64 0, .int .i64 0, .int .i64 0, .int .i64 0, .int .i64 0, .int .i64 0, .int .i64 0, .int .i64 0, .int .i64 0, .int .i64 0, .int .i64 0] 52) = W2 := ⟨_, rfl⟩
    have HW2 : Hid (w1.alloc (.cells #[.int .i64 0, .int .i64 0, .int .i64 0, .int .i64 0, .int .i64 0, .int .i64 0, .int .i64 0, .int .i64 0, .int .i64 0, .int .i64 0, .int .i64 0, .int .i64 0, .int .i64 0, .int .i64 0, .int .i64 0, .int .i64 0, .int .i64 0, .int .i64 0, .int .i64 0] 52) = W2) := hW2
    have hs2 : W2.heap.size = w1.heap.size + 1 := by rw [← hW2]; simp
    have HO2 : Hid (OpAt W2 w1.heap.size zeros) := by show OpAt _ _ _; rw [← hW2]; exact heap_alloc_new w1 _
    have HB2 : Hid (Below w1.heap.size w1 W2) := by show Below _ _ _; rw [← hW2]; exact (Below.refl _ _).alloc (Nat.le_refl _) _
    have HNO := numbersOf_any w1.heap.size W2 (by omega)
    clear h1 h2 h4 hB1 HCF hW2
    generalize hwl : ws.length = nw at *
    have HNW : Hid (ws.length = nw) := hwl
    clear hwl
    unfold str
    go_wp2_with fail
    rw [HW2.out]
    refine HNO.mono ?_
    rintro e w3 ⟨⟨g, rfl, hg1, hg2, hP3⟩, hB3⟩
    have HP3 : Hid (PtAt w3 g w1.heap.size) := hP3
    have HO3 : Hid (OpAt w3 w1.heap.size zeros) := HO2.out.below hB3
    have HB13 : Hid (Below w1.heap.size w1 w3) := HB2.out.trans (hB3.mono (by omega))
    have HX3 : Hid _ := HEND.out w3 (HB1.out.trans (HB13.out.mono (by omega)))
    have hz3 : w1.heap.size < w3.heap.size := HO3.out.lt
    clear hP3 hB3 HNO HW2 HO2 HB2
    cases hwd : (wd == wWorld) with
    | false =>
      have hwn : wd ≠ wWorld := by simpa using hwd
      have HR : Hid (parseO (wd :: ws) = .error 20) := by show _ = _; simp only [parseO]; rw [if_pos hwn]
      have hwb : (wd == [119, 111, 114, 108, 100]) = false := by rw [beq_eq_false_iff_ne]; exact hwn
      clear hwn hwd
      as_aux_lemma =>
        go_upto_region 8 with fail
        apply wp_region_lit
        refine Go.Great.wpList_readTo rfl (some 30) rfl (.agg #[.int .i64 0, .int .i64 0, .int .i64 0, .int .i64 0, .int .i64 0, .int .i64 0, .int .i64 0, .int .i64 0, .int .i64 0, .int .i64 0, .int .i64 0, .int .i64 0, .int .i64 0, .int .i64 0, .int .i64 0, .int .i64 0, .int .i64 0, .int .i64 0, .int .i64 0]) (by kernel_rfl) ?_
        refine wpList_store_rowTo rfl 52 _ _ rfl rfl w.heap.size #[.int .i64 0, .int .i64 0, .int .i64 0, .int .i64 0, .int .i64 0, .int .i64 0, .int .i64 0, .int .i64 0, .int .i64 0, .int .i64 0, .int .i64 0, .int .i64 0, .int .i64 0, .int .i64 0, .int .i64 0, .int .i64 0, .int .i64 0, .int .i64 0, .int .i64 0] (by kernel_rfl) (by kernel_rfl) 52 _ HX3.out.1 (by kernel_rfl) rfl (by kernel_rfl) ?_
        go_wp2
        refine bodyPost_ret (results_Ob rfl _ _ w.heap.size rfl rfl (setRow_heap _ _ _ _ _ _ HX3.out.1) rfl) rfl ?_
        exact ⟨⟨.error 20, HPA.out _ HR.out, rfl⟩, below_setRow HX3.out.2 (Nat.le_refl _) _⟩
    | true =>
    have hwe : wd = wWorld := by simpa using hwd
    have hwb : (wd == [119, 111, 114, 108, 100]) = true := by rw [hwe]; rfl
    by_cases hne : nw = 18
    case neg =>
      have HR : Hid (parseO (wd :: ws) = .error 21) := by show _ = _; simp only [parseO]; rw [if_neg (fun h => h hwe), if_pos]; rw [HNW.out]; exact hne
      have hnb : ((nw : Int) != 18) = true := by rw [bne_iff_ne]; omega
      clear hwe hwd hne
      as_aux_lemma =>
        go_upto_region 10 with fail
        apply wp_region_lit
        refine Go.Great.wpList_readTo rfl (some 37) rfl (.agg #[.int .i64 0, .int .i64 0, .int .i64 0, .int .i64 0, .int .i64 0, .int .i64 0, .int .i64 0, .int .i64 0, .int .i64 0, .int .i64 0, .int .i64 0, .int .i64 0, .int .i64 0, .int .i64 0, .int .i64 0, .int .i64 0, .int .i64 0, .int .i64 0, .int .i64 0]) (by kernel_rfl) ?_
        refine wpList_store_rowTo rfl 52 _ _ rfl rfl w.heap.size #[.int .i64 0, .int .i64 0, .int .i64 0, .int .i64 0, .int .i64 0, .int .i64 0, .int .i64 0, .int .i64 0, .int .i64 0, .int .i64 0, .int .i64 0, .int .i64 0, .int .i64 0, .int .i64 0, .int .i64 0, .int .i64 0, .int .i64 0, .int .i64 0, .int .i64 0] (by kernel_rfl) (by kernel_rfl) 52 _ HX3.out.1 (by kernel_rfl) rfl (by kernel_rfl) ?_
        go_wp2
        refine bodyPost_ret (results_Ob rfl _ _ w.heap.size rfl rfl (setRow_heap _ _ _ _ _ _ HX3.out.1) rfl) rfl ?_
        exact ⟨⟨.error 21, HPA.out _ HR.out, rfl⟩, below_setRow HX3.out.2 (Nat.le_refl _) _⟩
    subst hne
    have hrd : SRd w3 (.slice va ws.length vc) ws := by rw [HNW.out]; exact HSR.out.below HB13.out
    obtain ⟨b, off, rfl, hbl, hc17⟩ := (by rw [HNW.out]; exact HSR.out : SRd w1 (.slice va ws.length vc) ws).at (k := 17) (by rw [HNW.out]; omega)
    have hcw := (HB13.out.cell (p := ⟨b, off + 17, none⟩) hbl).trans hc17
    unfold str at hcw
    have HSR1 : Hid (SRd w1 (.slice (some ⟨b, off, none⟩) ws.length vc) ws) := by rw [HNW.out]; exact HSR.out
    clear hrd hc17
    cases h48 : (ws.getD 17 [] == [48]) with
    | false =>
      have hwn : ws.getD 17 [] ≠ [48] := by simpa using h48
      have HR : Hid (parseO (wd :: ws) = .error 22) := by show _ = _; simp only [parseO]; rw [if_neg (fun h => h hwe), if_neg (fun h => h HNW.out), if_pos hwn]
      have h48b : (ws.getD 17 [] == [48]) = false := by rw [beq_eq_false_iff_ne]; exact hwn
      generalize ws.getD 17 [] = x17 at *
      clear hwn hwe hwd
      as_aux_lemma =>
        go_upto_region 12 with fail
        apply wp_region_lit
        refine Go.Great.wpList_readTo rfl (some 44) rfl (.agg #[.int .i64 0, .int .i64 0, .int .i64 0, .int .i64 0, .int .i64 0, .int .i64 0, .int .i64 0, .int .i64 0, .int .i64 0, .int .i64 0, .int .i64 0, .int .i64 0, .int .i64 0, .int .i64 0, .int .i64 0, .int .i64 0, .int .i64 0, .int .i64 0, .int .i64 0]) (by kernel_rfl) ?_
        refine wpList_store_rowTo rfl 52 _ _ rfl rfl w.heap.size #[.int .i64 0, .int .i64 0, .int .i64 0, .int .i64 0, .int .i64 0, .int .i64 0, .int .i64 0, .int .i64 0, .int .i64 0, .int .i64 0, .int .i64 0, .int .i64 0, .int .i64 0, .int .i64 0, .int .i64 0, .int .i64 0, .int .i64 0, .int .i64 0, .int .i64 0] (by kernel_rfl) (by kernel_rfl) 52 _ HX3.out.1 (by kernel_rfl) rfl (by kernel_rfl) ?_
        go_wp2
        refine bodyPost_ret (results_Ob rfl _ _ w.heap.size rfl rfl (setRow_heap _ _ _ _ _ _ HX3.out.1) rfl) rfl ?_
        exact ⟨⟨.error 22, HPA.out _ HR.out, rfl⟩, below_setRow HX3.out.2 (Nat.le_refl _) _⟩
    | true =>
    have hwe2 : ws.getD 17 [] = [48] := by simpa using h48
    have HR : Hid (parseO (wd :: ws) = nums (ws.take 17)) := by show _ = _; simp only [parseO]; rw [if_neg (fun h => h hwe), if_neg (fun h => h HNW.out), if_neg (fun h => h hwe2)]
    have h48b : (ws.getD 17 [] == [48]) = true := by rw [hwe2]; rfl
    generalize ws.getD 17 [] = x17 at *
    clear hwe2 hwe hwd h48
    go_wp2
    go_loopw [47] (fun i wr => ∃ (k : Nat) (pre : List Int), i = .int .i64 k ∧ k ≤ 17 ∧ Hid (pre.length = k) ∧ Hid (NumsTo (ws.take 17) pre) ∧ Hid (OpAt wr w1.heap.size (optsOf pre)) ∧ Hid (Out (fun i => i = w1.heap.size) w3 wr)) (fun i _ => 17 - (intOf i).toNat)
    case atStart => exact ⟨0, [], rfl, by omega, by show _ = _; rfl, by show NumsTo _ _; unfold NumsTo; rw [List.length_nil, List.drop_zero]; cases nums (List.take 17 ws) <;> rfl, HO3.out, Out.refl _ _⟩
    case round =>
      obtain ⟨k, pre, rfl, hk, HPN, HNT, HOP, HOU⟩ := hrel
      have hzr : w3.heap.size ≤ wr.heap.size := HOU.out.size
      have HB3r : Hid (Below w1.heap.size w1 wr) := HB13.out.trans (HOU.out.below (by omega) (by intro i hi; omega))
      have HXr : Hid _ := HEND.out wr (HB1.out.trans (HB3r.out.mono (by omega)))
      by_cases hlt : k < 17
      · have hpk := (HP3.out.out hg2 HOU.out (by omega)) k hlt
        have hkw : k < ws.length := by rw [HNW.out]; omega
        obtain ⟨b', off', hbe, hbl', hck'⟩ := HSR1.out.at hkw
        cases hbe
        have hcw2 := (HB3r.out.cell (p := ⟨b, off + k, none⟩) hbl).trans hck'
        have hsk : (ws.take 17)[pre.length]? = some (ws.getD k []) := by
          rw [HPN.out, List.getElem?_take, if_pos hlt, List.getD_eq_getElem?_getD, List.getElem?_eq_getElem hkw]
          rfl
        have hsl : (ws.getD k []).length ≤ 1000000 := HWL.out _ (by rw [List.getD_eq_getElem?_getD, List.getElem?_eq_getElem hkw]; exact List.getElem_mem hkw)
        have HNU := number_any (ws.getD k []) hsl wr (hv.below HXr.out.2)
        have HSN : Hid (∀ n, (optsOf pre).set (offs.getD k 0) n = optsOf (pre ++ [n])) := fun n => by
          unfold optsOf
          rw [fillO_snoc _ _ _ _ (by rw [HPN.out]; exact hlt), HPN.out]
        have hofl := offs_lt hlt
        unfold str at hcw2 HNU
        have hbr : b < wr.heap.size := by omega
        have HNX : Hid (∀ n, numOf (ws.getD k []) = some n → NumsTo (ws.take 17) (pre ++ [n])) := fun n hn => HNT.out.next hsk hn
        have HNB : Hid (numOf (ws.getD k []) = none → nums (ws.take 17) = .error 22) := fun hn => HNT.out.bad hsk hn
        generalize ws.getD k [] = sk at *
        generalize offs.getD k 0 = of at *
        clear hck' hbl' hsk hsl hkw
        go_wp2_with fail
        refine HNU.mono ?_
        rintro e w5 ⟨⟨n, hn, rfl⟩ | ⟨hn, rfl⟩, hB5⟩
        · have hO5 : OpAt w5 w1.heap.size (optsOf pre) := HOP.out.below hB5
          have HO5 : Hid (OpAt (w5.setCell ⟨w1.heap.size, of, none⟩ (.int .i64 n)) w1.heap.size (optsOf (pre ++ [n]))) := by show OpAt _ _ _; rw [← HSN.out]; exact hO5.set of n
          have hc5 := hO5.cell (j := of) (by rw [optsOf_len]; exact hofl)
          have hf5 := hO5.frz of
          have HNT2 : Hid _ := HNX.out n (numOf_some.2 hn)
          have HOU5 : Hid (Out (fun i => i = w1.heap.size) w3 (w5.setCell ⟨w1.heap.size, of, none⟩ (.int .i64 n))) := Out.put (HOU.out.two (Out.of_below hB5)) rfl
          generalize (optsOf pre).getD of 0 = old at *
          clear hO5 hn hB5 HNU
          go_wp2
          go_roundw
          case rel => exact ⟨k + 1, pre ++ [n], by simp, by omega, by show _ = _; rw [List.length_append, HPN.out]; rfl, HNT2.out, HO5.out, HOU5.out⟩
          case measure => simp [intOf]; omega
        · have HR2 : Hid (parseO (wd :: ws) = .error 22) := HR.out.trans (HNB.out (numOf_none hn))
          have HX5 : Hid _ := HEND.out w5 (HB1.out.trans ((HB3r.out.trans (hB5.mono HB3r.out.size)).mono (by omega)))
          clear hn hB5 HNU
          as_aux_lemma =>
            go_upto_region 18 with fail
            apply wp_region_lit
            refine Go.Great.wpList_readTo rfl (some 62) rfl (.agg #[.int .i64 0, .int .i64 0, .int .i64 0, .int .i64 0, .int .i64 0, .int .i64 0, .int .i64 0, .int .i64 0, .int .i64 0, .int .i64 0, .int .i64 0, .int .i64 0, .int .i64 0, .int .i64 0, .int .i64 0, .int .i64 0, .int .i64 0, .int .i64 0, .int .i64 0]) (by kernel_rfl) ?_
            refine wpList_store_rowTo rfl 52 _ _ rfl rfl w.heap.size #[.int .i64 0, .int .i64 0, .int .i64 0, .int .i64 0, .int .i64 0, .int .i64 0, .int .i64 0, .int .i64 0, .int .i64 0, .int .i64 0, .int .i64 0, .int .i64 0, .int .i64 0, .int .i64 0, .int .i64 0, .int .i64 0, .int .i64 0, .int .i64 0, .int .i64 0] (by kernel_rfl) (by kernel_rfl) 52 _ HX5.out.1 (by kernel_rfl) rfl (by kernel_rfl) ?_
            go_wp2
            refine bodyPost_ret (results_Ob rfl _ _ w.heap.size rfl rfl (setRow_heap _ _ _ _ _ _ HX5.out.1) rfl) rfl ?_
            exact ⟨⟨.error 22, HPA.out _ HR2.out, rfl⟩, below_setRow HX5.out.2 (Nat.le_refl _) _⟩
      · have : k = 17 := by omega
        subst this
        have HR2 : Hid (parseO (wd :: ws) = .ok pre) := HR.out.trans (HNT.out.all (by rw [HPN.out, List.length_take, HNW.out]; omega))
        have HSZ : Hid ((intsV (optsOf pre)).size = 19) := (intsV_size _).trans (optsOf_len pre)
        have HLD : Hid ((loadVar 52 ⟨w1.heap.size, 0, none⟩).run Tryz.prog wr = .ok (.agg (intsV (optsOf pre))) wr) := run_loadVar_row (P := Tryz.prog) wr w1.heap.size 52 52 _ (0, 0) _ HOP.out Tryz.underlying52 rfl (by rw [HSZ.out]; kernel_rfl)
        as_aux_lemma =>
          go_upto_region 21 with fail
          apply wp_region_lit
          refine Go.Great.wpList_readTo rfl (some 67) rfl (.agg (intsV (optsOf pre))) (load_row rfl (by kernel_rfl) HLD.out) ?_
          refine wpList_store_rowTo rfl 52 _ _ rfl rfl w.heap.size (intsV (optsOf pre)) (by kernel_rfl) (by kernel_rfl) 52 _ HXr.out.1 (by rw [HSZ.out]; kernel_rfl) HSZ.out.symm (intsV_one _) ?_
          go_wp2
          refine bodyPost_ret (results_Ob rfl _ _ w.heap.size rfl rfl (setRow_heap _ _ _ _ _ _ HXr.out.1) HSZ.out) rfl ?_
          exact ⟨⟨.ok pre, HPA.out _ HR2.out, rfl⟩, below_setRow HXr.out.2 (Nat.le_refl _) _⟩
end Go.Proofs.YtbckogojnjmjcaaGreatDoor
