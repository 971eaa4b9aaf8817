/-
  explain, Explain, Check.
-/
import Derived.Test.YtbcnpdpdflkanaaRe
namespace Go.Proofs.Ytbcnpdpdflkanaa
open Go.RowKit

theorem fd0 (h : List Lo) (ns : List Nat) : Fd h ns (.map []) := fun d th v _ _ hh => by
  exact absurd hh (by simp [Maps.has])
theorem nums_lt {h : List Lo} {key : Bs} : ∀ i ∈ nums h key, i < h.length := fun _ hi => List.mem_range.1 (List.mem_filter.1 hi).1
theorem left0 (n : Nat) : left n (0 : Nat).testBit ≤ n := left_le _ _
theorem opsOf_L (h : List Lo) (key : Bs) : opsOf h key = L h (nums h key) := rfl
theorem test0 : (0 : Nat).testBit = fun _ => false := by funext k; simp
theorem cst12 : ∀ {m : Nat}, m ≤ 12 → cst m ≤ 140737488355328 := by
  have : ∀ m, cst m ≤ cst (m + 1) := fun m => by show _ ≤ 1 + 12 * cst m; omega
  have h2 : ∀ d m, cst m ≤ cst (m + d) := fun d => by
    induction d with
    | zero => intro m; exact Nat.le_refl _
    | succ d ih => intro m; exact Nat.le_trans (ih m) (this _)
  intro m hm
  have h3 := h2 (12 - m) m
  rw [show m + (12 - m) = 12 by omega] at h3
  exact Nat.le_trans h3 (by decide)
/-- Numbers of the call's own. -/
theorem cells1 (w : World) (x : Value) (τ : TypeId) : (w.alloc (.cells #[x] τ)).cell? ⟨w.heap.size, 0, none⟩ = some x := by
  have hh : (w.alloc (.cells #[x] τ)).heap[w.heap.size]? = some (.cells #[x] τ) := heap_alloc_new w _
  simp only [World.cell?, hh]
  rfl
def IOw (N : Nat) (w : World) (v : Value) (l : List Nat) : Prop := w.ownsRow N 3 1 v l.length (l.map encI)

theorem explain_gone {h : List Lo} {key : Bs} {r : Option (List Nat)} (hr : IsL (L h (nums h key)) (0 : Nat).testBit false [] r) : r.isSome = (explain h key).isSome ∧ gone (nums h key) r = (explain h key).getD [] := by
  have he := expl_isL (opsOf h key)
  rw [opsOf_L, ← test0] at he
  have := he.uniq hr
  unfold explain
  rw [opsOf_L, this]
  cases r with
  | none => exact ⟨rfl, rfl⟩
  | some l =>
    refine ⟨rfl, ?_⟩
    show numsOf _ l = _
    unfold numsOf
    simp [List.getD_eq_getElem?_getD]

/-- A search begins. -/
theorem search_starts {N bt : Nat} {w2 : World} {tv : Value} {ts : List Tk} {must : Nat} {o4 o5 : Obj} (c : Cx) (hc : c = ⟨N, w2.heap.size + 5, w2.heap.size, w2.heap.size + 1 + 1, bt, w2.heap.size + 1 + 1 + 1, w2.heap.size + 1 + 1 + 1 + 1, w2.heap.size + 1, tv⟩) (hT : TOw N w2 tv ts) (ct : w2.cell? ⟨bt, 0, none⟩ = some tv)
    (h4 : o4 = .cells #[.slice none 0 0] 39) (h5 : o5 = .cells #[c.fn] 71) {W : World}
    (hW : W = ((((w2.alloc (.cells #[.int .u64 (must : Nat)] 68)).alloc (.map #[] 0)).alloc (.cells #[.map (some (w2.heap.size + 1))] 70)).alloc o4).alloc o5) :
    Sx c ts must W ∧ Dy c [] (.slice none 0 0) 0 (.map []) W ∧ Below w2.heap.size w2 W := by
  have hbt := World.block_lt_of_cell? w2 _ ct
  have hbt' : bt < w2.heap.size := hbt
  have hz : W.heap.size = w2.heap.size + 5 := by rw [hW]; simp
  have B0 : Below w2.heap.size w2 W := by
    rw [hW]
    exact (((((Below.refl _ w2).alloc (Nat.le_refl _) _).alloc (by simp only [World.size_alloc]; omega) _).alloc (by simp only [World.size_alloc]; omega) _).alloc (by simp only [World.size_alloc]; omega) _).alloc (by simp only [World.size_alloc]; omega) _
  have e1 : W.heap[w2.heap.size]? = some (.cells #[.int .u64 (must : Nat)] 68) := by
    rw [hW, Below.heap_alloc _ _ _ (by simp only [World.size_alloc]; omega), Below.heap_alloc _ _ _ (by simp only [World.size_alloc]; omega), Below.heap_alloc _ _ _ (by simp only [World.size_alloc]; omega), Below.heap_alloc _ _ _ (by simp only [World.size_alloc]; omega)]; exact heap_alloc_new _ _
  have e3 : W.heap[w2.heap.size + 1 + 1]? = some (.cells #[.map (some (w2.heap.size + 1))] 70) := by
    rw [hW, Below.heap_alloc _ _ _ (by simp only [World.size_alloc]; omega), Below.heap_alloc _ _ _ (by simp only [World.size_alloc]; omega)]; exact heap3 _ _ _ _
  have e4 : W.heap[w2.heap.size + 1 + 1 + 1]? = some o4 := by
    rw [hW, Below.heap_alloc _ _ _ (by simp only [World.size_alloc]; omega)]
    have := heap_alloc_new (((w2.alloc (.cells #[.int .u64 (must : Nat)] 68)).alloc (.map #[] 0)).alloc (.cells #[.map (some (w2.heap.size + 1))] 70)) o4
    simpa using this
  have e5 : W.heap[w2.heap.size + 1 + 1 + 1 + 1]? = some o5 := by
    rw [hW]
    have := heap_alloc_new ((((w2.alloc (.cells #[.int .u64 (must : Nat)] 68)).alloc (.map #[] 0)).alloc (.cells #[.map (some (w2.heap.size + 1))] 70)).alloc o4) o5
    simpa using this
  rw [h4] at e4
  rw [h5] at e5
  have hmp : W.ownsMap Try.prog 73 unitElem (w2.heap.size + 1) 0 (.map [] : DataW Unit) := by
    have := World.ownsMap_made (H := Unit) (w2.alloc (.cells #[.int .u64 (must : Nat)] 68)) Try.prog 73 unitElem
    rw [hW]
    simp only [World.size_alloc] at this
    exact ((this.alloc _).alloc _).alloc _
  have tb : ∀ g, tv.ownBlock = some g → g < w2.heap.size := fun g hg => (World.ownsRow.lt hT g hg).2
  subst hc
  refine ⟨⟨⟨by dsimp only; omega, by dsimp only; omega, by dsimp only; omega, by dsimp only; omega, by dsimp only; omega, by dsimp only; omega, ⟨by dsimp only; omega, by dsimp only; omega⟩, ⟨by dsimp only; omega, by dsimp only; omega⟩, ⟨by dsimp only; omega, by dsimp only; omega⟩, ⟨by dsimp only; omega, by dsimp only; omega⟩, by dsimp only; omega, fun g hg => ?_⟩, ?_, ?_, ?_, ?_, ?_, ?_⟩, ⟨?_, ?_, ?_, ?_⟩, B0⟩
  · have := tb g hg; dsimp only; omega
  · simp only [World.cell?, e1]; rfl
  · simp only [World.cell?, e3]; rfl
  · exact (B0.cell (p := ⟨bt, 0, none⟩) hbt').trans ct
  · simp only [World.cell?, e5]; rfl
  · exact row_below hT B0
  · dsimp only; omega
  · simp only [World.cell?, e4]; rfl
  · simp [World.frozen?, e4]
  · exact World.ownsRow_nil _ _ _ _
  · exact hmp

set_option maxRecDepth 100000 in
set_option maxHeartbeats 4000000 in
theorem explain_any (N : Nat) (w : World) (a : Option Addr) (cap : Nat) (h : List Lo) (key : Bs) (hN : N ≤ w.heap.size) (hA : HAt N w a h) (hok : ∀ x ∈ h, LoOk x) (hl : h.length ≤ 1000) (hc : (nums h key).length ≤ 12) :
    Calls Try.prog 30 #[.slice a h.length cap, str key] w fun e w' => ∃ v, e = .returned (.tuple #[v, .bool (explain h key).isSome]) ∧ IOw w.heap.size w' v ((explain h key).getD []) ∧ Below w.heap.size w w' := by
  have HT := tasksOf_any N w a cap h key hN hA hl hc
  have hmm := @run_makeMap Try.prog
  have hmf : ∀ (fn : Fn) (first cap : Array Value) (w : World), (Instr.makeFunc fn first cap).run Try.prog w = .ok (.func fn first cap) w := fun _ _ _ _ => rfl
  have hsf : ∀ (a : Addr) (fn : Fn) (first cap : Array Value) (w : World), (store a (.func fn first cap)).run Try.prog w = stored Try.prog w a (.func fn first cap) .plain := fun _ _ _ _ _ => run_store _ _ _ _ _ rfl
  have hval : ∀ j, (nops h (nums h key) j).val.length ≤ maxLen := fun j => by
    unfold nops oat
    cases hg : h[(nums h key).getD j 0]? with
    | none => simp [lo0]
    | some x => exact (hok x (List.mem_of_getElem? hg)).val
  unfold str at *
  go_enter Try.func30, Try.ntmps30
  go_wp2_with (first
    | (go_at_call 36; refine HT.mono ?_; rintro e w1 ⟨tv, rfl, hTO, hB1⟩; obtain ⟨ta, tc, htv, -, -⟩ := row_shape hTO; unfold tasks at htv; rw [tl_len] at htv; subst htv; have hTO1 : TOw w.heap.size (w1.alloc (.cells #[.slice ta (nums h key).length tc] 66)) (.slice ta (nums h key).length tc) (tasks h key) := World.ownsRow.alloc hTO _; have HAN := answered_any _ _ _ h (nums h key) _ hTO1 hc)
    | (go_at_call 37; refine HAN.mono ?_; rintro e w2 ⟨rfl, hB2⟩; have ct2 := (hB2.cell (p := ⟨w1.heap.size, 0, none⟩) (by simp)).trans (cells1 w1 _ _)))
  obtain ⟨c, hce⟩ : ∃ c : Cx, c = ⟨w.heap.size, w2.heap.size + 5, w2.heap.size, w2.heap.size + 1 + 1, w1.heap.size, w2.heap.size + 1 + 1 + 1, w2.heap.size + 1 + 1 + 1 + 1, w2.heap.size + 1, .slice ta (nums h key).length tc⟩ := ⟨_, rfl⟩
  obtain ⟨hS, hD, hB3⟩ := search_starts (ts := tasks h key) (must := musM (nops h (nums h key)) (nums h key).length) c hce (row_below hTO1 hB2) ct2 rfl rfl rfl
  subst hce
  have hsz := hB1.size
  have hsz2 := hB2.size
  simp only [World.size_alloc] at hsz2
  have HRE := reach_any h (nums h key) hc (fun i hi => by have := nums_lt i hi; omega) hval _ (nums h key).length _ 0 false [] [] _ 0 _ hS hD (fd0 _ _) (Nat.two_pow_pos _) (by simp) (left0 _) (by have := cst12 hc; omega) (by simp; omega)
  have hBW : Below w.heap.size w _ := (((hB1.alloc hsz _).trans (hB2.mono (by simp; omega))).trans (hB3.mono (by omega)))
  unfold spV ptr at HRE
  refine HRE.mono ?_
  rintro e w5 ⟨r, ov5, n5, D5, hL5, rfl, hS5, hD5, hF5, hn5, hO5, hN5⟩
  obtain ⟨he1, he2⟩ := explain_gone hL5
  have hB5 : Below w.heap.size w w5 := hBW.trans (hO5.below (N := w.heap.size) (by have := hB3.size; omega) (fun i hi => by
    rcases hi with e | e | e
    · rw [e]; dsimp only; omega
    · rw [e]; dsimp only; omega
    · cases e))
  have co5 := hD5.co
  have how := hD5.ow
  rw [List.nil_append, he2] at how
  dsimp only at co5 how
  have HOW : Hid (w5.ownsRow (w2.heap.size + 5) 3 1 ov5 _ _) := how
  have HB5 : Hid (Below w.heap.size w w5) := hB5
  obtain ⟨oa, oc, hovs, -, -⟩ := row_shape how
  subst hovs
  clear hB5 how hS hD hB3 HRE hBW hS5 hD5 hF5 hO5 hN5 hTO hTO1 HAN HT hA
  cases r with
  | some l =>
    simp only [Option.isSome_some] at he1 ⊢
    have HE1 : Hid (true = (explain h key).isSome) := he1
    clear he1 he2
    go_wp2
    go_ret2
    exact ⟨_, by rw [← HE1.out]; rfl, ownsRow_base_a HOW.out (by omega), HB5.out⟩
  | none =>
    simp only [Option.isSome_none] at he1 ⊢
    have he3 : (explain h key).getD [] = [] := by
      cases hx : explain h key with
      | none => rfl
      | some l => rw [hx] at he1; cases he1
    have HE3 : Hid ((explain h key).getD [] = []) := he3
    have HE1 : Hid (false = (explain h key).isSome) := he1
    clear he3 he2 he1
    go_wp2
    go_ret2
    exact ⟨_, by rw [← HE1.out]; rfl, by rw [HE3.out]; exact World.ownsRow_nil _ _ _ _, HB5.out⟩

theorem results_3 {fn : Func} {a b c : Tmp} (h : fn.results = #[.tmp a, .tmp b, .tmp c]) (tmps : Array Value) (w : World) : (results fn tmps).run Try.prog w = .ok (.tuple #[tmps.getD a undef, tmps.getD b undef, tmps.getD c undef]) w := by
  simp [results, h, Array.getD_eq_getD_getElem?]

/-- What Explain answers. -/
def explE (h : List Lo) (key : Bs) : Option (List Nat) := if valid h = 0 then explain h key else none

theorem valid_len {h : List Lo} (hv : valid h = 0) : h.length ≤ 400 := by
  rcases Nat.lt_or_ge 400 h.length with h1 | h1
  · rw [valid_long h1] at hv; cases hv
  · exact h1
theorem valid_few {h : List Lo} (hv : valid h = 0) (key : Bs) : (nums h key).length ≤ 12 := by
  rcases Nat.lt_or_ge 12 (nums h key).length with h1 | h1
  · have h0 : ∀ i, i < h.length → sound (oat h i) = 0 := by
      have hs : sounds h = 0 := by
        have hl := valid_len hv
        unfold valid at hv
        rw [if_neg (by omega)] at hv
        by_cases e : sounds h = 0
        · exact e
        · rw [if_pos e] at hv; exact hv
      have : ∀ (l : List Lo), sounds l = 0 → ∀ i, i < l.length → sound (oat l i) = 0 := by
        intro l
        induction l with
        | nil => intro _ i hi; simp at hi
        | cons x r ih =>
          intro h0 i hi
          unfold sounds at h0
          by_cases e : sound x = 0
          · rw [if_pos e] at h0
            cases i with
            | zero => exact e
            | succ i => exact ih h0 i (by simpa using hi)
          · rw [if_neg e] at h0; exact absurd h0 e
      exact this h hs
    rw [valid_many (valid_len hv) h0 (k := key) h1] at hv
    cases hv
  · exact h1

set_option maxRecDepth 100000 in
theorem Explain_any (N : Nat) (w : World) (a : Option Addr) (cap : Nat) (h : List Lo) (key : Bs) (hN : N ≤ w.heap.size) (hA : HAt N w a h) (hok : ∀ x ∈ h, LoOk x) (hm : h.length ≤ maxLen) :
    Calls Try.prog 21 #[.slice a h.length cap, str key] w fun e w' => ∃ v, e = .returned (.tuple #[v, .bool (explE h key).isSome, .int .i64 (valid h)]) ∧ IOw w.heap.size w' v ((explE h key).getD []) ∧ Below w.heap.size w w' := by
  have HV := valid_any N w a cap h hN hA hok hm
  unfold explE
  by_cases hv : valid h = 0
  · rw [if_pos hv]
    have HE : Hid (∀ w1, Below w.heap.size w w1 → Calls Try.prog 30 #[.slice a h.length cap, str key] w1 fun e w' => ∃ v, e = .returned (.tuple #[v, .bool (explain h key).isSome]) ∧ IOw w1.heap.size w' v ((explain h key).getD []) ∧ Below w1.heap.size w1 w') := fun w1 hB => explain_any N w1 a cap h key (Nat.le_trans hN hB.size) (hA.below (hB.mono hN)) hok (by have := valid_len hv; omega) (valid_few hv key)
    rw [hv] at HV ⊢
    unfold str at *
    clear hA hok hm hv
    generalize (explain h key).isSome = eb at *
    generalize (explain h key).getD [] = el at *
    go_enter Try.func21, Try.ntmps21
    go_wp2_with (first
      | (go_at_call 11; refine HV.mono ?_; rintro e w1 ⟨rfl, hB1⟩)
      | (go_at_call 30; refine (HE.out _ hB1).mono ?_; rintro e w2 ⟨v, rfl, hI, hB2⟩))
    refine bodyPost_ret (results_3 rfl _ _) rfl ?_
    exact ⟨_, rfl, ownsRow_base_a hI hB1.size, hB1.trans (hB2.mono hB1.size)⟩
  · rw [if_neg hv]
    have hne : (valid h != 0) = true := by simpa using hv
    clear hv hA hok
    generalize valid h = vh at *
    unfold str
    go_enter Try.func21, Try.ntmps21
    go_wp2_with (first
      | (go_at_call 11; refine HV.mono ?_; rintro e w1 ⟨rfl, hB1⟩))
    refine bodyPost_ret (results_3 rfl _ _) rfl ?_
    exact ⟨_, rfl, World.ownsRow_nil _ _ _ _, hB1⟩

/-- What Check answers. -/
def checkE (h : List Lo) : Bool := decide (valid h = 0) && judged h
theorem judged_of {h : List Lo} {ks : List Bs} (hk : KeysOk h ks) (hall : ∀ k ∈ ks, (explain h k).isSome = true) : judged h = true := by
  unfold judged
  rw [List.all_eq_true]
  intro x hx
  cases hc : x.counts
  · simp
  · obtain ⟨i, hi, rfl⟩ := List.getElem_of_mem hx
    have ho : oat h i = h[i] := by unfold oat; rw [List.getElem?_eq_getElem hi]; rfl
    simp only [Bool.not_true, Bool.false_or]
    refine hall _ ((hk.mem _).2 ⟨i, hi, ?_⟩)
    unfold mine
    rw [ho, hc]; simp
theorem judged_not {h : List Lo} {ks : List Bs} (hk : KeysOk h ks) {k : Bs} (hm : k ∈ ks) (hn : (explain h k).isSome = false) : judged h = false := by
  obtain ⟨i, hi, hmi⟩ := (hk.mem k).1 hm
  unfold mine at hmi
  simp only [Bool.and_eq_true, decide_eq_true_eq] at hmi
  unfold judged
  rw [Bool.eq_false_iff]
  intro hall
  have := List.all_eq_true.1 hall _ (oat_mem hi)
  rw [hmi.2, hmi.1, hn] at this
  cases this

set_option maxRecDepth 100000 in
set_option maxHeartbeats 1000000 in
theorem check_any (N : Nat) (w : World) (a : Option Addr) (cap : Nat) (h : List Lo) (hN : N ≤ w.heap.size) (hA : HAt N w a h) (hok : ∀ x ∈ h, LoOk x) (hm : h.length ≤ maxLen) :
    Calls Try.prog 12 #[.slice a h.length cap] w fun e w' => e = .returned (.tuple #[.bool (checkE h), .int .i64 (valid h)]) ∧ Below w.heap.size w w' := by
  have HV := valid_any N w a cap h hN hA hok hm
  by_cases hv : valid h = 0
  · have HE : Hid (∀ w1 key, Below w.heap.size w w1 → Calls Try.prog 30 #[.slice a h.length cap, str key] w1 fun e w' => ∃ v, e = .returned (.tuple #[v, .bool (explain h key).isSome]) ∧ IOw w1.heap.size w' v ((explain h key).getD []) ∧ Below w1.heap.size w1 w') := fun w1 key hB => explain_any N w1 a cap h key (Nat.le_trans hN hB.size) (hA.below (hB.mono hN)) hok (by have := valid_len hv; omega) (valid_few hv key)
    have HK : Hid (∀ w1, Below w.heap.size w w1 → _) := fun w1 hB => keys_any N w1 a cap h (Nat.le_trans hN hB.size) (hA.below (hB.mono hN)) hok (by have := valid_len hv; omega)
    have HCE : Hid (checkE h = judged h) := by show _ = _; unfold checkE; simp [hv]
    rw [hv] at HV ⊢
    clear hA hok hm hv
    go_enter Try.func12, Try.ntmps12
    go_wp2_with (first
      | (go_at_call 11; refine HV.mono ?_; rintro e w1 ⟨rfl, hB1⟩)
      | (go_at_call 13; refine (HK.out _ hB1).mono ?_; rintro e w2 ⟨kv, ks, rfl, hKS, hrow, hB2⟩; obtain ⟨ka, kc, hks, hk1, hk2⟩ := row_shape hrow; subst hks))
    have HKS : Hid (KeysOk h ks) := hKS
    have HROW : Hid (w2.ownsRow _ _ _ _ _ _) := hrow
    have hB12 := hB1.trans (hB2.mono hB1.size)
    have hklen : ks.length ≤ 9223372036854775807 := by unfold maxLen at hk2; omega
    clear hKS hrow hk1 hk2
    go_loopw [17] (fun i wr => ∃ (k : Nat), i = .int .i64 k ∧ k ≤ ks.length ∧ (∀ j, j < k → (explain h (ks.getD j [])).isSome = true) ∧ Below w.heap.size w wr ∧ Below w2.heap.size w2 wr) (fun i _ => ks.length - (intOf i).toNat)
    case atStart => exact ⟨0, rfl, by omega, fun j hj => by omega, hB12, Below.refl _ _⟩
    case round =>
      obtain ⟨k, rfl, hk, hall, hBr, hBr2⟩ := hrel
      by_cases hlt : k < ks.length
      · obtain ⟨gg, rfl, -, hgl⟩ := row_ptr HROW.out (by omega)
        have hck := (row_cell HROW.out (j := k) (by omega)).1
        have hck2 := (hBr2.cell (p := ⟨gg, k, none⟩) hgl).trans hck
        rw [show (ks.map encStr).getD k undef = .string ⟨(ks.getD k []).toArray⟩ from by
          rw [List.getD_eq_getElem?_getD, List.getElem?_map, List.getElem?_eq_getElem hlt, List.getD_eq_getElem?_getD, List.getElem?_eq_getElem hlt]; rfl] at hck2
        have HX := HE.out wr (ks.getD k []) hBr
        have hmem : ks.getD k [] ∈ ks := by rw [List.getD_eq_getElem?_getD, List.getElem?_eq_getElem hlt]; exact List.getElem_mem hlt
        have HAL : Hid (∀ j, j < k → (explain h (ks.getD j [])).isSome = true) := hall
        clear hall hck
        unfold str at HX
        by_cases hs : (explain h (ks.getD k [])).isSome = true
        · have HSS : Hid ((explain h (ks.getD k [])).isSome = true) := hs
          rw [hs] at HX
          clear hs hmem
          generalize (explain h (ks.getD k [])).getD [] = el at *
          generalize hkk : ks.getD k [] = kk at *
          have HKK : Hid (ks.getD k [] = kk) := hkk
          clear hkk
          go_wp2_with (go_at_call 30; refine HX.mono ?_; rintro e w3 ⟨v, rfl, hI, hB3⟩)
          go_roundw
          case rel =>
            refine ⟨k + 1, by simp, by omega, fun j hj => ?_, hBr.trans (hB3.mono hBr.size), hBr2.trans (hB3.mono hBr2.size)⟩
            by_cases e : j = k
            · subst e; rw [HKK.out]; exact HSS.out
            · exact HAL.out j (by omega)
          case measure => simp [intOf]; omega
        · have hs' : (explain h (ks.getD k [])).isSome = false := by simpa using hs
          rw [hs'] at HX
          have HJ : Hid (judged h = false) := judged_not HKS.out hmem hs'
          clear hs hs' hmem
          generalize (explain h (ks.getD k [])).getD [] = el at *
          generalize ks.getD k [] = kk at *
          go_wp2_with (go_at_call 30; refine HX.mono ?_; rintro e w3 ⟨v, rfl, hI, hB3⟩)
          go_ret2
          exact ⟨by rw [HCE.out, HJ.out]; rfl, hBr.trans (hB3.mono hBr.size)⟩
      · have : k = ks.length := by omega
        subst this
        have HJ : Hid (judged h = true) := judged_of HKS.out (fun k hk => by
          obtain ⟨i, hi, rfl⟩ := List.getElem_of_mem hk
          have := hall i hi
          rw [List.getD_eq_getElem?_getD, List.getElem?_eq_getElem hi] at this
          exact this)
        clear hall
        go_wp2
        go_ret2
        exact ⟨by rw [HCE.out, HJ.out]; rfl, hBr⟩
  · have HCE : Hid (checkE h = false) := by show _ = _; unfold checkE; simp [hv]
    have hne : (valid h != 0) = true := by simpa using hv
    clear hv hA hok
    generalize valid h = vh at *
    go_enter Try.func12, Try.ntmps12
    go_wp2_with (first
      | (go_at_call 11; refine HV.mono ?_; rintro e w1 ⟨rfl, hB1⟩))
    go_ret2
    exact ⟨by rw [HCE.out]; rfl, hB1⟩
end Go.Proofs.Ytbcnpdpdflkanaa
