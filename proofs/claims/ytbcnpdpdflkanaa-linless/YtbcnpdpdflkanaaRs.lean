/-
  A search in memory: its tasks, the order so far, the set of what failed; what follows the plain orders.
-/
import Derived.Test.YtbcnpdpdflkanaaSk
namespace Go.Proofs.Ytbcnpdpdflkanaa
open Go.RowKit

def encI (n : Nat) : Value := .int .i64 (n : Int)
def ptr (b : Nat) : Value := .pointer (some ⟨b, 0, none⟩)

/-- Where a search lies. -/
structure Cx where
  N : Nat
  B : Nat
  bm : Nat
  bf : Nat
  bt : Nat
  bo : Nat
  br : Nat
  M : Nat
  tv : Value
structure Cx.Ok (c : Cx) : Prop where
  lm : c.bm < c.B
  lf : c.bf < c.B
  lt : c.bt < c.B
  lo : c.bo < c.B
  lr : c.br < c.B
  lM : c.M < c.B
  nm : c.bm ≠ c.bo ∧ c.bm ≠ c.M
  nf : c.bf ≠ c.bo ∧ c.bf ≠ c.M
  nt : c.bt ≠ c.bo ∧ c.bt ≠ c.M
  nr : c.br ≠ c.bo ∧ c.br ≠ c.M
  no : c.bo ≠ c.M
  tb : ∀ g, c.tv.ownBlock = some g → g < c.B ∧ g ≠ c.bo ∧ g ≠ c.M
/-- What may turn. -/
def Cx.Z (c : Cx) : Nat → Prop := fun i => i = c.bo ∨ i = c.M ∨ c.B ≤ i
def Cx.fn (c : Cx) : Value := .func (.func 38) #[] #[ptr c.bm, ptr c.bf, ptr c.bt, ptr c.bo, ptr c.br]

/-- What stays. -/
structure Sx (c : Cx) (ts : List Tk) (must : Nat) (w : World) : Prop where
  ok : c.Ok
  cm : w.cell? ⟨c.bm, 0, none⟩ = some (.int .u64 must)
  cf : w.cell? ⟨c.bf, 0, none⟩ = some (.map (some c.M))
  ct : w.cell? ⟨c.bt, 0, none⟩ = some c.tv
  cr : w.cell? ⟨c.br, 0, none⟩ = some c.fn
  tk : TOw c.N w c.tv ts
  size : c.B ≤ w.heap.size
/-- What turns. -/
structure Dy (c : Cx) (ord : List Nat) (ov : Value) (n : Nat) (D : DataW Unit) (w : World) : Prop where
  co : w.cell? ⟨c.bo, 0, none⟩ = some ov
  fo : w.frozen? ⟨c.bo, 0, none⟩ = false
  ow : w.ownsRow c.B 3 1 ov ord.length (ord.map encI)
  mp : w.ownsMap Try.prog 73 unitElem c.M n D

theorem out_cell {X : Nat → Prop} {w w' : World} (h : Out X w w') {b o : Nat} {v : Value} (hc : w.cell? ⟨b, o, none⟩ = some v) (hx : ¬ X b) : w'.cell? ⟨b, o, none⟩ = some v := by
  have hb := World.block_lt_of_cell? w _ hc
  rw [← hc]
  exact World.cell?_of_block (w := w) (h.block b hb hx)
theorem out_frozen {X : Nat → Prop} {w w' : World} (h : Out X w w') {b o : Nat} (hb : b < w.heap.size) (hx : ¬ X b) : w'.frozen? ⟨b, o, none⟩ = w.frozen? ⟨b, o, none⟩ :=
  World.frozen?_of_block (w := w) (h.block b hb hx)
theorem map_out {X : Nat → Prop} {w w' : World} {b n : Nat} {D : DataW Unit} (h : w.ownsMap Try.prog 73 unitElem b n D) (hO : Out X w w') (hx : ¬ X b) : w'.ownsMap Try.prog 73 unitElem b n D := by
  obtain ⟨es, clock, hb, r⟩ := h
  exact ⟨es, clock, (hO.block b (Array.getElem?_eq_some_iff.1 hb).1 hx).trans hb, r⟩

theorem Sx.keep {c : Cx} {ts : List Tk} {must : Nat} {w w' : World} (h : Sx c ts must w) (hO : Out c.Z w w') : Sx c ts must w' := by
  have o := h.ok
  have nz : ∀ {b}, b < c.B → b ≠ c.bo ∧ b ≠ c.M → ¬ c.Z b := fun hb hn hz => by
    rcases hz with e | e | e
    · exact hn.1 e
    · exact hn.2 e
    · omega
  exact ⟨o, out_cell hO h.cm (nz o.lm o.nm), out_cell hO h.cf (nz o.lf o.nf), out_cell hO h.ct (nz o.lt o.nt), out_cell hO h.cr (nz o.lr o.nr), row_out h.tk hO (fun g hg => nz (o.tb g hg).1 (o.tb g hg).2), Nat.le_trans h.size hO.size⟩
theorem Sx.below {c : Cx} {ts : List Tk} {must : Nat} {w w' : World} (h : Sx c ts must w) (hB : Below w.heap.size w w') : Sx c ts must w' := h.keep (Out.of_below hB)
theorem Dy.out {c : Cx} {ord : List Nat} {ov : Value} {n : Nat} {D : DataW Unit} {w w' : World} {X : Nat → Prop} (h : Dy c ord ov n D w) (hO : Out X w w') (h1 : ¬ X c.bo) (h2 : ¬ X c.M) (h3 : ∀ g, ov.ownBlock = some g → ¬ X g) : Dy c ord ov n D w' :=
  ⟨out_cell hO h.co h1, (out_frozen hO (World.block_lt_of_cell? w _ h.co) h1).trans h.fo, row_out h.ow hO h3, map_out h.mp hO h2⟩
theorem Dy.below {c : Cx} {ord : List Nat} {ov : Value} {n : Nat} {D : DataW Unit} {w w' : World} (h : Dy c ord ov n D w) (hB : Below w.heap.size w w') : Dy c ord ov n D w' := h.out (X := fun _ => False) (Out.of_below hB) id id (fun _ _ => id)

/-- The blocks that a search turns. -/
def Xo (c : Cx) (ov : Value) : Nat → Prop := fun i => i = c.bo ∨ i = c.M ∨ ov.ownBlock = some i
theorem Xo.z {c : Cx} {ord : List Nat} {ov : Value} {n : Nat} {D : DataW Unit} {w : World} (h : Dy c ord ov n D w) {i : Nat} (hi : Xo c ov i) : c.Z i := by
  rcases hi with e | e | e
  · exact .inl e
  · exact .inr (.inl e)
  · exact .inr (.inr ((h.ow.lt i e).1))

/-- One more in the order. -/
theorem Dy.push {c : Cx} {ord : List Nat} {ov v' : Value} {n x : Nat} {D : DataW Unit} {w w' : World} (ok : c.Ok) (h : Dy c ord ov n D w) (hr : w'.ownsRow c.B 3 1 v' (ord.length + 1) (ord.map encI ++ [encI x])) (hg : w.grownBy w' ov.ownBlock) :
    Dy c (ord ++ [x]) v' n D (w'.setCell ⟨c.bo, 0, none⟩ v') ∧ Out (Xo c ov) w (w'.setCell ⟨c.bo, 0, none⟩ v') := by
  have hO : Out (fun i => ov.ownBlock = some i) w w' := Out.grown hg (fun j e => e)
  have nb : ∀ b, b < c.B → ¬ ov.ownBlock = some b := fun b hb e => by have := (h.ow.lt b e).1; omega
  have hco := out_cell hO h.co (nb _ ok.lo)
  have hob := World.block_lt_of_cell? w' _ hco
  obtain ⟨cs, t, z, hcs⟩ : ∃ cs t z, w'.heap[c.bo]? = some (.cells cs t z) := by
    unfold World.cell? at hco
    cases hh : w'.heap[c.bo]? with
    | none => simp [hh] at hco
    | some o => cases o <;> simp [hh] at hco <;> exact ⟨_, _, _, rfl⟩
  have hne : ∀ g, v'.ownBlock = some g → g ≠ c.bo := fun g hg' e => by have := (hr.lt g hg').1; have := ok.lo; omega
  refine ⟨⟨?_, ?_, ?_, ?_⟩, ?_⟩
  · have := hco
    simp only [World.cell?, hcs] at this
    simp only [World.cell?, heap_set hcs]
    have h0 : 0 < cs.size := by
      rcases Nat.lt_or_ge 0 cs.size with h0 | h0
      · exact h0
      · simp [Array.getElem?_eq_none h0] at this
    simp [h0]
  · have h1 : w'.frozen? ⟨c.bo, 0, none⟩ = false := (out_frozen hO (World.block_lt_of_cell? w _ h.co) (nb _ ok.lo)).trans h.fo
    simp only [World.frozen?, hcs] at h1
    simp only [World.frozen?, heap_set hcs]
    exact h1
  · have h3 : w'.ownsRow c.B 3 1 v' (ord ++ [x]).length ((ord ++ [x]).map encI) := by simpa using hr
    exact row_out (X := fun i => i = c.bo) h3 (Out.set rfl) (fun g hg' e => hne g hg' e)
  · exact map_out (X := fun i => i = c.bo) (map_out h.mp hO (nb _ ok.lM)) (Out.set rfl) (fun e => ok.no e.symm)
  · exact (hO.mono (fun i hi => .inr (.inr hi))).put (.inl rfl)

/-- One less. -/
theorem Dy.pop {c : Cx} {ord : List Nat} {g cap n x : Nat} {D : DataW Unit} {w : World} (ok : c.Ok) (h : Dy c (ord ++ [x]) (.slice (some ⟨g, 0, none⟩) (ord.length + 1) cap) n D w) :
    Dy c ord (.slice (some ⟨g, 0, none⟩) ord.length cap) n D (w.setCell ⟨c.bo, 0, none⟩ (.slice (some ⟨g, 0, none⟩) ord.length cap)) := by
  have hr := h.ow
  rw [show (ord ++ [x]).length = ord.length + 1 by simp] at hr
  have hr2 := row_less hr
  rw [show ((ord ++ [x]).map encI).take (ord.length * 1) = ord.map encI by simp] at hr2
  have hco := h.co
  obtain ⟨cs, t, z, hcs⟩ : ∃ cs t z, w.heap[c.bo]? = some (.cells cs t z) := by
    unfold World.cell? at hco
    cases hh : w.heap[c.bo]? with
    | none => simp [hh] at hco
    | some o => cases o <;> simp [hh] at hco <;> exact ⟨_, _, _, rfl⟩
  refine ⟨?_, ?_, ?_, ?_⟩
  · simp only [World.cell?, hcs] at hco
    simp only [World.cell?, heap_set hcs]
    have h0 : 0 < cs.size := by
      rcases Nat.lt_or_ge 0 cs.size with h0 | h0
      · exact h0
      · simp [Array.getElem?_eq_none h0] at hco
    simp [h0]
  · have h1 := h.fo
    simp only [World.frozen?, hcs] at h1
    simp only [World.frozen?, heap_set hcs]
    exact h1
  · exact row_out (X := fun i => i = c.bo) hr2 (Out.set rfl) (fun g' hg' e => by have := (hr2.lt g' hg').1; have := ok.lo; omega)
  · exact map_out (X := fun i => i = c.bo) h.mp (Out.set rfl) (fun e => ok.no e.symm)

/-! ### masks and orders -/
def L (h : List Lo) (ns : List Nat) : List Lo := ns.map (oat h)
theorem L_len (h : List Lo) (ns : List Nat) : (L h ns).length = ns.length := by simp [L]
theorem L_at (h : List Lo) (ns : List Nat) {j : Nat} (hj : j < ns.length) : oat (L h ns) j = nops h ns j := by
  unfold L oat nops
  rw [List.getElem?_map, List.getElem?_eq_getElem hj, List.getD_eq_getElem?_getD, List.getElem?_eq_getElem hj]
  rfl
theorem test_upd (d i : Nat) : (d ||| 2 ^ i).testBit = upd d.testBit i := by
  funext k
  rw [Nat.testBit_or, Nat.testBit_two_pow]
  unfold upd
  congr 1
  simp [eq_comm]
theorem fine_mask (h : List Lo) (ns : List Nat) (d : Nat) : fineB (L h ns) d.testBit = decide (d &&& musM (nops h ns) ns.length = musM (nops h ns) ns.length) := by
  rw [Bool.eq_iff_iff, decide_eq_true_eq]
  unfold fineB
  rw [List.all_eq_true]
  constructor
  · intro hall
    apply Nat.eq_of_testBit_eq
    intro j
    rw [Nat.testBit_and, musM_test]
    by_cases hj : j < ns.length
    · have := hall j (List.mem_range.2 (by rw [L_len]; exact hj))
      rw [L_at h ns hj] at this
      simp only [Bool.or_eq_true, decide_eq_true_eq] at this
      rcases this with e | e
      · simp [e]
      · simp [e]
    · simp [hj]
  · intro he j hj
    rw [List.mem_range, L_len] at hj
    rw [L_at h ns hj]
    have := congrArg (fun z => z.testBit j) he
    simp only [Nat.testBit_and, musM_test, hj, decide_true, Bool.true_and] at this
    by_cases e : (nops h ns j).back = 0
    · simp [e]
    · simp [e] at this ⊢
      exact this
theorem and_pow_zero (d j : Nat) : (d &&& 2 ^ j = 0) ↔ d.testBit j = false := by
  constructor
  · intro h0
    have := congrArg (fun z => z.testBit j) h0
    simpa [Nat.testBit_and, Nat.testBit_two_pow] using this
  · intro h0
    apply Nat.eq_of_testBit_eq
    intro k
    rw [Nat.testBit_and, Nat.testBit_two_pow]
    by_cases e : j = k
    · subst e; simp [h0]
    · simp [e]
theorem not_mask (a d : Nat) (ha : a < 4096) (hd : d < 4096) : (a &&& (18446744073709551615 - d) = 0) ↔ ∀ k, a.testBit k = true → d.testBit k = true := by
  have ht : ∀ k, (18446744073709551615 - d).testBit k = (decide (k < 64) && !d.testBit k) := fun k => by
    have := Nat.testBit_two_pow_sub_succ (x := d) (n := 64) (by omega) k
    rw [show (2 : Nat) ^ 64 - (d + 1) = 18446744073709551615 - d by omega] at this
    exact this
  have hsm : ∀ k, a.testBit k = true → k < 64 := fun k hk => by
    rcases Nat.lt_or_ge k 64 with h1 | h1
    · exact h1
    · rw [Nat.testBit_lt_two_pow (Nat.lt_of_lt_of_le ha (Nat.le_trans (by decide : 4096 ≤ 2 ^ 64) (Nat.pow_le_pow_right (by omega) h1)))] at hk
      cases hk
  constructor
  · intro h0 k hk
    have := congrArg (fun z => z.testBit k) h0
    simp only [Nat.testBit_and, ht, hk, hsm k hk, decide_true, Bool.true_and, Nat.zero_testBit] at this
    simpa using this
  · intro hall
    apply Nat.eq_of_testBit_eq
    intro k
    rw [Nat.testBit_and, ht]
    cases hk : a.testBit k
    · simp
    · simp [hall k hk]

theorem fol_next (h : List Lo) (ns : List Nat) (hp : ns.length ≤ 12) (d : Nat) (hd : d < 4096) (th : Bool) (v : Bs) {j : Nat} (hj : j < ns.length) :
    folB ⟨nops h ns j, ns.getD j 0, 2 ^ j, ahM (nops h ns) j ns.length⟩ d th v = nextB (L h ns) d.testBit th v j := by
  unfold folB nextB mayB
  dsimp only
  rw [L_at h ns hj, ← Bool.and_assoc]
  congr 1
  have hah : ahM (nops h ns) j ns.length < 4096 := Nat.lt_of_lt_of_le (ahM_lt _ _ _) (pow_le hp)
  rw [Bool.eq_iff_iff]
  simp only [Bool.and_eq_true, decide_eq_true_eq, Bool.not_eq_true', and_pow_zero, not_mask _ _ hah hd, List.all_eq_true, List.mem_range, L_len, Bool.or_eq_true]
  refine and_congr_right fun _ => ⟨fun h1 k hk => ?_, fun h1 k hk => ?_⟩
  · rw [L_at h ns hk]
    by_cases e1 : (nops h ns k).back = 0
    · exact .inl (.inl e1)
    by_cases e2 : (nops h ns j).call ≤ (nops h ns k).back
    · exact .inl (.inr e2)
    · exact .inr (h1 k (by rw [ahM_test]; simp [hk, isAh, e1]; omega))
  · rw [ahM_test] at hk
    simp only [Bool.and_eq_true, decide_eq_true_eq, isAh] at hk
    have := h1 k hk.1
    rw [L_at h ns hk.1] at this
    rcases this with (e | e) | e
    · exact absurd e hk.2.1
    · omega
    · exact e
end Go.Proofs.Ytbcnpdpdflkanaa
