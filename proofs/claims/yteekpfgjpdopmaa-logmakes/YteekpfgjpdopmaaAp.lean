/-
  Append.
-/
import Derived.Test.YteekpfgjpdopmaaCk
import Derived.Deep.RegionLaw
namespace Go.Proofs.Yteekpfgjpdopmaa
open Go.RowKit
set_option linter.unusedVariables false

theorem step_append_ents {ops : Array Oper} {o : Oper} {a : Act} {w : World} {K : Act → World → Prop} {Q : Exit → Act → World → Prop} {E : Prop}
    (hg : o.guard = none) (s x : Operand) (hop : o.op = Op.call { callee := Callee.builtin Builtin.append, args := #[s, x], argTypes := #[34, 34] })
    (N M : Nat) (v : Value) (xa : Option Addr) (xc : Nat) (es fs : List Ent) (hs : a.eval s = v) (hv : w.ownsRow N 40 4 v es.length (entCells es)) (hx : a.eval x = .slice xa fs.length xc) (hsl : EntsAt M w xa fs) (hlen : es.length + fs.length ≤ 1000000000) (hN : N ≤ w.heap.size)
    (hK : ∀ v' w', w'.ownsRow N 40 4 v' (es.length + fs.length) (entCells es ++ entCells fs) → w.grownBy w' v.ownBlock → (v'.ownBlock = v.ownBlock ∨ v'.ownBlock = some w.heap.size) → K (a.put o.dst v') w') :
    if Region.wanted o (yielded ops a.tmps) = true then Oper.wp Try.prog o a w K Q else E := by
  have hw : Region.wanted o (yielded ops a.tmps) = true := by simp [Region.wanted, hg]
  rw [if_pos hw]
  obtain ⟨v', w', hr, h2, h3, h4⟩ := run_append_ents o.type w N M v xa xc es fs hv hsl hlen hN
  unfold Oper.wp
  simp [execOp, hop, resolve, invoke, builtin, hs, hx, hr, Result.andThen]
  exact hK v' w' h2 h3 h4

/-- A log that has turned. -/
theorem Lg.turn {N : Nat} {S : Nat → Prop} {w W : World} {b : Nat} {P P' : PL} (h : Lg N S w b P) (hN : N ≤ w.heap.size) (hO : Out S w W) (v' : Value) (es' : List Ent)
    (hb : W.heap[b]? = some (.cells #[.int .i64 P'.bi, .int .i64 P'.bt, v', .int .i64 P'.h, .int .i64 P'.s, .int .i64 P'.c, .int .i64 P'.g, .int .i64 P'.a] 79 (0, 0))) (ho : EntsOw 0 W v' es') (hs : es'.map Ent.says = P'.E)
    (hv : ∀ g, v'.ownBlock = some g → S g ∨ w.heap.size ≤ g) (hd : ∀ e ∈ es', ∀ g, e.x.ownBlock = some g → S g ∨ w.heap.size ≤ g) (hok : P'.Ok) : LTh N S w W b P' := by
  refine ⟨⟨⟨v', es', hb, ho, hs, fun g hg => (hv g hg).imp id (fun h => ⟨h, (ho.lt hg).2⟩), fun e he g hg => (hd e he g hg).imp id (fun h => ⟨h, ((ho.dat e he).lt hg).2⟩)⟩, hok, .inl h.Sb, ?_, ?_⟩, hO⟩
  · rintro i (hi | hi)
    · exact Nat.lt_of_lt_of_le (h.inn i hi) hO.size
    · exact hi.2
  · rintro i (hi | hi)
    · exact h.fr i hi
    · omega

theorem tm_app (P : PL) (x : En) {i : Int} (hi : i ≤ P.li) (h0 : P.bi ≤ i) : ({ P with E := P.E ++ [x] } : PL).tm i = P.tm i := by
  unfold PL.tm
  by_cases h : i = P.bi
  · rw [if_pos h, if_pos h]
  · rw [if_neg h, if_neg h]
    congr 1
    unfold PL.li at hi
    simp only [List.getD_eq_getElem?_getD]
    rw [List.getElem?_append_left (by omega)]

/-- Append's error. -/
def apE (P : PL) (t k : Int) (n : Nat) : Nat := if P.li = 4611686018427387904 then 18 else if 10000 ≤ P.E.length then 10 else if t < P.lt then 1 else ckEntry t (P.li + 1) k n
/-- The log behind it. -/
def apP (P : PL) (t k : Int) (d : List UInt8) : PL := { P with E := P.E ++ [(t, P.li + 1, k, d)] }

theorem apP_ok {P : PL} (h : P.Ok) {t k : Int} {d : List UInt8} (he : apE P t k d.length = 0) : (apP P t k d).Ok := by
  unfold apE at he
  by_cases h1 : P.li = 4611686018427387904
  · rw [if_pos h1] at he; omega
  rw [if_neg h1] at he
  by_cases h2 : 10000 ≤ P.E.length
  · rw [if_pos h2] at he; omega
  rw [if_neg h2] at he
  by_cases h3 : t < P.lt
  · rw [if_pos h3] at he; omega
  rw [if_neg h3] at he
  have hli : (apP P t k d).li = P.li + 1 := by simp [apP, PL.li]; omega
  refine ⟨h.base, ?_, ?_, ?_, by simp [apP]; omega, h.ba, h.ag, h.gc, by rw [hli]; have := h.cl; show P.c ≤ _; omega, h.gs, h.sh, by rw [hli]; have := h.hl; show P.h ≤ _; omega⟩
  · intro e hm
    rcases List.mem_append.1 hm with hm | hm
    · exact h.ck e hm
    · obtain rfl := List.mem_singleton.1 hm
      exact he
  · intro j hj
    simp only [apP, List.length_append, List.length_singleton] at hj
    simp only [apP, List.getD_eq_getElem?_getD]
    by_cases hl : j < P.E.length
    · rw [List.getElem?_append_left hl]
      have := h.ix j hl
      rwa [List.getD_eq_getElem?_getD] at this
    · have : j = P.E.length := by omega
      subst this
      simp [eI, PL.li]
      omega
  · intro j hj
    simp only [apP, List.length_append, List.length_singleton] at hj
    have hbi : (apP P t k d).bi = P.bi := rfl
    by_cases hl : j < P.E.length
    · have e1 : (apP P t k d).tm ((apP P t k d).bi + (j : Int)) = P.tm (P.bi + (j : Int)) := tm_app P _ (by unfold PL.li; omega) (by omega)
      have e2 : (apP P t k d).tm ((apP P t k d).bi + (j : Int) + 1) = P.tm (P.bi + (j : Int) + 1) := tm_app P _ (by unfold PL.li; omega) (by omega)
      rw [e1, e2]
      exact h.up j hl
    · have hj' : j = P.E.length := by omega
      have e1 : (apP P t k d).tm ((apP P t k d).bi + (j : Int)) = P.tm (P.bi + (j : Int)) := tm_app P _ (by unfold PL.li; omega) (by omega)
      have e2 : (apP P t k d).tm ((apP P t k d).bi + (j : Int) + 1) = t := by
        have := PL.tm_ent (apP P t k d) (k := j)
        rw [show (apP P t k d).bi + (j : Int) + 1 = (apP P t k d).bi + 1 + (j : Int) by omega, this]
        subst hj'
        simp [apP, eT]
      rw [e1, e2]
      have : P.lt = P.tm (P.bi + (j : Int)) := by unfold PL.lt PL.li; rw [hj']
      omega

set_option maxRecDepth 100000 in
set_option maxHeartbeats 2000000 in
/-- Append, refused. -/
theorem Append_no {N : Nat} {S : Nat → Prop} {w : World} {b : Nat} {P : PL} (h : Lg N S w b P) (t k : Int) (a : Option Addr) (n cap : Nat) (he : apE P t k n ≠ 0) :
    Calls Try.prog 19 #[.pointer (some ⟨b, 0, none⟩), .int .i64 t, .int .i64 k, .slice a n cap] w fun e w' => e = .returned (.tuple #[.int .i64 0, .int .i64 (apE P t k n : Int)]) ∧ Below w.heap.size w w' := by
  have HL : Hid (Calls _ _ _ _ _) := last_any h
  have hlim := h.ok.lim
  have hbw := h.inn _ h.Sb
  obtain ⟨va, vc, es, hb, -⟩ := h.cells
  have HC : Hid (∀ w1, Below w.heap.size w w1 → w1.cell? ⟨b, 2, none⟩ = some (.slice va P.E.length vc) ∧ b < w1.heap.size) := fun w1 hB => ⟨(hB.cell (p := ⟨b, 2, none⟩) hbw).trans (cells8 hb).1.2.2.1, by have := hB.size; omega⟩
  have HB2 : Hid (∀ w1, Below w.heap.size w w1 → Below w.heap.size w ((w1.alloc (.cells #[.int .i64 P.li, .int .i64 P.lt] 76)).alloc (.cells #[.int .i64 t, .int .i64 (P.li + 1), .int .i64 k, .slice a n cap] 40))) := fun w1 hB => (hB.alloc hB.size _).alloc (by have := hB.size; simp; omega) _
  obtain ⟨R, HR⟩ : ∃ R, Hid (apE P t k n = R) := ⟨_, rfl⟩
  have HR0 : Hid (R ≠ 0) := by show R ≠ 0; rw [← HR.out]; exact he
  rw [HR.out]
  clear h hb he
  by_cases h1 : P.li = 4611686018427387904
  · have HR2 : Hid (R = 18) := by show _ = _; rw [← HR.out]; simp [apE, h1]
    have h1' : (P.li == 4611686018427387904) = true := by simpa using h1
    clear h1
    generalize P.li = li at *
    generalize P.lt = lt at *
    go_enter Try.func19, Try.ntmps19
    go_wp2_with (go_at_call 69; refine HL.out.mono ?_; rintro r w1 ⟨rfl, hB1⟩; have HBB : Hid (Below _ _ _) := HB2.out w1 hB1)
    go_returns
    exact ⟨by have := HR2.out; subst this; rfl, HBB.out⟩
  · have h1' : (P.li == 4611686018427387904) = false := by simpa using h1
    by_cases h2 : 10000 ≤ P.E.length
    · have HR2 : Hid (R = 10) := by show _ = _; rw [← HR.out]; simp [apE, h1, h2]
      have h2' : (10000 : Int) ≤ (P.E.length : Int) := by omega
      clear h1 h2
      generalize P.li = li at *
      generalize P.lt = lt at *
      generalize P.E.length = m at *
      go_enter Try.func19, Try.ntmps19
      go_wp2_with (go_at_call 69; refine HL.out.mono ?_; rintro r w1 ⟨rfl, hB1⟩; have HBB : Hid (Below _ _ _) := HB2.out w1 hB1; obtain ⟨k2, hbw1⟩ := HC.out w1 hB1)
      go_returns
      exact ⟨by have := HR2.out; subst this; rfl, HBB.out⟩
    · have h2' : (P.E.length : Int) < 10000 := by omega
      by_cases h3 : t < P.lt
      · have HR2 : Hid (R = 1) := by show _ = _; rw [← HR.out]; simp [apE, h1, h2, h3]
        clear h1 h2
        generalize P.li = li at *
        generalize P.lt = lt at *
        generalize P.E.length = m at *
        go_enter Try.func19, Try.ntmps19
        go_wp2_with (go_at_call 69; refine HL.out.mono ?_; rintro r w1 ⟨rfl, hB1⟩; have HBB : Hid (Below _ _ _) := HB2.out w1 hB1; obtain ⟨k2, hbw1⟩ := HC.out w1 hB1)
        go_returns
        exact ⟨by have := HR2.out; subst this; rfl, HBB.out⟩
      · have HR2 : Hid (R = ckEntry t (P.li + 1) k n) := by show _ = _; rw [← HR.out]; simp [apE, h1, h2, h3]
        have HCK : Hid (∀ w2, Calls Try.prog 70 #[.agg #[], .agg #[.int .i64 t, .int .i64 (P.li + 1), .int .i64 k, .slice a n cap]] w2 fun e w' => e = .returned (.int .i64 (R : Int)) ∧ Below w2.heap.size w2 w') := fun w2 => by rw [HR2.out]; exact ckEntry_any _ _ _ _ _ _ _
        have hR' : ((R : Int) != 0) = true := by have := HR0.out; simp; omega
        clear h1 h2
        generalize P.li = li at *
        generalize P.lt = lt at *
        generalize P.E.length = m at *
        go_enter Try.func19, Try.ntmps19
        go_wp2_with (first
          | (go_at_call 69; refine HL.out.mono ?_; rintro r w1 ⟨rfl, hB1⟩; have HBB : Hid (Below _ _ _) := HB2.out w1 hB1; obtain ⟨k2, hbw1⟩ := HC.out w1 hB1)
          | (go_at_call 70; refine (HCK.out _).mono ?_; rintro r w3 ⟨rfl, hB3⟩; have HB3 : Hid (Below _ _ _) := HBB.out.trans (hB3.mono HBB.out.size); clear hB3))
        go_returns
        exact ⟨rfl, HB3.out⟩
end Go.Proofs.Yteekpfgjpdopmaa
