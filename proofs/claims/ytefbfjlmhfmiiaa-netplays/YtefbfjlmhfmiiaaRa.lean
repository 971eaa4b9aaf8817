/-
  The document's network: in memory; what reads it.
-/
import Derived.Test.YtefbfjlmhfmiiaaLs
namespace Go.Proofs.Ytefbfjlmhfmiiaa
open Go.RowKit
set_option linter.unusedVariables false

/-- Pairs of nodes. -/
abbrev Pr := Int × Int
def pairOf (a b : Int) : Pr := (min a b, max a b)
def pCells : List Pr → List Value
  | [] => []
  | p :: r => [.int .i64 p.1, .int .i64 p.2] ++ pCells r
theorem pCells_append (a b : List Pr) : pCells (a ++ b) = pCells a ++ pCells b := by
  induction a with
  | nil => rfl
  | cons e r ih => simp [pCells, ih]
theorem pCells_length (a : List Pr) : (pCells a).length = a.length * 2 := by
  induction a with
  | nil => rfl
  | cons e r ih => simp [pCells, ih]; omega
theorem pCells_one (u : List Pr) : ∀ x ∈ pCells u, x.oneCell' = true := by
  induction u with
  | nil => intro x hx; simp [pCells] at hx
  | cons e r ih =>
    intro x hx
    simp only [pCells, List.cons_append, List.nil_append, List.mem_cons] at hx
    rcases hx with rfl | rfl | hx
    · rfl
    · rfl
    · exact ih x hx
theorem pCells_at : ∀ (fs : List Pr) (i : Nat), i < fs.length → (pCells fs)[i * 2]? = some (.int .i64 (fs.getD i (0, 0)).1) ∧ (pCells fs)[i * 2 + 1]? = some (.int .i64 (fs.getD i (0, 0)).2) := by
  intro fs
  induction fs with
  | nil => intro i hi; simp at hi
  | cons f r ih =>
    intro i hi
    cases i with
    | zero => simp [pCells]
    | succ i =>
      obtain ⟨a1, a2⟩ := ih i (by simpa using hi)
      have e1 : (i + 1) * 2 = i * 2 + 1 + 1 := by omega
      rw [e1]
      simp only [pCells, List.cons_append, List.nil_append, List.getElem?_cons_succ, List.getD_cons_succ]
      exact ⟨a1, a2⟩
/-- Rows of pairs of the call's own. -/
def POw (N : Nat) (w : World) (v : Value) (C : List Pr) : Prop := w.ownsRow N 67 2 v C.length (pCells C)
theorem POw.nil (N : Nat) (w : World) : POw N w (.slice none 0 0) [] := World.ownsRow_nil _ _ _ _
theorem POw.shape {N : Nat} {w : World} {v : Value} {C : List Pr} (h : POw N w v C) : ∃ va vc, v = .slice va C.length vc ∧ C.length ≤ vc ∧ vc ≤ maxLen := by
  rcases h.2 with ⟨hv, h0⟩ | ⟨g, cap, cur, hv, _, _, h1, h2, _⟩
  · rw [h0]; exact ⟨_, _, hv, Nat.le_refl _, by unfold maxLen; omega⟩
  · exact ⟨_, _, hv, h1, h2⟩
theorem POw.out {X : Nat → Prop} {N : Nat} {w w' : World} {v : Value} {C : List Pr} (h : POw N w v C) (hO : Out X w w') (hx : ∀ g, v.ownBlock = some g → ¬ X g) : POw N w' v C := by
  refine ⟨h.1, ?_⟩
  rcases h.2 with h2 | ⟨g, cap, cur, rfl, hg, hb, r⟩
  · exact .inl h2
  · exact .inr ⟨g, cap, cur, rfl, hg, (hO.block g (Array.getElem?_eq_some_iff.1 hb).1 (hx g rfl)).trans hb, r⟩
theorem POw.below {N : Nat} {w w' : World} {v : Value} {C : List Pr} (h : POw N w v C) (hB : Below w.heap.size w w') : POw N w' v C := h.out (X := fun _ => False) (Out.of_below hB) (fun _ _ hf => hf)
theorem POw.not_at {N : Nat} {w : World} {v : Value} {C : List Pr} (h : POw N w v C) {R : Nat} {cs : Array Value} {t : TypeId} {z : Nat × Nat} (hR : w.heap[R]? = some (.cells cs t z)) (ht : t ≠ 67) : v.ownBlock ≠ some R := by
  rcases h.2 with ⟨rfl, _⟩ | ⟨g, cap, cur, rfl, _, hgb, _⟩
  · simp [Value.ownBlock]
  · intro e'
    obtain rfl : g = R := by simpa [Value.ownBlock] using e'
    rw [hR] at hgb
    simp at hgb
    exact ht hgb.2.1
theorem POw.at {N : Nat} {w : World} {va : Option Addr} {vc : Nat} {C : List Pr} (h : POw N w (.slice va C.length vc) C) {i : Nat} (hi : i < C.length) : ∃ g, va = some ⟨g, 0, none⟩ ∧ g < w.heap.size ∧ w.cell? ⟨g, i * 2, none⟩ = some (.int .i64 (C.getD i (0, 0)).1) ∧ w.cell? ⟨g, i * 2 + 1, none⟩ = some (.int .i64 (C.getD i (0, 0)).2) := by
  rcases h.2 with ⟨_, h0⟩ | ⟨g, cap, cur, hv, hg, hh, h1, h2, h3, h4⟩
  · omega
  · cases hv
    have hcell : ∀ o v, o < C.length * 2 → (pCells C)[o]? = some v → w.cell? ⟨g, o, none⟩ = some v := fun o v ho hv => by
      simp only [World.cell?, hh]
      have : (cur.toList.take (C.length * 2))[o]? = some v := by rw [h4]; exact hv
      rw [List.getElem?_take, if_pos ho] at this
      simpa using this
    obtain ⟨a1, a2⟩ := pCells_at C i hi
    exact ⟨g, rfl, (Array.getElem?_eq_some_iff.1 hh).1, hcell _ _ (by omega) a1, hcell _ _ (by omega) a2⟩
theorem infoP : (Try.prog.info? 67).map (fun i => (i.zero, i.size, i.bytes)) = some (some (.agg #[.int .i64 0, .int .i64 0]), 2, 16) := by kernel_rfl
theorem run_append_p (ty : TypeId) (w : World) (N : Nat) (v : Value) (xb xc : Nat) (C : List Pr) (p : Pr) (hv : POw N w v C) (h0 : w.cell? ⟨xb, 0, none⟩ = some (.int .i64 p.1)) (h1 : w.cell? ⟨xb, 1, none⟩ = some (.int .i64 p.2)) (hlen : C.length + 1 ≤ 1000000000) (hN : N ≤ w.heap.size) :
    ∃ v' w', (Builtin.append_ #[37, 37] ty #[v, .slice (some ⟨xb, 0, none⟩) 1 xc]).run Try.prog w = .ok v' w' ∧ POw N w' v' (C ++ [p]) ∧ w.grownBy w' v.ownBlock ∧ (v'.ownBlock = v.ownBlock ∨ v'.ownBlock = some w.heap.size) := by
  obtain ⟨i0, hi, hz0, hz1, hz2⟩ := info_parts infoP
  have had : ∀ j u, (pCells [p])[j]? = some u → w.cell? ((⟨xb, 0, none⟩ : Addr).add j) = some u := fun j u hu => by
    rw [Addr.add_lit]
    match j with
    | 0 => simp [pCells] at hu; subst hu; simpa using h0
    | 1 => simp [pCells] at hu; subst hu; simpa using h1
    | j + 2 => simp [pCells] at hu
  obtain ⟨v', w', r1, r2, r3, _, r5⟩ := run_append_own_at (P := Try.prog) w N 37 ty 67 i0 _ 2 16 Try.underlying37 hi hz0 hz1 hz2 rfl (by decide) v C.length (pCells C) hv ⟨xb, 0, none⟩ 1 xc (pCells [p]) rfl had (pCells_one _) (by unfold maxLen; omega) (by omega) hN
  refine ⟨v', w', r1, ?_, r3, r5⟩
  unfold POw
  rw [pCells_append, List.length_append]
  exact r2

/-- Block b holds the document's network. -/
structure RM (w : World) (b : Nat) (P : PN) (C : List Pr) (v : Value) (es : List Ml) (vc : Value) : Prop where
  blk : w.heap[b]? = some (.cells #[.int .i64 P.n, v, .int .i64 P.k, vc] 39 (0, 0))
  row : MlsOw 58 0 w v es
  says : es.map Ml.says = P.E
  cut : POw 0 w vc C
/-- Which links are cut. -/
def CutOk (P : PN) (C : List Pr) : Prop := ∀ a b, P.two a b = true → (lk P.L a b = false ↔ pairOf a b ∈ C)
structure Rn (N : Nat) (S : Nat → Prop) (w : World) (b : Nat) (P : PN) (C : List Pr) : Prop where
  at_ : ∃ v es vc, RM w b P C v es vc ∧ (∀ g, v.ownBlock = some g → S g) ∧ (∀ e ∈ es, ∀ g, e.x.ownBlock = some g → S g) ∧ (∀ g, vc.ownBlock = some g → S g)
  ok : P.Ok
  cok : CutOk P C
  Sb : S b
  inn : ∀ i, S i → i < w.heap.size
  fr : ∀ i, S i → N ≤ i
structure RTh (N : Nat) (S : Nat → Prop) (w w' : World) (b : Nat) (P : PN) (C : List Pr) : Prop where
  q : Rn N (grew S w w') w' b P C
  out : Out S w w'
theorem Rn.out {N : Nat} {S X : Nat → Prop} {w w' : World} {b : Nat} {P : PN} {C : List Pr} (h : Rn N S w b P C) (hO : Out X w w') (hx : ∀ i, S i → ¬ X i) : Rn N S w' b P C := by
  obtain ⟨v, es, vc, ⟨hv, ho, hs, hc⟩, h1, h2, h3⟩ := h.at_
  exact ⟨⟨v, es, vc, ⟨(hO.block b (h.inn _ h.Sb) (hx _ h.Sb)).trans hv, ho.out hO (fun g hg => hx _ (h1 g hg)) (fun e he g hg => hx _ (h2 e he g hg)), hs, hc.out hO (fun g hg => hx _ (h3 g hg))⟩, h1, h2, h3⟩, h.ok, h.cok, h.Sb, fun i hi => Nat.lt_of_lt_of_le (h.inn i hi) hO.size, h.fr⟩
theorem Rn.below {N : Nat} {S : Nat → Prop} {w w' : World} {b : Nat} {P : PN} {C : List Pr} (h : Rn N S w b P C) (hB : Below w.heap.size w w') : Rn N S w' b P C :=
  h.out (X := fun _ => False) (Out.of_below hB) (fun _ _ hf => hf)
theorem RTh.bel {N : Nat} {S : Nat → Prop} {w w' : World} {b : Nat} {P : PN} {C : List Pr} (h : RTh N S w w' b P C) (hN : N ≤ w.heap.size) : Below N w w' := h.out.below hN (fun i hi => h.q.fr i (.inl hi))
theorem Rn.turn {N : Nat} {S : Nat → Prop} {w w' : World} {b : Nat} {P P' : PN} {C C' : List Pr} (h : Rn N S w b P C) (hN : N ≤ w.heap.size) (hO : Out S w w') (v : Value) (es : List Ml) (vc : Value) (hm : RM w' b P' C' v es vc) (h1 : ∀ g, v.ownBlock = some g → grew S w w' g) (h2 : ∀ e ∈ es, ∀ g, e.x.ownBlock = some g → grew S w w' g) (h3 : ∀ g, vc.ownBlock = some g → grew S w w' g) (ok : P'.Ok) (cok : CutOk P' C') : RTh N S w w' b P' C' :=
  ⟨⟨⟨v, es, vc, hm, h1, h2, h3⟩, ok, cok, .inl h.Sb, fun i hi => hi.elim (fun h' => Nat.lt_of_lt_of_le (h.inn i h') hO.size) (fun h' => h'.2), fun i hi => hi.elim (fun h' => h.fr i h') (fun h' => by omega)⟩, hO⟩
theorem Rn.th {N : Nat} {S : Nat → Prop} {w w' : World} {b : Nat} {P : PN} {C : List Pr} (h : Rn N S w b P C) (hN : N ≤ w.heap.size) (hB : Below w.heap.size w w') : RTh N S w w' b P C := by
  obtain ⟨v, es, vc, hm, h1, h2, h3⟩ := (h.below hB).at_
  exact h.turn hN (Out.of_below hB) v es vc hm (fun g hg => .inl (h1 g hg)) (fun e he g hg => .inl (h2 e he g hg)) (fun g hg => .inl (h3 g hg)) h.ok h.cok
theorem RTh.drewN {N : Nat} {S : Nat → Prop} {w w' : World} {b : Nat} {P : PN} {C : List Pr} (h : RTh N S w w' b P C) (n : Nat) : RTh N S w (w'.drewN n) b P C :=
  ⟨h.q.out (X := fun _ => False) (Out.drew w' n) (fun _ _ hf => hf), h.out.trans (Y := fun _ => False) (Out.drew w' n) (fun _ hf _ => hf.elim)⟩
theorem cells4 {w : World} {b : Nat} {t : TypeId} {v0 v1 v2 v3 : Value} (h : w.heap[b]? = some (.cells #[v0, v1, v2, v3] t (0, 0))) :
    (w.cell? ⟨b, 0, none⟩ = some v0 ∧ w.cell? ⟨b, 1, none⟩ = some v1 ∧ w.cell? ⟨b, 2, none⟩ = some v2 ∧ w.cell? ⟨b, 3, none⟩ = some v3) ∧ ∀ o, w.frozen? ⟨b, o, none⟩ = false := by
  refine ⟨⟨?_, ?_, ?_, ?_⟩, ?_⟩
  all_goals (first | (simp only [World.cell?, h]; rfl) | skip)
  intro o
  simp [World.frozen?, h]
/-- It, opened. -/
theorem Rn.cells {N : Nat} {S : Nat → Prop} {w : World} {b : Nat} {P : PN} {C : List Pr} (h : Rn N S w b P C) :
    ∃ va vn es ca cn, RM w b P C (.slice va P.E.length vn) es (.slice ca C.length cn) ∧ es.length = P.E.length ∧ P.E.length ≤ vn ∧ vn ≤ maxLen ∧ C.length ≤ cn ∧ cn ≤ maxLen ∧ (∀ g, (Value.slice va P.E.length vn).ownBlock = some g → S g) ∧ (∀ e ∈ es, ∀ g, e.x.ownBlock = some g → S g) ∧ (∀ g, (Value.slice ca C.length cn).ownBlock = some g → S g) := by
  obtain ⟨v, es, vc, ⟨hv, ho, hs, hc⟩, h1, h2, h3⟩ := h.at_
  obtain ⟨va, vn, rfl, h4, h5⟩ := ho.shape
  obtain ⟨ca, cn, rfl, h6, h7⟩ := hc.shape
  have hl : es.length = P.E.length := by rw [← hs]; simp
  rw [hl] at hv ho h1 h4
  exact ⟨va, vn, es, ca, cn, ⟨hv, ho, hs, hc⟩, hl, h4, h5, h6, h7, h1, h2, h3⟩

set_option maxRecDepth 100000 in
set_option maxHeartbeats 1000000 in
/-- there. -/
theorem there_any {N : Nat} {S : Nat → Prop} {w : World} {b : Nat} {P : PN} {C : List Pr} (h : Rn N S w b P C) (i : Int) :
    Calls Try.prog 46 #[.pointer (some ⟨b, 0, none⟩), .int .i64 i] w fun e w' => e = .returned (.bool (P.at i)) ∧ w' = w := by
  obtain ⟨va, vn, es, ca, cn, hm, -⟩ := h.cells
  obtain ⟨⟨-, c1, -, -⟩, -⟩ := cells4 hm.blk
  have hbw := h.inn _ h.Sb
  unfold PN.at
  clear h hm
  generalize P.E.length = m at *
  by_cases h1 : 0 ≤ i
  · have h1' : decide (0 ≤ i) = true := by simpa using h1
    go_enter Try.func46, Try.ntmps46
    go_wp2
    go_ret
    exact ⟨by simp [h1], rfl⟩
  · have h1' : decide (0 ≤ i) = false := by simpa using h1
    go_enter Try.func46, Try.ntmps46
    go_wp2
    go_ret
    exact ⟨by simp, rfl⟩

set_option maxRecDepth 100000 in
set_option maxHeartbeats 1000000 in
/-- two. -/
theorem rtwo_any {N : Nat} {S : Nat → Prop} {w : World} {b : Nat} {P : PN} {C : List Pr} (h : Rn N S w b P C) (x y : Int) :
    Calls Try.prog 47 #[.pointer (some ⟨b, 0, none⟩), .int .i64 x, .int .i64 y] w fun e w' => e = .returned (.bool (P.two x y)) ∧ w' = w := by
  obtain ⟨va, vn, es, ca, cn, hm, -⟩ := h.cells
  obtain ⟨⟨c0, -, -, -⟩, -⟩ := cells4 hm.blk
  have hbw := h.inn _ h.Sb
  obtain ⟨u, hu⟩ : ∃ u, P.two x y = u := ⟨_, rfl⟩
  have HU : Hid (P.two x y = u) := hu
  rw [hu]
  clear h hm hu
  by_cases h1 : 1 ≤ x
  · have h1' : decide (1 ≤ x) = true := by simpa using h1
    by_cases h2 : x ≤ P.n
    · have h2' : decide (x ≤ P.n) = true := by simpa using h2
      by_cases h3 : 1 ≤ y
      · have h3' : decide (1 ≤ y) = true := by simpa using h3
        by_cases h4 : y ≤ P.n
        · have h4' : decide (y ≤ P.n) = true := by simpa using h4
          have HQ : Hid (u = (x != y)) := by show _ = _; rw [← HU.out]; simp [PN.two, PN.has, h1, h2, h3, h4]
          go_enter Try.func47, Try.ntmps47
          go_wp2
          go_ret
          exact ⟨by rw [HQ.out]; rfl, rfl⟩
        · have h4' : decide (y ≤ P.n) = false := by simpa using h4
          have HQ : Hid (u = false) := by show _ = _; rw [← HU.out]; simp [PN.two, PN.has]; omega
          go_enter Try.func47, Try.ntmps47
          go_wp2
          go_ret
          exact ⟨by rw [HQ.out]; rfl, rfl⟩
      · have h3' : decide (1 ≤ y) = false := by simpa using h3
        have HQ : Hid (u = false) := by show _ = _; rw [← HU.out]; simp [PN.two, PN.has]; omega
        go_enter Try.func47, Try.ntmps47
        go_wp2
        go_ret
        exact ⟨by rw [HQ.out]; rfl, rfl⟩
    · have h2' : decide (x ≤ P.n) = false := by simpa using h2
      have HQ : Hid (u = false) := by show _ = _; rw [← HU.out]; simp [PN.two, PN.has]; omega
      go_enter Try.func47, Try.ntmps47
      go_wp2
      go_ret
      exact ⟨by rw [HQ.out]; rfl, rfl⟩
  · have h1' : decide (1 ≤ x) = false := by simpa using h1
    have HQ : Hid (u = false) := by show _ = _; rw [← HU.out]; simp [PN.two, PN.has]; omega
    go_enter Try.func47, Try.ntmps47
    go_wp2
    go_ret
    exact ⟨by rw [HQ.out]; rfl, rfl⟩
end Go.Proofs.Ytefbfjlmhfmiiaa
