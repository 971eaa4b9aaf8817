/-
  The document's log, as it lies in memory; what reads it.
-/
import Derived.Test.YteekpfgjpdopmaaHi
import Derived.Test.YteekpfgjpdopmaaRc
import Derived.BigQuiet
namespace Go.Proofs.Yteekpfgjpdopmaa
open Go.RowKit
set_option linter.unusedVariables false

/-- Block b holds a log of the document; its blocks lie in S, from N on. -/
structure Rg (N : Nat) (S : Nat → Prop) (w : World) (b : Nat) (P : PL) : Prop where
  at_ : ∃ v es, w.heap[b]? = some (.cells #[.int .i64 P.bi, .int .i64 P.bt, v, .int .i64 P.h, .int .i64 P.s, .int .i64 P.c, .int .i64 P.g, .int .i64 P.a] 82 (0, 0)) ∧ EntsOw 0 w v es ∧ es.map Ent.says = P.E ∧ (∀ g, v.ownBlock = some g → S g) ∧ (∀ e ∈ es, ∀ g, e.x.ownBlock = some g → S g)
  ok : P.Ok
  Sb : S b
  inn : ∀ i, S i → i < w.heap.size
  fr : ∀ i, S i → N ≤ i

/-- Behind a call the log is P; nothing else has turned. -/
structure RTh (N : Nat) (S : Nat → Prop) (w w' : World) (b : Nat) (P : PL) : Prop where
  q : Rg N (grew S w w') w' b P
  out : Out S w w'

theorem Rg.out {N : Nat} {S X : Nat → Prop} {w w' : World} {b : Nat} {P : PL} (h : Rg N S w b P) (hO : Out X w w') (hx : ∀ i, S i → ¬ X i) : Rg N S w' b P := by
  obtain ⟨v, es, hv, ho, hs, h1, h2⟩ := h.at_
  exact ⟨⟨v, es, (hO.block b (h.inn _ h.Sb) (hx _ h.Sb)).trans hv, ho.out hO (fun g hg => hx _ (h1 g hg)) (fun e he g hg => hx _ (h2 e he g hg)), hs, h1, h2⟩, h.ok, h.Sb, fun i hi => Nat.lt_of_lt_of_le (h.inn i hi) hO.size, h.fr⟩
theorem Rg.below {N : Nat} {S : Nat → Prop} {w w' : World} {b : Nat} {P : PL} (h : Rg N S w b P) (hB : Below w.heap.size w w') : Rg N S w' b P :=
  h.out (X := fun _ => False) (Out.of_below hB) (fun _ _ hf => hf)
theorem RTh.bel {N : Nat} {S : Nat → Prop} {w w' : World} {b : Nat} {P : PL} (h : RTh N S w w' b P) (hN : N ≤ w.heap.size) : Below N w w' :=
  h.out.below hN (fun i hi => h.q.fr i (.inl hi))
theorem RTh.trans {N : Nat} {S : Nat → Prop} {w wr w2 : World} {b : Nat} {P P2 : PL} (h : RTh N S w wr b P) (k : RTh N (grew S w wr) wr w2 b P2) : RTh N S w w2 b P2 :=
  ⟨by rw [← grew_grew h.out.size k.out.size]; exact k.q, h.out.step k.out⟩
/-- What only reads leaves the log. -/
theorem Rg.th {N : Nat} {S : Nat → Prop} {w w' : World} {b : Nat} {P : PL} (h : Rg N S w b P) (hN : N ≤ w.heap.size) (hB : Below w.heap.size w w') : RTh N S w w' b P := by
  have h' := h.below hB
  obtain ⟨v, es, hv, ho, hs, h1, h2⟩ := h'.at_
  exact ⟨⟨⟨v, es, hv, ho, hs, fun g hg => .inl (h1 g hg), fun e he g hg => .inl (h2 e he g hg)⟩, h.ok, .inl h.Sb, fun i hi => hi.elim (fun h => h'.inn i h) (fun h => h.2), fun i hi => hi.elim (fun h => h'.fr i h) (fun h => by omega)⟩, Out.of_below hB⟩

/-- Opened. -/
theorem Rg.cells {N : Nat} {S : Nat → Prop} {w : World} {b : Nat} {P : PL} (h : Rg N S w b P) :
    ∃ va vc es, w.heap[b]? = some (.cells #[.int .i64 P.bi, .int .i64 P.bt, .slice va P.E.length vc, .int .i64 P.h, .int .i64 P.s, .int .i64 P.c, .int .i64 P.g, .int .i64 P.a] 82 (0, 0)) ∧ EntsOw 0 w (.slice va P.E.length vc) es ∧ es.map Ent.says = P.E ∧ es.length = P.E.length ∧ P.E.length ≤ vc ∧ vc ≤ maxLen ∧ (∀ g, (Value.slice va P.E.length vc).ownBlock = some g → S g) ∧ (∀ e ∈ es, ∀ g, e.x.ownBlock = some g → S g) := by
  obtain ⟨v, es, hv, ho, hs, h1, h2⟩ := h.at_
  obtain ⟨va, vc, rfl, h3, h4⟩ := ho.shape
  have hl : es.length = P.E.length := by rw [← hs]; simp
  rw [hl] at hv ho h1 h3
  exact ⟨va, vc, es, hv, ho, hs, hl, h3, h4, h1, h2⟩


set_option maxRecDepth 100000 in
set_option maxHeartbeats 1000000 in
/-- Last. -/
theorem RLast_any {N : Nat} {S : Nat → Prop} {w : World} {b : Nat} {P : PL} (h : Rg N S w b P) :
    Calls Try.prog 21 #[.pointer (some ⟨b, 0, none⟩)] w fun e w' => e = .returned (.int .i64 P.li) ∧ Below w.heap.size w w' := by
  obtain ⟨va, vc, es, hb, -, -, -, -, -, -, -⟩ := h.cells
  obtain ⟨⟨c0, c1, c2, -, -, -, -, -⟩, -⟩ := cells8 hb
  have hlim := h.ok.lim
  have hbw := h.inn _ h.Sb
  have hw : IntKind.i64.wrap (P.bi + (P.E.length : Int)) = P.li := by rw [IntKind.wrap_i64]; unfold PL.li at *; omega
  clear h hb
  generalize P.E.length = m at *
  generalize P.li = li at *
  go_enter Try.func21, Try.ntmps21
  go_wp2
  go_quiet (fail)
  go_wp2
  go_returns
  exact ⟨rfl, below_drewN (Below.refl _ _) _⟩

set_option maxRecDepth 100000 in
set_option maxHeartbeats 1000000 in
/-- LastTerm. -/
theorem RLT_any {N : Nat} {S : Nat → Prop} {w : World} {b : Nat} {P : PL} (h : Rg N S w b P) :
    Calls Try.prog 64 #[.pointer (some ⟨b, 0, none⟩)] w fun e w' => e = .returned (.int .i64 P.lt) ∧ Below w.heap.size w w' := by
  obtain ⟨va, vc, es, hb, ho, hs, hl, hvc, hvm, -, -⟩ := h.cells
  obtain ⟨⟨c0, c1, c2, -, -, -, -, -⟩, -⟩ := cells8 hb
  have hbw := h.inn _ h.Sb
  by_cases hz : P.E.length = 0
  · have hlt : P.lt = P.bt := by
      have : P.li = P.bi := by unfold PL.li; omega
      unfold PL.lt; rw [this, PL.tm_base]
    rw [hlt]
    rw [hz] at c2
    clear h hb ho hs hl hvc hvm
    go_enter Try.func64, Try.ntmps64
    go_wp2
    go_returns
    exact ⟨rfl, Below.refl _ _⟩
  · obtain ⟨n, hn⟩ : ∃ n, P.E.length = n + 1 := ⟨P.E.length - 1, by omega⟩
    have hat := EntsOw.at (es := es) (by rw [hl]; exact ho)
    obtain ⟨g, off, rfl, hg, e0, e1, -⟩ := hat.at (i := n) (by omega)
    obtain ⟨s1, s2, -⟩ := ent_says hs n
    rw [s1] at e0
    have hlt : P.lt = eT (P.E.getD n nilEn) := by
      have : P.li = P.bi + 1 + (n : Int) := by unfold PL.li; omega
      unfold PL.lt; rw [this, PL.tm_ent]
    rw [hlt]
    have hlen := h.ok.len
    have hw : IntKind.i64.wrap ((P.E.length : Int) - 1) = (n : Int) := by rw [IntKind.wrap_i64]; omega
    have i0 : (0 : Int) ≤ (n : Int) := by omega
    have i1 : (n : Int) < (P.E.length : Int) := by omega
    have hp : ((P.E.length : Int) == 0) = false := by rw [beq_eq_false_iff_ne]; omega
    generalize eT (P.E.getD n nilEn) = tn at *
    clear h hb ho hs hl hvm s1 s2 hat hn hz hlen e1
    generalize P.E.length = m at *
    go_enter Try.func64, Try.ntmps64
    go_wp2
    go_quiet (fail)
    go_wp2
    go_returns
    exact ⟨rfl, below_drewN (Below.refl _ _) _⟩

set_option maxRecDepth 100000 in
set_option maxHeartbeats 1000000 in
/-- At. -/
theorem RAt_any {N : Nat} {S : Nat → Prop} {w : World} {b : Nat} {P : PL} (h : Rg N S w b P) (i : Int) :
    Calls Try.prog 57 #[.pointer (some ⟨b, 0, none⟩), .int .i64 i] w fun e w' => e = .returned (.tuple #[.int .i64 (P.tt i), .int .i64 (P.er i : Int)]) ∧ Below w.heap.size w w' := by
  obtain ⟨va, vc, es, hb, ho, hs, hl, hvc, hvm, -, -⟩ := h.cells
  obtain ⟨⟨c0, c1, c2, -, -, -, -, -⟩, -⟩ := cells8 hb
  have hbw := h.inn _ h.Sb
  have HL : Hid (Calls _ _ _ _ _) := RLast_any h
  have h0 := h.ok.b0
  have hlim := h.ok.lim
  by_cases h1 : i < P.bi
  · have e1 : P.er i = 14 := by unfold PL.er; rw [if_pos h1]
    have e2 : P.tt i = 0 := by unfold PL.tt; rw [e1]; rfl
    rw [e1, e2]
    clear h hb ho hs hl hvc hvm e1 e2 HL
    go_enter Try.func57, Try.ntmps57
    go_wp2
    go_returns
    exact ⟨rfl, Below.refl _ _⟩
  · by_cases h3 : P.li < i
    · have e1 : P.er i = 8 := by unfold PL.er; rw [if_neg h1, if_pos h3]
      have e2 : P.tt i = 0 := by unfold PL.tt; rw [e1]; rfl
      rw [e1, e2]
      clear h hb ho hs hl hvc hvm e1 e2
      go_enter Try.func57, Try.ntmps57
      go_wp2_with (go_at_call 21; refine HL.out.mono ?_; rintro e w1 ⟨rfl, hB1⟩)
      go_returns
      exact ⟨rfl, hB1⟩
    · have e1 : P.er i = 0 := by unfold PL.er; rw [if_neg h1, if_neg h3]
      by_cases h2 : i = P.bi
      · have e2 : P.tt i = P.bt := by unfold PL.tt; rw [e1, h2, PL.tm_base]; rfl
        rw [e1, e2]
        subst h2
        have HC : Hid (∀ w1, Below w.heap.size w w1 → (w1.cell? ⟨b, 0, none⟩ = some (.int .i64 P.bi) ∧ w1.cell? ⟨b, 1, none⟩ = some (.int .i64 P.bt))) := fun w1 hB =>
          ⟨(hB.cell (p := ⟨b, 0, none⟩) hbw).trans c0, (hB.cell (p := ⟨b, 1, none⟩) hbw).trans c1⟩
        clear h hb ho hs hl hvc hvm e1 e2
        go_enter Try.func57, Try.ntmps57
        go_wp2_with (go_at_call 21; refine HL.out.mono ?_; rintro e w1 ⟨rfl, hB1⟩; obtain ⟨k0, k1⟩ := HC.out w1 hB1)
        go_returns
        exact ⟨rfl, hB1⟩
      · have h2' : (i == P.bi) = false := by simpa using h2
        obtain ⟨n, hn⟩ : ∃ n : Nat, i = P.bi + 1 + (n : Int) := ⟨(i - P.bi - 1).toNat, by omega⟩
        have hnl : n < P.E.length := by unfold PL.li at h3; omega
        have e2 : P.tt i = eT (P.E.getD n nilEn) := by unfold PL.tt; rw [e1, hn, PL.tm_ent]; rfl
        rw [e1, e2]
        have hat := EntsOw.at (es := es) (by rw [hl]; exact ho)
        obtain ⟨g, off, rfl, hg, e0, -⟩ := hat.at (i := n) (by omega)
        obtain ⟨s1, -⟩ := ent_says hs n
        rw [s1] at e0
        have HC : Hid (∀ w1, Below w.heap.size w w1 → (w1.cell? ⟨b, 0, none⟩ = some (.int .i64 P.bi) ∧ w1.cell? ⟨b, 2, none⟩ = some (.slice (some ⟨g, off, none⟩) P.E.length vc) ∧ w1.cell? ⟨g, off + n * 4, none⟩ = some (.int .i64 (eT (P.E.getD n nilEn))))) := fun w1 hB =>
          ⟨(hB.cell (p := ⟨b, 0, none⟩) hbw).trans c0, (hB.cell (p := ⟨b, 2, none⟩) hbw).trans c2, (hB.cell (p := ⟨g, off + n * 4, none⟩) hg).trans e0⟩
        have hw1 : (i - P.bi - 1).toNat = n := by omega
        have i0 : (0 : Int) ≤ i - P.bi - 1 := by omega
        have i1 : i - P.bi - 1 < (P.E.length : Int) := by omega
        have HI : Hid (i = P.bi + 1 + (n : Int)) := hn
        clear e0 hn e1 e2 h2 s1 hat ho hs hl hb h
        generalize eT (P.E.getD n nilEn) = tn at *
        generalize P.E.length = m at *
        go_enter Try.func57, Try.ntmps57
        go_wp2_with (go_at_call 21; refine HL.out.mono ?_; rintro e w1 ⟨rfl, hB1⟩; obtain ⟨k0, k2, ke⟩ := HC.out w1 hB1)
        go_quiet (fail)
        go_wp2
        go_returns
        exact ⟨rfl, below_drewN hB1 _⟩

set_option maxRecDepth 100000 in
set_option maxHeartbeats 1000000 in
/-- Has. -/
theorem RHas_any {N : Nat} {S : Nat → Prop} {w : World} {b : Nat} {P : PL} (h : Rg N S w b P) (i t : Int) :
    Calls Try.prog 60 #[.pointer (some ⟨b, 0, none⟩), .int .i64 i, .int .i64 t] w fun e w' => e = .returned (.bool (P.has i t)) ∧ Below w.heap.size w w' := by
  have HT : Hid (Calls _ _ _ _ _) := RAt_any h i
  by_cases h1 : P.er i = 0
  · have HE : Hid (P.has i t = (P.tt i == t)) := by show _ = _; unfold PL.has PL.tt; rw [h1]; simp
    rw [HE.out]
    rw [h1] at HT
    clear h
    generalize P.tt i = ti at *
    go_enter Try.func60, Try.ntmps60
    go_wp2_with (go_at_call 57; refine HT.out.mono ?_; rintro e w1 ⟨rfl, hB1⟩)
    go_ret
    exact ⟨rfl, hB1⟩
  · have HE : Hid (P.has i t = false) := by show _ = _; unfold PL.has; simp [h1]
    rw [HE.out]
    have h1' : ((P.er i : Int) == 0) = false := by simp; omega
    clear h
    go_enter Try.func60, Try.ntmps60
    go_wp2_with (go_at_call 57; refine HT.out.mono ?_; rintro e w1 ⟨rfl, hB1⟩)
    go_ret
    exact ⟨rfl, hB1⟩

set_option maxRecDepth 100000 in
set_option maxHeartbeats 1000000 in
/-- Newer. -/
theorem RNewer_any {N : Nat} {S : Nat → Prop} {w : World} {b : Nat} {P : PL} (h : Rg N S w b P) (i t : Int) :
    Calls Try.prog 62 #[.pointer (some ⟨b, 0, none⟩), .int .i64 i, .int .i64 t] w fun e w' => e = .returned (.bool (P.newer i t)) ∧ Below w.heap.size w w' := by
  have HT : Hid (Calls _ _ _ _ _) := RLT_any h
  have HL : Hid (∀ w1, Below w.heap.size w w1 → Calls _ _ _ w1 _) := fun w1 hB => RLast_any (h.below hB)
  clear h
  unfold PL.newer
  generalize P.li = li at *
  generalize P.lt = lt at *
  by_cases h1 : lt < t
  · have h1' : decide (lt < t) = true := by simpa using h1
    go_enter Try.func62, Try.ntmps62
    go_wp2_with (go_at_call 64; refine HT.out.mono ?_; rintro e w1 ⟨rfl, hB1⟩)
    go_ret
    exact ⟨by simp [h1], hB1⟩
  · have h1' : decide (lt < t) = false := by simpa using h1
    by_cases h2 : t = lt
    · subst h2
      go_enter Try.func62, Try.ntmps62
      go_wp2_with (first
        | (go_at_call 64; refine HT.out.mono ?_; rintro e w1 ⟨rfl, hB1⟩)
        | (go_at_call 21; refine (HL.out w1 hB1).mono ?_; rintro e w2 ⟨rfl, hB2⟩))
      go_ret
      exact ⟨by simp, hB1.trans (hB2.mono hB1.size)⟩
    · have h2' : (t == lt) = false := by simpa using h2
      go_enter Try.func62, Try.ntmps62
      go_wp2_with (go_at_call 64; refine HT.out.mono ?_; rintro e w1 ⟨rfl, hB1⟩)
      go_ret
      exact ⟨by simp [h1, h2], hB1⟩
end Go.Proofs.Yteekpfgjpdopmaa
