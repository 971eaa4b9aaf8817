/-
  The document's log: Append.
-/
import Derived.Test.YteekpfgjpdopmaaRn
import Derived.Test.YteekpfgjpdopmaaRa
import Derived.Test.YteekpfgjpdopmaaAq
namespace Go.Proofs.Yteekpfgjpdopmaa
open Go.RowKit
set_option linter.unusedVariables false

theorem RTh.mk' {N : Nat} {S : Nat → Prop} {w w1 : World} {b o : Nat} {u : Value} {P : PL} (h : Rw N (grew S w w1) (w1.setCell ⟨b, o, none⟩ u) b P ∧ Out S w (w1.setCell ⟨b, o, none⟩ u)) (ok : P.Ok) : RTh N S w (w1.setCell ⟨b, o, none⟩ u) b P := by
  refine ⟨?_, h.2⟩
  have : grew S w (w1.setCell ⟨b, o, none⟩ u) = grew S w w1 := by unfold grew; rw [size_set]
  rw [this]
  exact h.1.rg ok

theorem apE_cases (P : PL) (hl : P.li ≤ 4611686018427387904) (t k : Int) (n : Nat) : (4611686018427387904 ≤ P.li ∧ apE P t k n = 18) ∨ (P.li < 4611686018427387904 ∧ 10000 ≤ P.E.length ∧ apE P t k n = 10) ∨ (P.li < 4611686018427387904 ∧ P.E.length < 10000 ∧ (t < P.lt ∨ t < 1 ∨ 4611686018427387904 < t) ∧ apE P t k n = 1) ∨
    (P.li < 4611686018427387904 ∧ P.E.length < 10000 ∧ P.lt ≤ t ∧ 1 ≤ t ∧ t ≤ 4611686018427387904 ∧ apE P t k n = ckEntry t (P.li + 1) k n) := by
  unfold apE
  by_cases h1 : P.li = 4611686018427387904
  · left; exact ⟨by omega, by rw [if_pos h1]⟩
  rw [if_neg h1]
  by_cases h2 : 10000 ≤ P.E.length
  · right; left; exact ⟨by omega, h2, by rw [if_pos h2]⟩
  rw [if_neg h2]
  right; right
  by_cases h3 : t < P.lt
  · left; exact ⟨by omega, by omega, .inl h3, by rw [if_pos h3]⟩
  rw [if_neg h3]
  by_cases h4 : t < 1 ∨ 4611686018427387904 < t
  · left
    refine ⟨by omega, by omega, .inr h4, ?_⟩
    unfold ckEntry isIn
    rw [if_pos (by simp only [Bool.and_eq_false_iff, decide_eq_false_iff_not]; omega)]
  · right
    exact ⟨by omega, by omega, by omega, by omega, by omega, rfl⟩

set_option maxRecDepth 100000 in
set_option maxHeartbeats 4000000 in
/-- Append, refused ahead of the entry. -/
theorem RAppend_no {N : Nat} {S : Nat → Prop} {w : World} {b : Nat} {P : PL} (h : Rg N S w b P) (t k : Int) (a : Option Addr) (n cap : Nat) (e : Nat)
    (hc : (4611686018427387904 ≤ P.li ∧ e = 18) ∨ (P.li < 4611686018427387904 ∧ 10000 ≤ P.E.length ∧ e = 10) ∨ (P.li < 4611686018427387904 ∧ P.E.length < 10000 ∧ (t < P.lt ∨ t < 1 ∨ 4611686018427387904 < t) ∧ e = 1)) :
    Calls Try.prog 20 #[.pointer (some ⟨b, 0, none⟩), .int .i64 t, .int .i64 k, .slice a n cap] w fun r w' => r = .returned (.tuple #[.int .i64 0, .int .i64 (e : Int)]) ∧ Below w.heap.size w w' := by
  obtain ⟨va, vc, hcs⟩ := h.cs
  have HCS : Hid _ := hcs
  have HL : Hid (Calls _ _ _ _ _) := RLast_any h
  have HT : Hid (∀ w1, Below w.heap.size w w1 → Calls _ _ _ w1 _) := fun w1 hB => RLT_any (h.below hB)
  clear h hcs
  generalize P.li = li at *
  generalize P.lt = lt at *
  generalize P.E.length = m at *
  rcases hc with ⟨h1, rfl⟩ | ⟨h1, h2, rfl⟩ | ⟨h1, h2, h3, rfl⟩
  · go_enter Try.func20, Try.ntmps20
    go_wp2_with (go_at_call 21; refine HL.out.mono ?_; rintro r w1 ⟨rfl, hB1⟩)
    go_returns
    exact ⟨rfl, hB1⟩
  · have h2' : (10000 : Int) ≤ (m : Int) := by omega
    go_enter Try.func20, Try.ntmps20
    go_wp2_with (go_at_call 21; refine HL.out.mono ?_; rintro r w1 ⟨rfl, hB1⟩; obtain ⟨⟨k0, k1, k2, k3, k4, k5, k6, k7⟩, kf, kb⟩ := HCS.out w1 hB1)
    go_returns
    exact ⟨rfl, hB1⟩
  · have h2' : (m : Int) < 10000 := by omega
    have HT2 : Hid (∀ w1, Below w.heap.size w w1 → Calls Try.prog 64 #[.pointer (some ⟨b, 0, none⟩)] w1 fun r w' => r = .returned (.int .i64 lt) ∧ Below w1.heap.size w1 w') := HT.out
    by_cases q1 : t < lt
    · go_enter Try.func20, Try.ntmps20
      go_wp2_with (first
        | (go_at_call 21; refine HL.out.mono ?_; rintro r w1 ⟨rfl, hB1⟩; obtain ⟨⟨k0, k1, k2, k3, k4, k5, k6, k7⟩, kf, kb⟩ := HCS.out w1 hB1)
        | (go_at_call 64; refine (HT2.out w1 hB1).mono ?_; rintro r w2 ⟨rfl, hB2⟩))
      go_returns
      exact ⟨rfl, hB1.trans (hB2.mono hB1.size)⟩
    · by_cases q2 : t < 1
      · go_enter Try.func20, Try.ntmps20
        go_wp2_with (first
          | (go_at_call 21; refine HL.out.mono ?_; rintro r w1 ⟨rfl, hB1⟩; obtain ⟨⟨k0, k1, k2, k3, k4, k5, k6, k7⟩, kf, kb⟩ := HCS.out w1 hB1)
          | (go_at_call 64; refine (HT2.out w1 hB1).mono ?_; rintro r w2 ⟨rfl, hB2⟩))
        go_returns
        exact ⟨rfl, hB1.trans (hB2.mono hB1.size)⟩
      · have q3 : 4611686018427387904 < t := by omega
        go_enter Try.func20, Try.ntmps20
        go_wp2_with (first
          | (go_at_call 21; refine HL.out.mono ?_; rintro r w1 ⟨rfl, hB1⟩; obtain ⟨⟨k0, k1, k2, k3, k4, k5, k6, k7⟩, kf, kb⟩ := HCS.out w1 hB1)
          | (go_at_call 64; refine (HT2.out w1 hB1).mono ?_; rintro r w2 ⟨rfl, hB2⟩))
        go_returns
        exact ⟨rfl, hB1.trans (hB2.mono hB1.size)⟩

set_option maxRecDepth 100000 in
set_option maxHeartbeats 8000000 in
/-- Append, where the entry is looked at. -/
theorem RAppend_ck {N : Nat} {S : Nat → Prop} {w : World} {b : Nat} {P : PL} (h : Rg N S w b P) (hN : N ≤ w.heap.size) (t k : Int) (a : Option Addr) (d : List UInt8) (cap M : Nat) (hs : Sl M w (.slice a d.length cap) d) (hM : M ≤ w.heap.size) (hd : d.length ≤ 1000000000)
    (h1 : P.li < 4611686018427387904) (h2 : P.E.length < 10000) (h3 : P.lt ≤ t) (h4 : 1 ≤ t) (h5 : t ≤ 4611686018427387904) (he : apE P t k d.length = ckEntry t (P.li + 1) k d.length) :
    Calls Try.prog 20 #[.pointer (some ⟨b, 0, none⟩), .int .i64 t, .int .i64 k, .slice a d.length cap] w fun r w' => r = .returned (.tuple #[.int .i64 (if apE P t k d.length = 0 then P.li + 1 else 0), .int .i64 (apE P t k d.length : Int)]) ∧ RTh N S w w' b (apL P t k d) := by
  obtain ⟨va, vc, hvc, hvm, hsh, hcs, hcp⟩ := h.copy
  have hbw := h.inn _ h.Sb
  have HCS : Hid (∀ w1, Below w.heap.size w w1 → _) := hcs
  have HL : Hid (∀ w1, Below w.heap.size w w1 → Calls _ _ _ w1 _) := fun w1 hB => RLast_any (h.below hB)
  have HT : Hid (∀ w1, Below w.heap.size w w1 → Calls _ _ _ w1 _) := fun w1 hB => RLT_any (h.below hB)
  have HBY : Hid (∀ w1, Below w.heap.size w w1 → Calls Try.prog 72 #[.slice a d.length cap] w1 fun e w' => ∃ xa xc, e = .returned (.slice xa d.length xc) ∧ Ow w.heap.size w' (.slice xa d.length xc) d ∧ Below w.heap.size w w') := fun w1 hB => by
    refine (bytes_any M _ d w1 (hs.below (hB.mono hM)) (Nat.le_trans hM hB.size) (by omega)).mono ?_
    rintro e w' ⟨v', rfl, hO, hB'⟩
    obtain ⟨xa, xc, rfl, -, -⟩ := hO.shape
    exact ⟨xa, xc, rfl, hO.base hB.size, hB.trans (hB'.mono hB.size)⟩
  have hlim := h.ok.lim
  have h0 := h.ok.b0
  have h2' : (P.E.length : Int) < 10000 := by omega
  have hw1 : IntKind.i64.wrap (P.li + 1) = P.li + 1 := by rw [IntKind.wrap_i64]; omega
  have HNO : Hid (∀ w1, Below w.heap.size w w1 → apE P t k d.length ≠ 0 → RTh N S w w1 b (apL P t k d)) := fun w1 hB hne => by unfold apL; rw [if_neg hne]; exact h.th hN hB
  have HF : Hid (∀ (W5 w4 : World) (v5 v' : Value) (gs : List Ent) xa xc, apE P t k d.length = 0 → Below w.heap.size w W5 → EntsOw w.heap.size W5 v5 gs → gs.map Ent.says = P.E → Ow w.heap.size W5 (.slice xa d.length xc) d → w4.ownsRow w.heap.size 40 4 v' (gs.length + 1) (entCells gs ++ entCells [(⟨t, P.li + 1, k, xa, xc, d⟩ : Ent)]) → W5.grownBy w4 v5.ownBlock → RTh N S w (w4.setCell ⟨b, 2, none⟩ v') b (apL P t k d) ∧ Below w.heap.size w w4) := fun W5 w4 v5 v' gs xa xc h0 hB hO hsy hx hr hg => by
    have hB4 : Below w.heap.size w w4 := hB.grown hg hB.size (fun i hi => (hO.lt hi).1)
    have hfin := EntsOw.app (fs := [(⟨t, P.li + 1, k, xa, xc, d⟩ : Ent)]) hO (fun e he => by obtain rfl := List.mem_singleton.1 he; exact hx) (by simpa using hr) hg
    have e : apL P t k d = apP P t k d := by unfold apL; rw [if_pos h0]
    rw [e]
    refine ⟨RTh.mk' (h.rw.ents hN hB4 hfin ?_ ⟨rfl, rfl, rfl, rfl, rfl, rfl, rfl⟩) (apP_ok h.ok h0), hB4⟩
    rw [List.map_append, hsy]; rfl
  have hlen := h.ok.len
  have HCE : Hid (∀ w1, Below w.heap.size w w1 → Calls Try.prog 16 #[.slice va P.E.length vc] w1 fun e w' => ∃ v gs, e = .returned v ∧ EntsOw w1.heap.size w' v gs ∧ gs.map Ent.says = P.E ∧ gs.length = P.E.length ∧ Below w1.heap.size w1 w') := fun w1 hB => by
    have := hcp 0 P.E.length (by omega) w1 va vc hB (hsh.elim (fun q => .inl q.2.2) (fun ⟨g, q⟩ => .inr (.inr ⟨g, q, by rw [q]⟩)))
    rw [List.drop_zero, List.take_of_length_le (Nat.le_refl _)] at this
    refine this.mono ?_
    rintro e w' ⟨v, gs, rfl, q1, q2, q3⟩
    exact ⟨v, gs, rfl, q1, q2, by have := congrArg List.length q2; simpa using this, q3⟩
  have HCK : Hid (∀ xa xc w1, Calls Try.prog 44 #[.agg #[.int .i64 t, .int .i64 (P.li + 1), .int .i64 k, .slice xa d.length xc]] w1 fun e w' => e = .returned (.int .i64 (apE P t k d.length : Int)) ∧ Below w1.heap.size w1 w') := fun xa xc w1 => by rw [he]; exact refCkEntry_any t (P.li + 1) k xa d.length xc w1
  obtain ⟨m, hm⟩ : ∃ m, P.E.length = m := ⟨_, rfl⟩
  obtain ⟨L, hL⟩ : ∃ L, P.E = L := ⟨_, rfl⟩
  rw [hm] at HCS HCE h2' hlen
  clear h hcs hcp hsh hs he hvc hvm h0 h2
  generalize apL P t k d = R at *
  generalize apE P t k d.length = E at *
  generalize P.li = li at *
  generalize P.lt = lt at *
  go_enter Try.func20, Try.ntmps20
  go_wp2_with fail
  refine (HL.out w (Below.refl _ _)).mono ?_
  rintro r w1 ⟨rfl, hB1⟩
  obtain ⟨⟨-, -, k2, -, -, -, -, -⟩, -, kb⟩ := HCS.out w1 hB1
  have HB1 : Hid (Below w.heap.size w w1) := hB1
  clear hB1
  go_wp2_with fail
  refine (HT.out w1 HB1.out).mono ?_
  rintro r w2 ⟨rfl, hB2⟩
  have HB2 : Hid (Below w.heap.size w w2) := HB1.out.trans (hB2.mono HB1.out.size)
  clear hB2 k2 kb HB1 HT
  go_wp2_with fail
  refine (HL.out w2 HB2.out).mono ?_
  rintro r w3 ⟨rfl, hB3⟩
  have HB3 : Hid (Below w.heap.size w w3) := HB2.out.trans (hB3.mono HB2.out.size)
  clear hB3 HB2 HL
  go_wp2_with fail
  refine (HBY.out w3 HB3.out).mono ?_
  rintro r w4 ⟨xa, xc, rfl, hO4, hB4⟩
  obtain ⟨W5, hW5⟩ : ∃ W5, w4.alloc (.cells #[.int .i64 t, .int .i64 (li + 1), .int .i64 k, .slice xa d.length xc] 40) = W5 := ⟨_, rfl⟩
  have HW5 : Hid (w4.alloc (.cells #[.int .i64 t, .int .i64 (li + 1), .int .i64 k, .slice xa d.length xc] 40) = W5) := hW5
  have HX5 : Hid (W5.heap[w4.heap.size]? = some (.cells #[.int .i64 t, .int .i64 (li + 1), .int .i64 k, .slice xa d.length xc] 40 (0, 0))) := by show _ = _; rw [← hW5]; exact heap_alloc_new w4 _
  have HB5 : Hid (Below w.heap.size w W5) := by show Below _ _ _; rw [← hW5]; exact hB4.alloc hB4.size _
  have HO5 : Hid (Ow w.heap.size W5 (.slice xa d.length xc) d) := by show Ow _ _ _ _; rw [← hW5]; exact hO4.alloc _
  have hbx : b < w4.heap.size := Nat.lt_of_lt_of_le hbw hB4.size
  have HBW : Hid (w.heap.size ≤ w4.heap.size) := hB4.size
  obtain ⟨⟨x0, x1, x2, x3⟩, xf⟩ := cells4 HX5.out
  clear hO4 hB4 hW5 HB3 HBY
  go_wp2_with fail
  rw [HW5.out]
  go_wp2_with fail
  refine (HCK.out xa xc W5).mono ?_
  rintro r w6 ⟨rfl, hB6⟩
  have HB56 : Hid (Below W5.heap.size W5 w6) := hB6
  have HB6 : Hid (Below w.heap.size w w6) := HB5.out.trans (hB6.mono HB5.out.size)
  have HX6 : Hid (w6.heap[w4.heap.size]? = some (.cells #[.int .i64 t, .int .i64 (li + 1), .int .i64 k, .slice xa d.length xc] 40 (0, 0))) := (hB6.block _ (Array.getElem?_eq_some_iff.1 HX5.out).1).trans HX5.out
  have HO6 : Hid (Ow w.heap.size w6 (.slice xa d.length xc) d) := HO5.out.below hB6 (Nat.le_refl _)
  clear hB6 x0 x1 x2 x3 xf HCK HX5 HO5
  by_cases hE : E = 0
  · subst hE
    have hE' : ((0 : Int) != 0) = false := by rfl
    have hB0 : Below w6.heap.size w6 w6.drew := (Below.refl _ w6).drew
    have hB1 : Below w6.heap.size w6 (w6.alloc (.cells #[.int .i64 t, .int .i64 (li + 1), .int .i64 k, .slice xa d.length xc] 40)).drew := ((Below.refl _ w6).alloc (Nat.le_refl _) _).drew
    have hx6 : w4.heap.size < w6.heap.size := (Array.getElem?_eq_some_iff.1 HX6.out).1
    have HC2 : Hid (∀ X, Below w6.heap.size w6 X → Calls Try.prog 16 #[.slice va m vc] X fun e w' => ∃ v gs, e = .returned v ∧ EntsOw w6.heap.size w' v gs ∧ gs.map Ent.says = P.E ∧ gs.length = m ∧ Below w6.heap.size w6 w' ∧ Below X.heap.size X w') := fun X hX => by
      refine (HCE.out X (HB6.out.trans (hX.mono HB6.out.size))).mono ?_
      rintro e w' ⟨v, gs, rfl, q1, q2, q3, q4⟩
      exact ⟨v, gs, rfl, q1.base hX.size, q2, q3, hX.trans (q4.mono hX.size), q4⟩
    have HG : Hid (∀ (W7 w8 : World) (v5 : Value) (gs : List Ent) (v' : Value), Below w6.heap.size w6 W7 → EntsOw w6.heap.size W7 v5 gs → gs.map Ent.says = P.E → w8.ownsRow w.heap.size 40 4 v' (gs.length + 1) (entCells gs ++ entCells [(⟨t, li + 1, k, xa, xc, d⟩ : Ent)]) → W7.grownBy w8 v5.ownBlock → (w8.cell? ⟨b, 2, none⟩ = some (.slice va m vc) ∧ w8.frozen? ⟨b, 2, none⟩ = false ∧ w8.cell? ⟨w4.heap.size, 1, none⟩ = some (.int .i64 (li + 1)) ∧ b < w8.heap.size) ∧ RTh N S w (w8.setCell ⟨b, 2, none⟩ v') b R) := fun W7 w8 v5 gs v' hB7 hO7 hsy q1 q2 => by
      have hBW : Below w.heap.size w W7 := HB6.out.trans (hB7.mono HB6.out.size)
      obtain ⟨f1, f2⟩ := HF.out W7 w8 v5 v' gs xa xc rfl hBW (hO7.base HB6.out.size) hsy (HO6.out.below hB7 (Nat.le_refl _)) q1 q2
      obtain ⟨⟨-, -, c2, -, -, -, -, -⟩, cf, cb⟩ := HCS.out w8 f2
      have h68 : Below w6.heap.size w6 w8 := hB7.grown q2 hB7.size (fun i hi => (hO7.lt hi).1)
      exact ⟨⟨c2, cf 2, (cells4 ((h68.block _ hx6).trans HX6.out)).1.2.1, cb⟩, f1⟩
    have HXC : Hid (∀ X, Below w6.heap.size w6 X → (X.cell? ⟨b, 2, none⟩ = some (.slice va m vc) ∧ X.cell? ⟨w4.heap.size, 0, none⟩ = some (.int .i64 t) ∧ X.cell? ⟨w4.heap.size, 1, none⟩ = some (.int .i64 (li + 1)) ∧ X.cell? ⟨w4.heap.size, 2, none⟩ = some (.int .i64 k) ∧ X.cell? ⟨w4.heap.size, 3, none⟩ = some (.slice xa d.length xc)) ∧ w4.heap.size < X.heap.size ∧ b < X.heap.size) := fun X hX => by
      obtain ⟨⟨-, -, c2, -, -, -, -, -⟩, cf, cb⟩ := HCS.out X (HB6.out.trans (hX.mono HB6.out.size))
      have hx := (hX.block _ hx6).trans HX6.out
      exact ⟨⟨c2, (cells4 hx).1⟩, (Array.getElem?_eq_some_iff.1 hx).1, cb⟩
    have hoe := HO6.out.sl (Nat.le_refl _)
    have HA1 : Hid (∀ w7, Below w6.heap.size w6 w7 → EntsAt (w7.heap.size + 1) (w7.alloc (.cells #[.int .i64 t, .int .i64 (li + 1), .int .i64 k, .slice xa d.length xc] 40)) (some ⟨w7.heap.size, 0, none⟩) [(⟨t, li + 1, k, xa, xc, d⟩ : Ent)]) := fun w7 h7 => ents_one w7 (⟨t, li + 1, k, xa, xc, d⟩ : Ent) w7.heap.size (Nat.le_refl _) ((hoe.below h7).mono h7.size) (Nat.le_refl _)
    have HA2 : Hid (∀ w7, Below (w6.alloc (.cells #[.int .i64 t, .int .i64 (li + 1), .int .i64 k, .slice xa d.length xc] 40)).heap.size (w6.alloc (.cells #[.int .i64 t, .int .i64 (li + 1), .int .i64 k, .slice xa d.length xc] 40)) w7 → EntsAt (w6.heap.size + 1) w7 (some ⟨w6.heap.size, 0, none⟩) [(⟨t, li + 1, k, xa, xc, d⟩ : Ent)]) := fun w7 h7 => (ents_one w6 (⟨t, li + 1, k, xa, xc, d⟩ : Ent) w6.heap.size (Nat.le_refl _) hoe (Nat.le_refl _)).below (h7.mono (by simp))
    obtain ⟨⟨k2, y0, y1, y2, y3⟩, -, kb⟩ := HXC.out w6 (Below.refl _ _)
    have HN6 : Hid (∀ X, Below w6.heap.size w6 X → w.heap.size ≤ X.heap.size) := fun X hX => Nat.le_trans HB6.out.size hX.size
    clear hoe HNO HF HCE
    go_wp2_with fail
    go_region_law (first
      | (refine step_append_ents rfl (.tmp 51) (.tmp 53) rfl w.heap.size (w7.heap.size + 1) v5 (some ⟨w7.heap.size, 0, none⟩) 1 gs [(⟨t, li + 1, k, xa, xc, d⟩ : Ent)] (by simp [Act.eval]) ((HO7.out.base (HN6.out w6 (Below.refl _ _))).alloc _).row (by simp [Act.eval]) (HA1.out w7 HB7.out) hlen7 (Nat.le_trans (HN6.out w7 HB7.out) (by simp)) ?_; intro v' w8 q1 q2 q3; obtain ⟨⟨n2, nf, nx, nb⟩, hT⟩ := HG.out _ w8 v5 gs v' (HB7.out.alloc HB7.out.size _) (HO7.out.alloc _) HSY7.out q1 q2; have HT : Hid (RTh _ _ _ _ _ _) := hT; obtain ⟨sa, sc, hsh⟩ := row_shape q1; clear q1 q2 q3 hT; subst hsh)
      | (refine step_append_ents rfl (.tmp 51) (.tmp 53) rfl w.heap.size (w6.heap.size + 1) v5 (some ⟨w6.heap.size, 0, none⟩) 1 gs [(⟨t, li + 1, k, xa, xc, d⟩ : Ent)] (by simp [Act.eval]) (HO7.out.base (HN6.out w6 (Below.refl _ _))).row (by simp [Act.eval]) (HA2.out w7 ⟨HB7X.out.os, HB7X.out.tape, HB7X.out.output, HB7X.out.size, HB7X.out.block⟩) hlen7 (HN6.out w7 HB7.out) ?_; intro v' w8 q1 q2 q3; obtain ⟨⟨n2, nf, nx, nb⟩, hT⟩ := HG.out _ w8 v5 gs v' HB7.out HO7.out HSY7.out q1 q2; have HT : Hid (RTh _ _ _ _ _ _) := hT; obtain ⟨sa, sc, hsh⟩ := row_shape q1; clear q1 q2 q3 hT; subst hsh)
      | (go_simp; go_at_call 16; refine (HC2.out _ (by first | exact hB0 | exact hB1)).mono ?_; rintro r w7 ⟨v5, gs, rfl, hO7, hsy7, hgl, hB7, hB7x⟩; obtain ⟨⟨p2, p3, p4, p5, p6⟩, pz, pb⟩ := HXC.out w7 hB7; have HO7 : Hid (EntsOw _ _ _ _) := hO7; have HSY7 : Hid (_ = _) := hsy7; have HB7 : Hid (Below w6.heap.size w6 w7) := hB7; have HB7X : Hid (Below _ _ _) := hB7x; have hlen7 : gs.length + 1 ≤ 1000000000 := (by omega); clear hO7 hsy7 hB7 hB7x)
      | fail)
    all_goals (go_wp2; go_returns; exact ⟨by simp, by simpa [hgl] using HT.out⟩)
  · have hE' : ((E : Int) != 0) = true := by rw [bne_iff_ne]; omega
    have HR : Hid (RTh N S w w6 b R) := HNO.out w6 HB6.out hE
    have HE0 : Hid (¬ E = 0) := hE
    clear HNO HF hE
    go_wp2
    go_returns
    exact ⟨by simp, HR.out⟩
theorem RAppend_any {N : Nat} {S : Nat → Prop} {w : World} {b : Nat} {P : PL} (h : Rg N S w b P) (hN : N ≤ w.heap.size) (t k : Int) (a : Option Addr) (d : List UInt8) (cap M : Nat) (hs : Sl M w (.slice a d.length cap) d) (hM : M ≤ w.heap.size) (hd : d.length ≤ 1000000000) :
    Calls Try.prog 20 #[.pointer (some ⟨b, 0, none⟩), .int .i64 t, .int .i64 k, .slice a d.length cap] w fun r w' => r = .returned (.tuple #[.int .i64 (if apE P t k d.length = 0 then P.li + 1 else 0), .int .i64 (apE P t k d.length : Int)]) ∧ RTh N S w w' b (apL P t k d) := by
  have no : ∀ e, e ≠ 0 → apE P t k d.length = e → ((4611686018427387904 ≤ P.li ∧ e = 18) ∨ (P.li < 4611686018427387904 ∧ 10000 ≤ P.E.length ∧ e = 10) ∨ (P.li < 4611686018427387904 ∧ P.E.length < 10000 ∧ (t < P.lt ∨ t < 1 ∨ 4611686018427387904 < t) ∧ e = 1)) → Calls Try.prog 20 #[.pointer (some ⟨b, 0, none⟩), .int .i64 t, .int .i64 k, .slice a d.length cap] w fun r w' => r = .returned (.tuple #[.int .i64 (if apE P t k d.length = 0 then P.li + 1 else 0), .int .i64 (apE P t k d.length : Int)]) ∧ RTh N S w w' b (apL P t k d) := fun e h0 h1 h2 => by
    have hne : ¬ apE P t k d.length = 0 := by omega
    unfold apL
    rw [if_neg hne, if_neg hne, h1]
    exact (RAppend_no h t k a d.length cap e h2).mono (fun r w' q => ⟨q.1, h.th hN q.2⟩)
  rcases apE_cases P h.ok.lim.2 t k d.length with ⟨h1, h2⟩ | ⟨h1, h2, h3⟩ | ⟨h1, h2, h3, h4⟩ | ⟨h1, h2, h3, h4, h5, h6⟩
  · exact no 18 (by omega) h2 (.inl ⟨h1, rfl⟩)
  · exact no 10 (by omega) h3 (.inr (.inl ⟨h1, h2, rfl⟩))
  · exact no 1 (by omega) h4 (.inr (.inr ⟨h1, h2, h3, rfl⟩))
  · exact RAppend_ck h hN t k a d cap M hs hM hd h1 h2 h3 h4 h5 h6
end Go.Proofs.Yteekpfgjpdopmaa
