/-
  Bytes of any length: a copy, what is lent and kept; the document's Append of them.
-/
import Derived.Test.YteekpfgjpdopmaaDy
import Derived.Deep.RegionHeld3
namespace Go.Proofs.Yteekpfgjpdopmaa
open Go.RowKit
set_option linter.unusedVariables false

theorem run_append_owX (ty : TypeId) (w : World) (N M : Nat) (v xv : Value) (l m : List UInt8) (hv : Ow N w v l) (hsl : Sl M w xv m) (hlen : l.length + m.length ≤ 140737488355328) (hN : N ≤ w.heap.size) :
    ∃ v' w', (Builtin.append_ #[35, 35] ty #[v, xv]).run Try.prog w = .ok v' w' ∧ Ow N w' v' (l ++ m) ∧ w.grownBy w' v.ownBlock ∧ (v'.ownBlock = v.ownBlock ∨ v'.ownBlock = some w.heap.size) := by
  obtain ⟨i0, hi, hz0, hz1, hz2⟩ := info_parts info5
  obtain ⟨a, cap, rfl, h1, h2, h3⟩ := hsl
  have key : ∀ ad : Addr, (∀ j u, (m.map encB)[j]? = some u → w.cell? (ad.add j) = some u) → ∃ v' w', (Builtin.append_ #[35, 35] ty #[v, .slice (some ad) m.length cap]).run Try.prog w = .ok v' w' ∧ Ow N w' v' (l ++ m) ∧ w.grownBy w' v.ownBlock ∧ (v'.ownBlock = v.ownBlock ∨ v'.ownBlock = some w.heap.size) := by
    intro ad had
    obtain ⟨v', w', r1, r2, r3, _, r5⟩ := run_append_own_at (P := Try.prog) w N 35 ty 5 i0 (.int .u8 0) 1 1 Try.underlying35 hi hz0 hz1 hz2 rfl (by decide) v l.length (l.map encB) hv ad m.length cap (m.map encB) (by simp) had (by intro u hu; obtain ⟨x, _, rfl⟩ := List.mem_map.1 hu; rfl) (by unfold maxLen; omega) (by omega) hN
    exact ⟨v', w', r1, by unfold Ow; simpa using r2, r3, r5⟩
  rcases h3 with rfl | ⟨b, off, rfl, hb, hc⟩
  · cases a with
    | none =>
      refine ⟨v, w, ?_, by simpa using hv, grown_refl w _, .inl rfl⟩
      rcases hv.2 with ⟨rfl, _⟩ | ⟨g, cap', cur, rfl, _, _, hnc, _⟩
      · simp [Builtin.append_, run_underlying Try.underlying35, sizeOf, typeInfo, hi, Builtin.lenOf, Builtin.firstCells]
      · simp [Builtin.append_, run_underlying Try.underlying35, sizeOf, typeInfo, hi, Builtin.lenOf, Builtin.firstCells, hnc, storeCells]
    | some ad => exact key ad (by simp)
  · refine key _ (fun j u hj => ?_)
    simp only [List.getElem?_map, Option.map_eq_some_iff] at hj
    obtain ⟨x, hx, rfl⟩ := hj
    have hlt := (List.getElem?_eq_some_iff.1 hx).1
    have := hc j hlt
    rw [hx] at this
    rw [Addr.add_lit]
    simpa using this

theorem wpList_append_owX {ops : Array Oper} {rest : List Oper} {o : Oper} {a : Act} {Q : Exit → Act → World → Prop} {w : World} (hgd : o.guard = none) (s x : Operand)
    (ho : o.op = .call { callee := .builtin .append, args := #[s, x], argTypes := #[35, 35] })
    (N M : Nat) (v xv : Value) (l m : List UInt8) (hs : a.eval s = v) (hv : Ow N w v l) (hx : a.eval x = xv) (hsl : Sl M w xv m) (hlen : l.length + m.length ≤ 140737488355328) (hN : N ≤ w.heap.size)
    (h : ∀ v' w', Ow N w' v' (l ++ m) → w.grownBy w' v.ownBlock → (v'.ownBlock = v.ownBlock ∨ v'.ownBlock = some w.heap.size) → wpList Try.prog ops Q rest (a.put o.dst v') w') :
    wpList Try.prog ops Q (o :: rest) a w := by
  refine wpList_plain hgd fun K hK => ?_
  obtain ⟨v', w', hr, h2, h3, h4⟩ := run_append_owX o.type w N M v xv l m hv hsl hlen hN
  unfold Oper.wp execOp
  simp only [ho, resolve, invoke, builtin, Sem.run_bind, Sem.run_pure, Result.andThen_ok, List.map_toArray, List.map_cons, List.map_nil, hs, hx, hr]
  exact hK _ _ (h v' w' h2 h3 h4)

set_option maxRecDepth 100000 in
set_option maxHeartbeats 4000000 in
theorem bytes_anyX (M : Nat) (v : Value) (l : List UInt8) (w : World) (hv : Sl M w v l) (hM : M ≤ w.heap.size) (hl : l.length ≤ 140737488355328) :
    Calls Try.prog 72 #[v] w fun e w' => ∃ v', e = .returned v' ∧ Ow w.heap.size w' v' l ∧ Below w.heap.size w w' := by
  obtain ⟨a, cap, rfl, -⟩ := id hv
  go_enter Try.func72, Try.ntmps72
  have hO0 : Ow w.heap.size (w.alloc (.cells #[] 5)) (.slice (some ⟨w.heap.size, 0, none⟩) 0 0) [] :=
    ⟨by simp, .inr ⟨w.heap.size, 0, #[], rfl, Nat.le_refl _, heap_alloc_new w _, by simp, by unfold maxLen; omega, by simp, by simp⟩⟩
  have hB0 : Below w.heap.size w (w.alloc (.cells #[] 5)) := (Below.refl _ w).alloc (Nat.le_refl _) _
  have hv1 := hv.below (hB0.mono hM)
  go_wp2_with (at_builtin; refine wpList_append_owX rfl _ _ rfl w.heap.size M _ _ [] l rfl hO0 rfl hv1 (by simpa using hl) (by simp) ?_; intro v' w1 hO hg _)
  go_ret
  exact ⟨v', rfl, hO, hB0.grown hg (by simp) (fun k e => by cases e; exact Nat.le_refl _)⟩
theorem Ow.lent {N M : Nat} {w : World} {g cap : Nat} {l : List UInt8} (h : Ow N w (.slice (some ⟨g, 0, none⟩) (l.length + 1) cap) (l ++ [201])) (hM : w.heap.size ≤ M) : Sl M w (.slice (some ⟨g, 0, none⟩) l.length cap) l := by
  obtain ⟨a, c, e, h1, h2, h3⟩ := h.sl hM
  have hlen : (l ++ [(201 : UInt8)]).length = l.length + 1 := by simp
  rw [hlen] at e h1
  cases e
  refine ⟨_, _, rfl, by omega, h2, ?_⟩
  obtain ⟨b, off, e2, hb, hc⟩ := h3.resolve_left (by simp)
  refine .inr ⟨b, off, e2, hb, fun i hi => ?_⟩
  rw [hc i (by omega)]
  simp [List.getElem?_append, hi]

theorem Ow.mark {N : Nat} {w : World} {g cap : Nat} {l : List UInt8} (h : Ow N w (.slice (some ⟨g, 0, none⟩) (l.length + 1) cap) (l ++ [201])) : w.cell? ⟨g, l.length, none⟩ = some (.int .u8 201) ∧ l.length + 1 ≤ cap ∧ cap ≤ maxLen := by
  obtain ⟨a, c, e, h1, h2, h3⟩ := h.sl (Nat.le_refl _)
  have hlen : (l ++ [(201 : UInt8)]).length = l.length + 1 := by simp
  rw [hlen] at e h1
  cases e
  obtain ⟨b, off, e2, hb, hc⟩ := h3.resolve_left (by simp)
  cases e2
  refine ⟨?_, h1, h2⟩
  have := hc l.length (by omega)
  rw [Nat.zero_add] at this
  rw [this]
  simp [encB]

set_option maxRecDepth 100000 in
set_option maxHeartbeats 4000000 in
theorem lent_any (M : Nat) (v : Value) (l : List UInt8) (w : World) (hv : Sl M w v l) (hM : M ≤ w.heap.size) (hl : l.length ≤ 140737488351232) :
    Calls Try.prog 45 #[v] w fun e w' => ∃ g cap, e = .returned (.slice (some ⟨g, 0, none⟩) l.length cap) ∧ Ow w.heap.size w' (.slice (some ⟨g, 0, none⟩) (l.length + 1) cap) (l ++ [201]) ∧ Below w.heap.size w w' := by
  obtain ⟨a, c, rfl, -⟩ := id hv
  go_enter Try.func45, Try.ntmps45
  go_wp2_with fail
  refine (bytes_anyX M _ l _ hv hM (by omega)).mono ?_
  rintro e w1 ⟨v1, rfl, hO1, hB1⟩
  obtain ⟨a1, c1, rfl, -, -⟩ := hO1.shape
  have hz1 := hB1.size
  have hs2 := sl_new w1 [201] #[.int .u8 201] (by simp) (by simp) (by rfl)
  have hO2 := hO1.alloc (.cells #[.int .u8 201] 5)
  have hlen : (l ++ [(201 : UInt8)]).length = l.length + 1 := by simp
  go_wp2_with (at_builtin; refine wpList_append_owX rfl _ _ rfl w.heap.size _ _ _ l [201] rfl hO2 rfl hs2 (by simp; omega) (by simp; omega) ?_; intro v3 w3 hO3 hg3 hn3; obtain ⟨a3, c3, rfl, hc3, hm3⟩ := hO3.shape; obtain ⟨g, u, rfl, hgl, -, -⟩ := hO3.can 0 (by simp); rw [hlen] at hO3 hc3 ⊢; have hc3' : l.length ≤ c3 := by omega)
  go_ret
  refine ⟨g, c3, rfl, hO3, ?_⟩
  exact (hB1.alloc hz1 _).grown hg3 (by simp; omega) (fun k hk => (World.ownsRow.lt hO1 k hk).1)

set_option maxRecDepth 100000 in
set_option maxHeartbeats 4000000 in
theorem kept_any (N g cap : Nat) (v : Value) (l : List UInt8) (w : World) (hl : l.length ≤ 140737488351232) (hO : Ow N w (.slice (some ⟨g, 0, none⟩) (l.length + 1) cap) (l ++ [201])) (hv : Sl w.heap.size w v l) :
    Calls Try.prog 46 #[.slice (some ⟨g, 0, none⟩) l.length cap, v] w fun e w' => e = .returned (.bool true) ∧ ∃ n, w' = w.drewN n := by
  have hs := hO.lent (Nat.le_refl _)
  obtain ⟨hmk, hc, hm⟩ := hO.mark
  obtain ⟨a, c, rfl, -⟩ := id hv
  unfold maxLen at hm
  go_enter Try.func46, Try.ntmps46
  go_wp2_with fail
  refine (same_any _ _ _ l l _ hs hv).mono ?_
  rintro e w1 ⟨rfl, n1, rfl⟩
  simp only [decide_true]
  have hmk1 : (w.drewN n1).cell? ⟨g, l.length, none⟩ = some (.int .u8 201) := hmk
  clear hs hv hO
  go_wp2
  go_ret
  exact ⟨rfl, _, rfl⟩

set_option maxRecDepth 100000 in
set_option maxHeartbeats 8000000 in
theorem RAppend_ckX {N : Nat} {S : Nat → Prop} {w : World} {b : Nat} {P : PL} (h : Rg N S w b P) (hN : N ≤ w.heap.size) (t k : Int) (a : Option Addr) (d : List UInt8) (cap M : Nat) (hs : Sl M w (.slice a d.length cap) d) (hM : M ≤ w.heap.size) (hd : d.length ≤ 140737488355328)
    (h1 : P.li < 4611686018427387904) (h2 : P.E.length < 10000) (h3 : P.lt ≤ t) (h4 : 1 ≤ t) (h5 : t ≤ 4611686018427387904) (he : apE P t k d.length = ckEntry t (P.li + 1) k d.length) :
    Calls Try.prog 20 #[.pointer (some ⟨b, 0, none⟩), .int .i64 t, .int .i64 k, .slice a d.length cap] w fun r w' => r = .returned (.tuple #[.int .i64 (if apE P t k d.length = 0 then P.li + 1 else 0), .int .i64 (apE P t k d.length : Int)]) ∧ RTh N S w w' b (apL P t k d) := by
  obtain ⟨va, vc, hvc, hvm, hsh, hcs, hcp⟩ := h.copy
  have hbw := h.inn _ h.Sb
  have HCS : Hid (∀ w1, Below w.heap.size w w1 → _) := hcs
  have HL : Hid (∀ w1, Below w.heap.size w w1 → Calls _ _ _ w1 _) := fun w1 hB => RLast_any (h.below hB)
  have HT : Hid (∀ w1, Below w.heap.size w w1 → Calls _ _ _ w1 _) := fun w1 hB => RLT_any (h.below hB)
  have HBY : Hid (∀ w1, Below w.heap.size w w1 → Calls Try.prog 72 #[.slice a d.length cap] w1 fun e w' => ∃ xa xc, e = .returned (.slice xa d.length xc) ∧ Ow w.heap.size w' (.slice xa d.length xc) d ∧ Below w.heap.size w w') := fun w1 hB => by
    refine (bytes_anyX M _ d w1 (hs.below (hB.mono hM)) (Nat.le_trans hM hB.size) (by omega)).mono ?_
    rintro e w' ⟨v', rfl, hO, hB'⟩
    obtain ⟨xa, xc, rfl, -, -⟩ := hO.shape
    exact ⟨xa, xc, rfl, hO.base hB.size, hB.trans (hB'.mono hB.size)⟩
  have hlim := h.ok.lim
  have h0 := h.ok.b0
  have h2' : (P.E.length : Int) < 10000 := by omega
  have hw1 : IntKind.i64.wrap (P.li + 1) = P.li + 1 := by rw [IntKind.wrap_i64]; omega
  have HNO : Hid (∀ w1, Below w.heap.size w w1 → apE P t k d.length ≠ 0 → RTh N S w w1 b (apL P t k d)) := fun w1 hB hne => by unfold apL; rw [if_neg hne]; exact h.th hN hB
  have HF : Hid (∀ (W5 w4 : World) (v5 v' : Value) (gs : List Ent) xa xc, apE P t k d.length = 0 → Below w.heap.size w W5 → EntsOw w.heap.size W5 v5 gs → gs.map Ent.says = P.E → Ow w.heap.size W5 (.slice xa d.length xc) d → w4.ownsRow w.heap.size 40 4 v' (gs.length + 1) (entCells gs ++ entCells [(⟨t, P.li + 1, k, xa, xc, d⟩ : Ent)]) → W5.grownBy w4 v5.ownBlock → RTh N S w (w4.setCell ⟨b, 2, none⟩ v') b (apL P t k d) ∧ Below w.heap.size w w4) := fun W5 w4 v5 v' gs xa xc h0 hB hO hsy hx hr hg => by
    have hB4 : Below w.heap.size w w4 := hB.grown hg hB.size (fun i hi => (hO.lt hi).1)
    have hfin := EntsOw.app (fs := [(⟨t, P.li + 1, k, xa, xc, d⟩ : Ent)]) hO (fun e he => by obtain rfl := List.mem_singleton.1 he; exact hx) (by simpa using hr) hg
    have e : apL P t k d = apP P t k d := by unfold apL; rw [if_pos h0]
    rw [e]
    refine ⟨RTh.mk' (h.rw.ents hN hB4 hfin ?_ ⟨rfl, rfl, rfl, rfl, rfl, rfl, rfl⟩) (apP_ok h.ok h0), hB4⟩
    rw [List.map_append, hsy]; rfl
  have hlen := h.ok.len
  have HCE : Hid (∀ w1, Below w.heap.size w w1 → Calls Try.prog 16 #[.slice va P.E.length vc] w1 fun e w' => ∃ v gs, e = .returned v ∧ EntsOw w1.heap.size w' v gs ∧ gs.map Ent.says = P.E ∧ gs.length = P.E.length ∧ Below w1.heap.size w1 w') := fun w1 hB => by
    have := hcp 0 P.E.length (by omega) w1 va vc hB (hsh.elim (fun q => .inl q.2.2) (fun ⟨g, q⟩ => .inr (.inr ⟨g, q, by rw [q]⟩)))
    rw [List.drop_zero, List.take_of_length_le (Nat.le_refl _)] at this
    refine this.mono ?_
    rintro e w' ⟨v, gs, rfl, q1, q2, q3⟩
    exact ⟨v, gs, rfl, q1, q2, by have := congrArg List.length q2; simpa using this, q3⟩
  have HCK : Hid (∀ xa xc w1, Calls Try.prog 44 #[.agg #[.int .i64 t, .int .i64 (P.li + 1), .int .i64 k, .slice xa d.length xc]] w1 fun e w' => e = .returned (.int .i64 (apE P t k d.length : Int)) ∧ Below w1.heap.size w1 w') := fun xa xc w1 => by rw [he]; exact refCkEntry_any t (P.li + 1) k xa d.length xc w1
  obtain ⟨m, hm⟩ : ∃ m, P.E.length = m := ⟨_, rfl⟩
  obtain ⟨L, hL⟩ : ∃ L, P.E = L := ⟨_, rfl⟩
  rw [hm] at HCS HCE h2' hlen
  clear h hcs hcp hsh hs he hvc hvm h0 h2
  generalize apL P t k d = R at *
  generalize apE P t k d.length = E at *
  generalize P.li = li at *
  generalize P.lt = lt at *
  go_enter Try.func20, Try.ntmps20
  go_wp2_with fail
  refine (HL.out w (Below.refl _ _)).mono ?_
  rintro r w1 ⟨rfl, hB1⟩
  obtain ⟨⟨-, -, k2, -, -, -, -, -⟩, -, kb⟩ := HCS.out w1 hB1
  have HB1 : Hid (Below w.heap.size w w1) := hB1
  clear hB1
  go_wp2_with fail
  refine (HT.out w1 HB1.out).mono ?_
  rintro r w2 ⟨rfl, hB2⟩
  have HB2 : Hid (Below w.heap.size w w2) := HB1.out.trans (hB2.mono HB1.out.size)
  clear hB2 k2 kb HB1 HT
  go_wp2_with fail
  refine (HL.out w2 HB2.out).mono ?_
  rintro r w3 ⟨rfl, hB3⟩
  have HB3 : Hid (Below w.heap.size w w3) := HB2.out.trans (hB3.mono HB2.out.size)
  clear hB3 HB2 HL
  go_wp2_with fail
  refine (HBY.out w3 HB3.out).mono ?_
  rintro r w4 ⟨xa, xc, rfl, hO4, hB4⟩
  obtain ⟨W5, hW5⟩ : ∃ W5, w4.alloc (.cells #[.int .i64 t, .int .i64 (li + 1), .int .i64 k, .slice xa d.length xc] 40) = W5 := ⟨_, rfl⟩
  have HW5 : Hid (w4.alloc (.cells #[.int .i64 t, .int .i64 (li + 1), .int .i64 k, .slice xa d.length xc] 40) = W5) := hW5
  have HX5 : Hid (W5.heap[w4.heap.size]? = some (.cells #[.int .i64 t, .int .i64 (li + 1), .int .i64 k, .slice xa d.length xc] 40 (0, 0))) := by show _ = _; rw [← hW5]; exact heap_alloc_new w4 _
  have HB5 : Hid (Below w.heap.size w W5) := by show Below _ _ _; rw [← hW5]; exact hB4.alloc hB4.size _
  have HO5 : Hid (Ow w.heap.size W5 (.slice xa d.length xc) d) := by show Ow _ _ _ _; rw [← hW5]; exact hO4.alloc _
  have hbx : b < w4.heap.size := Nat.lt_of_lt_of_le hbw hB4.size
  have HBW : Hid (w.heap.size ≤ w4.heap.size) := hB4.size
  obtain ⟨⟨x0, x1, x2, x3⟩, xf⟩ := cells4 HX5.out
  clear hO4 hB4 hW5 HB3 HBY
  go_wp2_with fail
  rw [HW5.out]
  go_wp2_with fail
  refine (HCK.out xa xc W5).mono ?_
  rintro r w6 ⟨rfl, hB6⟩
  have HB56 : Hid (Below W5.heap.size W5 w6) := hB6
  have HB6 : Hid (Below w.heap.size w w6) := HB5.out.trans (hB6.mono HB5.out.size)
  have HX6 : Hid (w6.heap[w4.heap.size]? = some (.cells #[.int .i64 t, .int .i64 (li + 1), .int .i64 k, .slice xa d.length xc] 40 (0, 0))) := (hB6.block _ (Array.getElem?_eq_some_iff.1 HX5.out).1).trans HX5.out
  have HO6 : Hid (Ow w.heap.size w6 (.slice xa d.length xc) d) := HO5.out.below hB6 (Nat.le_refl _)
  clear hB6 x0 x1 x2 x3 xf HCK HX5 HO5
  by_cases hE : E = 0
  · subst hE
    have hE' : ((0 : Int) != 0) = false := by rfl
    have hB0 : Below w6.heap.size w6 w6.drew := (Below.refl _ w6).drew
    have hB1 : Below w6.heap.size w6 (w6.alloc (.cells #[.int .i64 t, .int .i64 (li + 1), .int .i64 k, .slice xa d.length xc] 40)).drew := ((Below.refl _ w6).alloc (Nat.le_refl _) _).drew
    have hx6 : w4.heap.size < w6.heap.size := (Array.getElem?_eq_some_iff.1 HX6.out).1
    have HC2 : Hid (∀ X, Below w6.heap.size w6 X → Calls Try.prog 16 #[.slice va m vc] X fun e w' => ∃ v gs, e = .returned v ∧ EntsOw w6.heap.size w' v gs ∧ gs.map Ent.says = P.E ∧ gs.length = m ∧ Below w6.heap.size w6 w' ∧ Below X.heap.size X w') := fun X hX => by
      refine (HCE.out X (HB6.out.trans (hX.mono HB6.out.size))).mono ?_
      rintro e w' ⟨v, gs, rfl, q1, q2, q3, q4⟩
      exact ⟨v, gs, rfl, q1.base hX.size, q2, q3, hX.trans (q4.mono hX.size), q4⟩
    have HG : Hid (∀ (W7 w8 : World) (v5 : Value) (gs : List Ent) (v' : Value), Below w6.heap.size w6 W7 → EntsOw w6.heap.size W7 v5 gs → gs.map Ent.says = P.E → w8.ownsRow w.heap.size 40 4 v' (gs.length + 1) (entCells gs ++ entCells [(⟨t, li + 1, k, xa, xc, d⟩ : Ent)]) → W7.grownBy w8 v5.ownBlock → (w8.cell? ⟨b, 2, none⟩ = some (.slice va m vc) ∧ w8.frozen? ⟨b, 2, none⟩ = false ∧ w8.cell? ⟨w4.heap.size, 1, none⟩ = some (.int .i64 (li + 1)) ∧ b < w8.heap.size) ∧ RTh N S w (w8.setCell ⟨b, 2, none⟩ v') b R) := fun W7 w8 v5 gs v' hB7 hO7 hsy q1 q2 => by
      have hBW : Below w.heap.size w W7 := HB6.out.trans (hB7.mono HB6.out.size)
      obtain ⟨f1, f2⟩ := HF.out W7 w8 v5 v' gs xa xc rfl hBW (hO7.base HB6.out.size) hsy (HO6.out.below hB7 (Nat.le_refl _)) q1 q2
      obtain ⟨⟨-, -, c2, -, -, -, -, -⟩, cf, cb⟩ := HCS.out w8 f2
      have h68 : Below w6.heap.size w6 w8 := hB7.grown q2 hB7.size (fun i hi => (hO7.lt hi).1)
      exact ⟨⟨c2, cf 2, (cells4 ((h68.block _ hx6).trans HX6.out)).1.2.1, cb⟩, f1⟩
    have HXC : Hid (∀ X, Below w6.heap.size w6 X → (X.cell? ⟨b, 2, none⟩ = some (.slice va m vc) ∧ X.cell? ⟨w4.heap.size, 0, none⟩ = some (.int .i64 t) ∧ X.cell? ⟨w4.heap.size, 1, none⟩ = some (.int .i64 (li + 1)) ∧ X.cell? ⟨w4.heap.size, 2, none⟩ = some (.int .i64 k) ∧ X.cell? ⟨w4.heap.size, 3, none⟩ = some (.slice xa d.length xc)) ∧ w4.heap.size < X.heap.size ∧ b < X.heap.size) := fun X hX => by
      obtain ⟨⟨-, -, c2, -, -, -, -, -⟩, cf, cb⟩ := HCS.out X (HB6.out.trans (hX.mono HB6.out.size))
      have hx := (hX.block _ hx6).trans HX6.out
      exact ⟨⟨c2, (cells4 hx).1⟩, (Array.getElem?_eq_some_iff.1 hx).1, cb⟩
    have hoe := HO6.out.sl (Nat.le_refl _)
    have HA1 : Hid (∀ w7, Below w6.heap.size w6 w7 → EntsAt (w7.heap.size + 1) (w7.alloc (.cells #[.int .i64 t, .int .i64 (li + 1), .int .i64 k, .slice xa d.length xc] 40)) (some ⟨w7.heap.size, 0, none⟩) [(⟨t, li + 1, k, xa, xc, d⟩ : Ent)]) := fun w7 h7 => ents_one w7 (⟨t, li + 1, k, xa, xc, d⟩ : Ent) w7.heap.size (Nat.le_refl _) ((hoe.below h7).mono h7.size) (Nat.le_refl _)
    have HA2 : Hid (∀ w7, Below (w6.alloc (.cells #[.int .i64 t, .int .i64 (li + 1), .int .i64 k, .slice xa d.length xc] 40)).heap.size (w6.alloc (.cells #[.int .i64 t, .int .i64 (li + 1), .int .i64 k, .slice xa d.length xc] 40)) w7 → EntsAt (w6.heap.size + 1) w7 (some ⟨w6.heap.size, 0, none⟩) [(⟨t, li + 1, k, xa, xc, d⟩ : Ent)]) := fun w7 h7 => (ents_one w6 (⟨t, li + 1, k, xa, xc, d⟩ : Ent) w6.heap.size (Nat.le_refl _) hoe (Nat.le_refl _)).below (h7.mono (by simp))
    obtain ⟨⟨k2, y0, y1, y2, y3⟩, -, kb⟩ := HXC.out w6 (Below.refl _ _)
    have HN6 : Hid (∀ X, Below w6.heap.size w6 X → w.heap.size ≤ X.heap.size) := fun X hX => Nat.le_trans HB6.out.size hX.size
    clear hoe HNO HF HCE
    go_wp2_with fail
    go_region_law (first
      | (refine step_append_ents rfl (.tmp 51) (.tmp 53) rfl w.heap.size (w7.heap.size + 1) v5 (some ⟨w7.heap.size, 0, none⟩) 1 gs [(⟨t, li + 1, k, xa, xc, d⟩ : Ent)] (by simp [Act.eval]) ((HO7.out.base (HN6.out w6 (Below.refl _ _))).alloc _).row (by simp [Act.eval]) (HA1.out w7 HB7.out) hlen7 (Nat.le_trans (HN6.out w7 HB7.out) (by simp)) ?_; intro v' w8 q1 q2 q3; obtain ⟨⟨n2, nf, nx, nb⟩, hT⟩ := HG.out _ w8 v5 gs v' (HB7.out.alloc HB7.out.size _) (HO7.out.alloc _) HSY7.out q1 q2; have HT : Hid (RTh _ _ _ _ _ _) := hT; obtain ⟨sa, sc, hsh⟩ := row_shape q1; clear q1 q2 q3 hT; subst hsh)
      | (refine step_append_ents rfl (.tmp 51) (.tmp 53) rfl w.heap.size (w6.heap.size + 1) v5 (some ⟨w6.heap.size, 0, none⟩) 1 gs [(⟨t, li + 1, k, xa, xc, d⟩ : Ent)] (by simp [Act.eval]) (HO7.out.base (HN6.out w6 (Below.refl _ _))).row (by simp [Act.eval]) (HA2.out w7 ⟨HB7X.out.os, HB7X.out.tape, HB7X.out.output, HB7X.out.size, HB7X.out.block⟩) hlen7 (HN6.out w7 HB7.out) ?_; intro v' w8 q1 q2 q3; obtain ⟨⟨n2, nf, nx, nb⟩, hT⟩ := HG.out _ w8 v5 gs v' HB7.out HO7.out HSY7.out q1 q2; have HT : Hid (RTh _ _ _ _ _ _) := hT; obtain ⟨sa, sc, hsh⟩ := row_shape q1; clear q1 q2 q3 hT; subst hsh)
      | (go_simp; go_at_call 16; refine (HC2.out _ (by first | exact hB0 | exact hB1)).mono ?_; rintro r w7 ⟨v5, gs, rfl, hO7, hsy7, hgl, hB7, hB7x⟩; obtain ⟨⟨p2, p3, p4, p5, p6⟩, pz, pb⟩ := HXC.out w7 hB7; have HO7 : Hid (EntsOw _ _ _ _) := hO7; have HSY7 : Hid (_ = _) := hsy7; have HB7 : Hid (Below w6.heap.size w6 w7) := hB7; have HB7X : Hid (Below _ _ _) := hB7x; have hlen7 : gs.length + 1 ≤ 1000000000 := (by omega); clear hO7 hsy7 hB7 hB7x)
      | fail)
    all_goals (go_wp2; go_returns; exact ⟨by simp, by simpa [hgl] using HT.out⟩)
  · have hE' : ((E : Int) != 0) = true := by rw [bne_iff_ne]; omega
    have HR : Hid (RTh N S w w6 b R) := HNO.out w6 HB6.out hE
    have HE0 : Hid (¬ E = 0) := hE
    clear HNO HF hE
    go_wp2
    go_returns
    exact ⟨by simp, HR.out⟩
set_option maxHeartbeats 1000000 in
theorem RAppend_anyX {N : Nat} {S : Nat → Prop} {w : World} {b : Nat} {P : PL} (h : Rg N S w b P) (hN : N ≤ w.heap.size) (t k : Int) (a : Option Addr) (d : List UInt8) (cap M : Nat) (hs : Sl M w (.slice a d.length cap) d) (hM : M ≤ w.heap.size) (hd : d.length ≤ 140737488355328) :
    Calls Try.prog 20 #[.pointer (some ⟨b, 0, none⟩), .int .i64 t, .int .i64 k, .slice a d.length cap] w fun r w' => r = .returned (.tuple #[.int .i64 (if apE P t k d.length = 0 then P.li + 1 else 0), .int .i64 (apE P t k d.length : Int)]) ∧ RTh N S w w' b (apL P t k d) := by
  have no : ∀ e, e ≠ 0 → apE P t k d.length = e → ((4611686018427387904 ≤ P.li ∧ e = 18) ∨ (P.li < 4611686018427387904 ∧ 10000 ≤ P.E.length ∧ e = 10) ∨ (P.li < 4611686018427387904 ∧ P.E.length < 10000 ∧ (t < P.lt ∨ t < 1 ∨ 4611686018427387904 < t) ∧ e = 1)) → Calls Try.prog 20 #[.pointer (some ⟨b, 0, none⟩), .int .i64 t, .int .i64 k, .slice a d.length cap] w fun r w' => r = .returned (.tuple #[.int .i64 (if apE P t k d.length = 0 then P.li + 1 else 0), .int .i64 (apE P t k d.length : Int)]) ∧ RTh N S w w' b (apL P t k d) := fun e h0 h1 h2 => by
    have hne : ¬ apE P t k d.length = 0 := by omega
    unfold apL
    rw [if_neg hne, if_neg hne, h1]
    exact (RAppend_no h t k a d.length cap e h2).mono (fun r w' q => ⟨q.1, h.th hN q.2⟩)
  rcases apE_cases P h.ok.lim.2 t k d.length with ⟨h1, h2⟩ | ⟨h1, h2, h3⟩ | ⟨h1, h2, h3, h4⟩ | ⟨h1, h2, h3, h4, h5, h6⟩
  · exact no 18 (by omega) h2 (.inl ⟨h1, rfl⟩)
  · exact no 10 (by omega) h3 (.inr (.inl ⟨h1, h2, rfl⟩))
  · exact no 1 (by omega) h4 (.inr (.inr ⟨h1, h2, h3, rfl⟩))
  · exact RAppend_ckX h hN t k a d cap M hs hM hd h1 h2 h3 h4 h5 h6
end Go.Proofs.Yteekpfgjpdopmaa
