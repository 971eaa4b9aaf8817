/-
  Marks that move: move, Commit, Stable, Applied.
-/
import Derived.Test.YteekpfgjpdopmaaAp
namespace Go.Proofs.Yteekpfgjpdopmaa
open Go.RowKit
set_option linter.unusedVariables false

/-- Other marks. -/
def PL.mk' (P : PL) (h s c g a : Int) : PL := ⟨P.bi, P.bt, P.E, h, s, c, g, a⟩
/-- Are they others? -/
def moved (P : PL) (h s c g a : Int) : Bool := !((h == P.h) && (s == P.s) && (c == P.c) && (g == P.g) && (a == P.a))

theorem tm_mk (P : PL) (h s c g a i : Int) : (P.mk' h s c g a).tm i = P.tm i := rfl
theorem PL.Ok.mk' {P : PL} (h : P.Ok) {x s c g a : Int} (ba : P.bi ≤ a) (ag : a ≤ g) (gc : g ≤ c) (cl : c ≤ P.li) (gs : g ≤ s) (sh : s ≤ x) (hl : x ≤ P.li) : (P.mk' x s c g a).Ok :=
  ⟨h.base, h.ck, h.ix, fun k hk => h.up k hk, h.len, ba, ag, gc, cl, gs, sh, hl⟩

theorem set5 {w : World} {B : Nat} {x0 x1 x2 x3 x4 x5 x6 x7 : Value} {t : TypeId} (h : w.heap[B]? = some (.cells #[x0, x1, x2, x3, x4, x5, x6, x7] t (0, 0))) (y0 y1 y2 y3 y4 : Value) :
    (((((w.setCell ⟨B, 3, none⟩ y0).setCell ⟨B, 4, none⟩ y1).setCell ⟨B, 5, none⟩ y2).setCell ⟨B, 6, none⟩ y3).setCell ⟨B, 7, none⟩ y4).heap[B]? = some (.cells #[x0, x1, x2, y0, y1, y2, y3, y4] t (0, 0)) := by
  rw [heap_set (heap_set (heap_set (heap_set (heap_set h 3 y0) 4 y1) 5 y2) 6 y3) 7 y4]; rfl

/-- Behind a call the log is P, in the same blocks; nothing else has turned. -/
structure LK (N : Nat) (S : Nat → Prop) (w w' : World) (b : Nat) (P : PL) : Prop where
  q : Lg N S w' b P
  out : Out S w w'
theorem LK.pre {N : Nat} {S : Nat → Prop} {w w1 w' : World} {b : Nat} {P : PL} (h : LK N S w1 w' b P) (hB : Below w.heap.size w w1) : LK N S w w' b P :=
  ⟨h.q, (Out.of_below hB).trans h.out (fun i hi _ => hi)⟩
theorem LK.post {N : Nat} {S : Nat → Prop} {w w1 w' : World} {b : Nat} {P : PL} (h : LK N S w w1 b P) (hB : Below w1.heap.size w1 w') : LK N S w w' b P :=
  ⟨h.q.below hB, h.out.trans (Out.of_below hB) (fun i hi _ => hi)⟩
theorem LK.trans {N : Nat} {S : Nat → Prop} {w w1 w' : World} {b : Nat} {P P' : PL} (h : LK N S w w1 b P) (h' : LK N S w1 w' b P') : LK N S w w' b P' :=
  ⟨h'.q, h.out.trans h'.out (fun i hi _ => hi)⟩
theorem LK.bel {N : Nat} {S : Nat → Prop} {w w' : World} {b : Nat} {P : PL} (h : LK N S w w' b P) (hN : N ≤ w.heap.size) : Below N w w' := h.out.below hN (fun i hi => h.q.fr i hi)
theorem LK.th {N : Nat} {S : Nat → Prop} {w w' : World} {b : Nat} {P : PL} (h : LK N S w w' b P) (hN : N ≤ w.heap.size) : LTh N S w w' b P := by
  obtain ⟨v, es, hv, ho, hs, h1, h2⟩ := h.q.at_
  exact ⟨⟨⟨v, es, hv, ho, hs, fun g hg => .inl (h1 g hg), fun e he g hg => .inl (h2 e he g hg)⟩, h.q.ok, .inl h.q.Sb, fun i hi => hi.elim (fun h' => h.q.inn i h') (fun h' => h'.2), fun i hi => hi.elim (fun h' => h.q.fr i h') (fun h' => by omega)⟩, h.out⟩

/-- A log in memory, whatever its marks. -/
structure Lm (N : Nat) (S : Nat → Prop) (w : World) (b : Nat) (P : PL) : Prop where
  at_ : ∃ v es, w.heap[b]? = some (.cells #[.int .i64 P.bi, .int .i64 P.bt, v, .int .i64 P.h, .int .i64 P.s, .int .i64 P.c, .int .i64 P.g, .int .i64 P.a] 79 (0, 0)) ∧ EntsOw 0 w v es ∧ es.map Ent.says = P.E ∧ (∀ g, v.ownBlock = some g → S g) ∧ (∀ e ∈ es, ∀ g, e.x.ownBlock = some g → S g)
  Sb : S b
  inn : ∀ i, S i → i < w.heap.size
  fr : ∀ i, S i → N ≤ i
theorem Lg.lm {N : Nat} {S : Nat → Prop} {w : World} {b : Nat} {P : PL} (h : Lg N S w b P) : Lm N S w b P := ⟨h.at_, h.Sb, h.inn, h.fr⟩
theorem Lm.below {N : Nat} {S : Nat → Prop} {w w' : World} {b : Nat} {P : PL} (h : Lm N S w b P) (hB : Below w.heap.size w w') : Lm N S w' b P := by
  obtain ⟨v, es, hv, ho, hs, h1, h2⟩ := h.at_
  exact ⟨⟨v, es, (hB.block b (h.inn _ h.Sb)).trans hv, ho.below hB, hs, h1, h2⟩, h.Sb, fun i hi => Nat.lt_of_lt_of_le (h.inn i hi) hB.size, h.fr⟩

/-- The marks of a log have turned. -/
theorem Lm.marks {N : Nat} {S : Nat → Prop} {w w1 : World} {b : Nat} {P : PL} (h : Lm N S w b P) (hN : N ≤ w.heap.size) {x s c g a : Int} (hB : Below w.heap.size w w1) (hok : (P.mk' x s c g a).Ok) :
    LK N S w (((((w1.setCell ⟨b, 3, none⟩ (.int .i64 x)).setCell ⟨b, 4, none⟩ (.int .i64 s)).setCell ⟨b, 5, none⟩ (.int .i64 c)).setCell ⟨b, 6, none⟩ (.int .i64 g)).setCell ⟨b, 7, none⟩ (.int .i64 a)) b (P.mk' x s c g a) := by
  obtain ⟨v, es, hb, ho, hs, h1, h2⟩ := h.at_
  have hb1 := (hB.block b (h.inn _ h.Sb)).trans hb
  have hO : Out (fun i => i = b) w1 (((((w1.setCell ⟨b, 3, none⟩ (.int .i64 x)).setCell ⟨b, 4, none⟩ (.int .i64 s)).setCell ⟨b, 5, none⟩ (.int .i64 c)).setCell ⟨b, 6, none⟩ (.int .i64 g)).setCell ⟨b, 7, none⟩ (.int .i64 a)) :=
    (((((Out.refl (fun i => i = b) w1).put rfl).put rfl).put rfl).put rfl).put rfl
  have ho1 := ho.below hB
  have hOS : Out S w (((((w1.setCell ⟨b, 3, none⟩ (.int .i64 x)).setCell ⟨b, 4, none⟩ (.int .i64 s)).setCell ⟨b, 5, none⟩ (.int .i64 c)).setCell ⟨b, 6, none⟩ (.int .i64 g)).setCell ⟨b, 7, none⟩ (.int .i64 a)) := (Out.of_below hB).trans hO (fun i hi _ => by rw [hi]; exact h.Sb)
  refine ⟨⟨⟨v, es, ?_, ?_, hs, h1, h2⟩, hok, h.Sb, fun i hi => Nat.lt_of_lt_of_le (h.inn i hi) hOS.size, h.fr⟩, hOS⟩
  · exact set5 hb1 _ _ _ _ _
  · exact ho1.out hO (by rintro g hg rfl; exact ho1.not_at hb1 (by decide) hg) (by rintro e he g hg rfl; exact (ho1.dat e he).not_at hb1 (by decide) hg)

set_option maxRecDepth 100000 in
set_option maxHeartbeats 4000000 in
/-- move. -/
theorem move_raw {N : Nat} {S : Nat → Prop} {w : World} {b : Nat} {P : PL} (h : Lm N S w b P) (hN : N ≤ w.heap.size) (x s c g a : Int) (hok : (P.mk' x s c g a).Ok) :
    Calls Try.prog 78 #[.pointer (some ⟨b, 0, none⟩), .agg #[.int .i64 x, .int .i64 s, .int .i64 c, .int .i64 g, .int .i64 a]] w fun e w' => e = .returned (.bool (moved P x s c g a)) ∧ LK N S w w' b (P.mk' x s c g a) := by
  have HF : Hid (∀ w1, Below w.heap.size w w1 → LK N S w (((((w1.setCell ⟨b, 3, none⟩ (.int .i64 x)).setCell ⟨b, 4, none⟩ (.int .i64 s)).setCell ⟨b, 5, none⟩ (.int .i64 c)).setCell ⟨b, 6, none⟩ (.int .i64 g)).setCell ⟨b, 7, none⟩ (.int .i64 a)) b (P.mk' x s c g a)) := fun w1 hB => h.marks hN hB hok
  obtain ⟨v, es, hb, -⟩ := h.at_
  have hbw := h.inn _ h.Sb
  obtain ⟨W1, hW1⟩ : ∃ W1, w.alloc (.cells #[.int .i64 x, .int .i64 s, .int .i64 c, .int .i64 g, .int .i64 a] 55) = W1 := ⟨_, rfl⟩
  have HW1 : Hid (w.alloc (.cells #[.int .i64 x, .int .i64 s, .int .i64 c, .int .i64 g, .int .i64 a] 55) = W1) := hW1
  have HB1 : Hid (Below w.heap.size w W1) := by show Below _ _ _; rw [← hW1]; exact (Below.refl _ w).alloc (Nat.le_refl _) _
  obtain ⟨⟨-, -, -, m3, m4, m5, m6, m7⟩, mf⟩ := cells8 ((HB1.out.block b hbw).trans hb)
  have hX : W1.heap[w.heap.size]? = some (.cells #[.int .i64 x, .int .i64 s, .int .i64 c, .int .i64 g, .int .i64 a] 55 (0, 0)) := by rw [← hW1]; exact heap_alloc_new w _
  obtain ⟨⟨x0, x1, x2, x3, x4⟩, xf⟩ := cells5 hX
  have HM : Hid (moved P x s c g a = !((x == P.h) && (s == P.s) && (c == P.c) && (g == P.g) && (a == P.a))) := rfl
  rw [HM.out]
  clear h hb hok hX hW1 HM
  generalize P.h = h0 at *
  generalize P.s = s0 at *
  generalize P.c = c0 at *
  generalize P.g = g0 at *
  generalize P.a = a0 at *
  by_cases e0 : x = h0
  · subst e0
    by_cases e1 : s = s0
    · subst e1
      by_cases e2 : c = c0
      · subst e2
        by_cases e3 : g = g0
        · subst e3
          by_cases e4 : a = a0
          · subst e4
            go_enter Try.func78, Try.ntmps78
            go_wp2_with fail
            rw [HW1.out]
            go_quiet (fail)
            go_wp2
            go_ret
            refine ⟨by simp [*], ?_⟩
            exact HF.out _ (below_drewN HB1.out _)
          · have f4 : (a == a0) = false := by simpa using e4
            clear e4
            go_enter Try.func78, Try.ntmps78
            go_wp2_with fail
            rw [HW1.out]
            go_quiet (fail)
            go_wp2
            go_ret
            refine ⟨by simp [*], ?_⟩
            exact HF.out _ (below_drewN HB1.out _)
        · have f3 : (g == g0) = false := by simpa using e3
          clear e3
          go_enter Try.func78, Try.ntmps78
          go_wp2_with fail
          rw [HW1.out]
          go_quiet (fail)
          go_wp2
          go_ret
          refine ⟨by simp [*], ?_⟩
          exact HF.out _ (below_drewN HB1.out _)
      · have f2 : (c == c0) = false := by simpa using e2
        clear e2
        go_enter Try.func78, Try.ntmps78
        go_wp2_with fail
        rw [HW1.out]
        go_quiet (fail)
        go_wp2
        go_ret
        refine ⟨by simp [*], ?_⟩
        exact HF.out _ (below_drewN HB1.out _)
    · have f1 : (s == s0) = false := by simpa using e1
      clear e1
      go_enter Try.func78, Try.ntmps78
      go_wp2_with fail
      rw [HW1.out]
      go_quiet (fail)
      go_wp2
      go_ret
      refine ⟨by simp [*], ?_⟩
      exact HF.out _ (below_drewN HB1.out _)
  · have f0 : (x == h0) = false := by simpa using e0
    clear e0
    go_enter Try.func78, Try.ntmps78
    go_wp2_with fail
    rw [HW1.out]
    go_quiet (fail)
    go_wp2
    go_ret
    refine ⟨by simp [*], ?_⟩
    exact HF.out _ (below_drewN HB1.out _)

/-- move. -/
theorem move_any {N : Nat} {S : Nat → Prop} {w : World} {b : Nat} {P : PL} (h : Lg N S w b P) (hN : N ≤ w.heap.size) (x s c g a : Int) (hok : (P.mk' x s c g a).Ok) :
    Calls Try.prog 78 #[.pointer (some ⟨b, 0, none⟩), .agg #[.int .i64 x, .int .i64 s, .int .i64 c, .int .i64 g, .int .i64 a]] w fun e w' => e = .returned (.bool (moved P x s c g a)) ∧ LK N S w w' b (P.mk' x s c g a) :=
  move_raw h.lm hN x s c g a hok
end Go.Proofs.Yteekpfgjpdopmaa
