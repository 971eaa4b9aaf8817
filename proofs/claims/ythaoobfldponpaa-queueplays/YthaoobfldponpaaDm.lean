/-
  Rows of the call's own side by side; two queues with the rows that say what is in them.
-/
import Derived.Test.YthaoobfldponpaaMvo
import Derived.Test.YthaoobfldponpaaEch
namespace Go.Proofs.Ythaoobfldponpaa
open Go.RowKit
set_option linter.unusedVariables false

theorem step_append_oq {ops : Array Oper} {o : Oper} {a : Act} {w : World} {K : Act → World → Prop} {Q : Exit → Act → World → Prop} {E : Prop}
    (hg : o.guard = none) (s x : Operand) (hop : o.op = Op.call { callee := Callee.builtin Builtin.append, args := #[s, x], argTypes := #[26, 26] })
    (N M : Nat) (v xv : Value) (l m : List Int) (hs : a.eval s = v) (hv : Ow N w v l) (hx : a.eval x = xv) (hsl : Sl M w xv m) (hlen : l.length + m.length ≤ 1099511627776) (hN : N ≤ w.heap.size)
    (hK : ∀ v' w', Ow N w' v' (l ++ m) → w.grownBy w' v.ownBlock → (v'.ownBlock = v.ownBlock ∨ v'.ownBlock = some w.heap.size) → K (a.put o.dst v') w') :
    if Region.wanted o (yielded ops a.tmps) = true then Oper.wp Try.prog o a w K Q else E := by
  have hw : Region.wanted o (yielded ops a.tmps) = true := by simp [Region.wanted, hg]
  rw [if_pos hw]
  obtain ⟨v', w', hr, h2, h3, h4⟩ := run_append_ow o.type w N M v xv l m hv hsl hlen hN
  unfold Oper.wp
  simp [execOp, hop, resolve, invoke, builtin, hs, hx, hr, Result.andThen]
  exact hK v' w' h2 h3 h4

/-- Rows of the call's own, apart from each other, in a world that has only grown since W. -/
structure Mem (N : Nat) (W V : World) (rows : List (Value × List Int)) : Prop where
  bel : Below N W V
  hN : N ≤ V.heap.size
  own : ∀ r ∈ rows, Ow N V r.1 r.2
  ap : rows.Pairwise (fun r s => ∀ g, r.1.ownBlock = some g → s.1.ownBlock ≠ some g)
theorem Mem.start {N : Nat} {W V : World} (h : Below N W V) (hN : N ≤ W.heap.size) : Mem N W V [] := ⟨h, Nat.le_trans hN h.size, (fun r hr => absurd hr List.not_mem_nil), List.Pairwise.nil⟩
theorem Mem.hd {N : Nat} {W V : World} {x : Value} {l : List Int} {rows : List (Value × List Int)} (h : Mem N W V ((x, l) :: rows)) : Ow N V x l := h.own _ List.mem_cons_self
theorem Mem.snd {N : Nat} {W V : World} {x y : Value} {l m : List Int} {rows : List (Value × List Int)} (h : Mem N W V ((x, l) :: (y, m) :: rows)) : Ow N V y m := h.own _ (List.mem_cons_of_mem _ List.mem_cons_self)
theorem Mem.push {N : Nat} {W V : World} {rows : List (Value × List Int)} (h : Mem N W V rows) (c : Array Value) (l : List Int) (hc : Ow N (V.alloc (.cells c 3)) (.slice (some ⟨V.heap.size, 0, none⟩) l.length l.length) l) : Mem N W (V.alloc (.cells c 3)) ((.slice (some ⟨V.heap.size, 0, none⟩) l.length l.length, l) :: rows) := by
  refine ⟨h.bel.alloc h.hN _, by have := h.hN; simp; omega, fun r hr => ?_, List.pairwise_cons.2 ⟨fun s hs g hg e => ?_, h.ap⟩⟩
  · rcases List.mem_cons.1 hr with rfl | hr
    · exact hc
    · exact (h.own r hr).alloc _
  · have h1 := ((h.own s hs).lt e).2
    have h2 : V.heap.size = g := by simpa [Value.ownBlock] using hg
    omega
theorem Mem.new0 {N : Nat} {W V : World} {rows : List (Value × List Int)} (h : Mem N W V rows) {B : Nat} (hB : B = V.heap.size) : Mem N W (V.alloc (.cells #[] 3)) ((.slice (some ⟨B, 0, none⟩) 0 0, []) :: rows) :=
  hB ▸ h.push #[] [] ⟨by simp, .inr ⟨V.heap.size, 0, #[], rfl, h.hN, heap_alloc_new V _, by simp, by unfold maxLen; omega, by simp, by simp⟩⟩
theorem Mem.one {N : Nat} {W V : World} {rows : List (Value × List Int)} (h : Mem N W V rows) (n : Int) {B : Nat} (hB : B = V.heap.size) : Mem N W (V.alloc (.cells #[.int .i64 n] 3)) ((.slice (some ⟨B, 0, none⟩) 1 1, [n]) :: rows) :=
  hB ▸ h.push #[.int .i64 n] [n] ⟨by simp, .inr ⟨V.heap.size, 1, #[.int .i64 n], rfl, h.hN, heap_alloc_new V _, by simp, by unfold maxLen; omega, by simp, by simp⟩⟩
theorem Mem.swap {N : Nat} {W V : World} {a b : Value × List Int} {rows : List (Value × List Int)} (h : Mem N W V (a :: b :: rows)) : Mem N W V (b :: a :: rows) := by
  obtain ⟨h1, h2⟩ := List.pairwise_cons.1 h.ap
  obtain ⟨h3, h4⟩ := List.pairwise_cons.1 h2
  refine ⟨h.bel, h.hN, fun r hr => h.own r ?_, List.pairwise_cons.2 ⟨fun s hs => ?_, List.pairwise_cons.2 ⟨fun s hs => h1 s (by simp [hs]), h4⟩⟩⟩
  · simp only [List.mem_cons] at hr ⊢
    rcases hr with h | h | h <;> simp [h]
  · rcases List.mem_cons.1 hs with rfl | hs
    · exact fun g hg e => h1 b List.mem_cons_self g e hg
    · exact h3 s hs
theorem Mem.app {N : Nat} {W V w' : World} {x x' : Value} {l l' : List Int} {rows : List (Value × List Int)} (h : Mem N W V ((x, l) :: rows)) (g1 : Ow N w' x' l') (g2 : V.grownBy w' x.ownBlock) (g3 : x'.ownBlock = x.ownBlock ∨ x'.ownBlock = some V.heap.size) : Mem N W w' ((x', l') :: rows) := by
  obtain ⟨h1, h2⟩ := List.pairwise_cons.1 h.ap
  refine ⟨h.bel.grown g2 h.hN (fun k e => (h.hd.lt e).1), Nat.le_trans h.hN g2.size, fun r hr => ?_, List.pairwise_cons.2 ⟨fun s hs g hg e => ?_, h2⟩⟩
  · rcases List.mem_cons.1 hr with rfl | hr
    · exact g1
    · refine (h.own r (List.mem_cons_of_mem _ hr)).kept g2 ?_
      cases e : r.1.ownBlock with
      | none => exact .inl rfl
      | some g => exact .inr (fun e2 => h1 r hr g e2.symm e)
  · rcases g3 with g3 | g3
    · exact h1 s hs g (g3 ▸ hg) e
    · have h5 := ((h.own s (List.mem_cons_of_mem _ hs)).lt e).2
      have h6 : V.heap.size = g := by rw [g3] at hg; exact Option.some.inj hg
      omega
/-- A row is let go. -/
theorem Mem.drop2 {N : Nat} {W V : World} {a b : Value × List Int} {rows : List (Value × List Int)} (h : Mem N W V (a :: b :: rows)) : Mem N W V (a :: rows) := by
  obtain ⟨h1, h2⟩ := List.pairwise_cons.1 h.ap
  exact ⟨h.bel, h.hN, fun r hr => h.own r (by rcases List.mem_cons.1 hr with h | h <;> simp [h]), List.pairwise_cons.2 ⟨fun s hs => h1 s (by simp [hs]), (List.pairwise_cons.1 h2).2⟩⟩

/-- Two queues, and a row beside each that says what is in it. -/
structure Qp (N : Nat) (S S' : Nat → Prop) (w : World) (p R q R' : Nat) (la lb : List Int) (va vb : Value) : Prop where
  qq : Qq N S S' w p R q R' la lb
  ra : Ow N w va la
  rb : Ow N w vb lb
  fa : ∀ g, va.ownBlock = some g → ¬ S g ∧ ¬ S' g
  fb : ∀ g, vb.ownBlock = some g → ¬ S g ∧ ¬ S' g
theorem Qq.swap {N : Nat} {S S' : Nat → Prop} {w : World} {b r b' r' : Nat} {l l' : List Int} (h : Qq N S S' w b r b' r' l l') : Qq N S' S w b' r' b r l' l := ⟨h.q, h.p, fun i h1 h2 => h.ap i h2 h1⟩
theorem Qp.swap {N : Nat} {S S' : Nat → Prop} {w : World} {p R q R' : Nat} {la lb : List Int} {va vb : Value} (h : Qp N S S' w p R q R' la lb va vb) : Qp N S' S w q R' p R lb la vb va := ⟨h.qq.swap, h.rb, h.ra, fun g hg => (h.fb g hg).symm, fun g hg => (h.fa g hg).symm⟩
theorem Qp.below {N : Nat} {S S' : Nat → Prop} {w w' : World} {p R q R' : Nat} {la lb : List Int} {va vb : Value} (h : Qp N S S' w p R q R' la lb va vb) (hB : Below w.heap.size w w') : Qp N S S' w' p R q R' la lb va vb := ⟨h.qq.below hB, h.ra.below hB (Nat.le_refl _), h.rb.below hB (Nat.le_refl _), h.fa, h.fb⟩
/-- The first queue has turned. -/
theorem Qp.one {N : Nat} {S S' : Nat → Prop} {w w1 : World} {p R q R' : Nat} {la lb l2 : List Int} {va vb : Value} (h : Qp N S S' w p R q R' la lb va vb) (t : Th N S w w1 p R l2) :
    Qq N (grew S w w1) S' w1 p R q R' l2 lb ∧ (Ow N w1 va la ∧ ∀ g, va.ownBlock = some g → ¬ grew S w w1 g ∧ ¬ S' g) ∧ (Ow N w1 vb lb ∧ ∀ g, vb.ownBlock = some g → ¬ grew S w w1 g ∧ ¬ S' g) := by
  refine ⟨h.qq.one t, ⟨h.ra.out t.out (fun g hg => (h.fa g hg).1), fun g hg => ⟨fun e => ?_, (h.fa g hg).2⟩⟩, ⟨h.rb.out t.out (fun g hg => (h.fb g hg).1), fun g hg => ⟨fun e => ?_, (h.fb g hg).2⟩⟩⟩
  · rcases e with e | e
    · exact (h.fa g hg).1 e
    · have := (h.ra.lt hg).2; omega
  · rcases e with e | e
    · exact (h.fb g hg).1 e
    · have := (h.rb.lt hg).2; omega
/-- Rows that were made behind W are apart from queues that were there. -/
theorem Qq.rows {N : Nat} {S S' : Nat → Prop} {W V : World} {p R q R' : Nat} {la lb : List Int} {va vb : Value} (h : Qq N S S' W p R q R' la lb) (hN : N ≤ W.heap.size) (hB : Below W.heap.size W V) (ha : Ow W.heap.size V va la) (hb : Ow W.heap.size V vb lb) : Qp N S S' V p R q R' la lb va vb :=
  ⟨h.below hB, ha.base hN, hb.base hN, fun g hg => ⟨fun e => by have := h.p.inn g e; have := (ha.lt hg).1; omega, fun e => by have := h.q.inn g e; have := (ha.lt hg).1; omega⟩, fun g hg => ⟨fun e => by have := h.p.inn g e; have := (hb.lt hg).1; omega, fun e => by have := h.q.inn g e; have := (hb.lt hg).1; omega⟩⟩
/-- Only the first row is new. -/
theorem Qq.rowA {N : Nat} {S S' : Nat → Prop} {W V : World} {p R q R' : Nat} {la lb : List Int} {va vb : Value} (h : Qq N S S' W p R q R' la lb) (hN : N ≤ W.heap.size) (hB : Below W.heap.size W V) (ha : Ow W.heap.size V va la) (hb : Ow N W vb lb) (fb : ∀ g, vb.ownBlock = some g → ¬ S g ∧ ¬ S' g) : Qp N S S' V p R q R' la lb va vb :=
  ⟨h.below hB, ha.base hN, hb.below hB (Nat.le_refl _), fun g hg => ⟨fun e => by have := h.p.inn g e; have := (ha.lt hg).1; omega, fun e => by have := h.q.inn g e; have := (ha.lt hg).1; omega⟩, fb⟩

/-- What an operation makes of the lists. -/
def doL (R' : Nat) (R : Nat) (la lb : List Int) (k n : Int) : List Int × List Int :=
  if k = 0 then (putL R la n, lb) else if k = 1 then (la.tail, lb) else if k = 2 then (la, lb) else if k = 3 then ([], lb) else if k = 4 then (la.drop (mvN R' la lb n), lb ++ la.take (mvN R' la lb n)) else (la, lb)
/-- Behind an operation. -/
def Dn (N : Nat) (w : World) (p R q R' : Nat) (la lb : List Int) (e : Ending) (w' : World) : Prop :=
  ∃ va vb T T', e = .returned (.tuple #[va, vb, .bool true]) ∧ Qp N T T' w' p R q R' la lb va vb ∧ Below N w w'
end Go.Proofs.Ythaoobfldponpaa
