/-
  Next.
-/
import Derived.Test.YteekpfgjpdopmaaSp
namespace Go.Proofs.Yteekpfgjpdopmaa
open Go.RowKit
set_option linter.unusedVariables false

/-- How many Next tells. -/
def nxN (P : PL) (most : Int) : Nat := cnt P.g (min P.c P.s) most
/-- What it tells. -/
def nxE (P : PL) (most : Int) : List En := (P.E.drop (P.g - P.bi).toNat).take (nxN P most)
/-- The log behind it. -/
def nxP (P : PL) (most : Int) : PL := P.mk' P.h P.s P.c (P.g + (nxN P most : Int)) P.a
theorem nxN_le {P : PL} (h : P.Ok) (most : Int) : P.g + (nxN P most : Int) ≤ min P.c P.s := by
  have := h.gc; have := h.gs
  unfold nxN cnt
  omega
theorem nxP_ok {P : PL} (h : P.Ok) (most : Int) : (nxP P most).Ok := by
  have := nxN_le h most
  exact h.mk' h.ba (by have := h.ag; omega) (by omega) h.cl (by omega) h.sh h.hl

set_option maxRecDepth 100000 in
set_option maxHeartbeats 4000000 in
/-- Next. -/
theorem Next_any {N : Nat} {S : Nat → Prop} {w : World} {b : Nat} {P : PL} (h : Lg N S w b P) (hN : N ≤ w.heap.size) (most : Int) :
    Calls Try.prog 32 #[.pointer (some ⟨b, 0, none⟩), .int .i64 most] w fun e w' => ∃ v fs, e = .returned v ∧ EntsOw w.heap.size w' v fs ∧ fs.map Ent.says = nxE P most ∧ LK N S w w' b (nxP P most) := by
  obtain ⟨va, vc, es, hb, -⟩ := h.cells
  have hbw := h.inn _ h.Sb
  obtain ⟨⟨-, -, -, m3, m4, m5, m6, m7⟩, -⟩ := cells8 hb
  obtain ⟨n0, hn0⟩ : ∃ n0 : Nat, P.g = P.bi + (n0 : Int) := ⟨(P.g - P.bi).toNat, by have := h.ok.ba; have := h.ok.ag; omega⟩
  have hgb : (P.g - P.bi).toNat = n0 := by omega
  obtain ⟨cn, hcn⟩ : ∃ cn, nxN P most = cn := ⟨_, rfl⟩
  have hle := nxN_le h.ok most
  rw [hcn] at hle
  have hlen : n0 + cn ≤ P.E.length := by have := h.ok.cl; unfold PL.li at this; omega
  have hl10 := h.ok.len
  have hb0 := h.ok.b0
  have hlim := h.ok.lim
  have hgl : P.g + (cn : Int) ≤ 4611686018427387904 := by have := h.ok.cl; omega
  have hg0 : 0 ≤ P.g := by have := h.ok.ba; have := h.ok.ag; omega
  obtain ⟨Y, hY, hcase⟩ : ∃ Y, min P.c P.s = Y ∧ ((P.c ≤ P.s ∧ Y = P.c) ∨ (P.s < P.c ∧ Y = P.s)) := ⟨_, rfl, by omega⟩
  have hB1 : Below w.heap.size w (w.alloc (.cells #[.int .i64 P.h, .int .i64 P.s, .int .i64 P.c, .int .i64 P.g, .int .i64 P.a] 55)) := (Below.refl _ w).alloc (Nat.le_refl _) _
  have hX1 : (w.alloc (.cells #[.int .i64 P.h, .int .i64 P.s, .int .i64 P.c, .int .i64 P.g, .int .i64 P.a] 55)).heap[w.heap.size]? = some (.cells #[.int .i64 P.h, .int .i64 P.s, .int .i64 P.c, .int .i64 P.g, .int .i64 P.a] 55 (0, 0)) := heap_alloc_new w _
  have hsp := span_any (h.below hB1) n0 Y most (by have := h.ok.gc; have := h.ok.gs; omega) (by have := h.ok.cl; omega)
  have ecn : cnt (P.bi + (n0 : Int)) Y most = cn := by rw [← hcn, ← hn0, ← hY]; rfl
  rw [ecn, ← hn0] at hsp
  have HF : Hid (∀ w2 v fs, Below (w.alloc (.cells #[.int .i64 P.h, .int .i64 P.s, .int .i64 P.c, .int .i64 P.g, .int .i64 P.a] 55)).heap.size (w.alloc (.cells #[.int .i64 P.h, .int .i64 P.s, .int .i64 P.c, .int .i64 P.g, .int .i64 P.a] 55)) w2 → EntsOw (w.alloc (.cells #[.int .i64 P.h, .int .i64 P.s, .int .i64 P.c, .int .i64 P.g, .int .i64 P.a] 55)).heap.size w2 v fs → fs.map Ent.says = (P.E.drop n0).take cn → (∃ fa fc, v = .slice fa cn fc) ∧ (w2.cell? ⟨w.heap.size, 0, none⟩ = some (.int .i64 P.h) ∧ w2.cell? ⟨w.heap.size, 1, none⟩ = some (.int .i64 P.s) ∧ w2.cell? ⟨w.heap.size, 2, none⟩ = some (.int .i64 P.c) ∧ w2.cell? ⟨w.heap.size, 3, none⟩ = some (.int .i64 P.g) ∧ w2.cell? ⟨w.heap.size, 4, none⟩ = some (.int .i64 P.a)) ∧ (∀ o, w2.frozen? ⟨w.heap.size, o, none⟩ = false) ∧ Calls Try.prog 78 #[.pointer (some ⟨b, 0, none⟩), .agg #[.int .i64 P.h, .int .i64 P.s, .int .i64 P.c, .int .i64 (P.g + (cn : Int)), .int .i64 P.a]] (w2.setCell ⟨w.heap.size, 3, none⟩ (.int .i64 (P.g + (cn : Int)))) fun e w' => (∃ q, e = .returned (.bool q)) ∧ EntsOw w.heap.size w' v fs ∧ fs.map Ent.says = nxE P most ∧ LK N S w w' b (nxP P most)) := fun w2 v fs h2 ho hsy => by
    have hfl : fs.length = cn := by
      have := congrArg List.length hsy
      simp at this
      omega
    have hx2 := (h2.block _ (by simp)).trans hX1
    obtain ⟨c5, f5⟩ := cells5 hx2
    have hB2 : Below w.heap.size w w2 := hB1.trans (h2.mono (by simp))
    have hB3 : Below w.heap.size w (w2.setCell ⟨w.heap.size, 3, none⟩ (.int .i64 (P.g + (cn : Int)))) := hB2.setCell (by simp) _
    have hm := move_any (h.below hB3) (by have := hB3.size; omega) P.h P.s P.c (P.g + (cn : Int)) P.a (by have := nxP_ok h.ok most; unfold nxP at this; rw [hcn] at this; exact this)
    refine ⟨?_, c5, f5, hm.mono ?_⟩
    · obtain ⟨fa, fc, e, -⟩ := ho.shape
      rw [hfl] at e
      exact ⟨fa, fc, e⟩
    · rintro e w' ⟨rfl, hK⟩
      have ho3 : EntsOw w.heap.size (w2.setCell ⟨w.heap.size, 3, none⟩ (.int .i64 (P.g + (cn : Int)))) v fs := (ho.base (by simp)).out (X := fun i => i = w.heap.size) (Out.set rfl) (by rintro g hg rfl; have := (ho.lt hg).1; simp at this; omega) (by rintro e he g hg rfl; have := ((ho.dat e he).lt hg).1; simp at this; omega)
      refine ⟨⟨_, rfl⟩, ho3.out hK.out (fun g hg hS => ?_) (fun e he g hg hS => ?_), ?_, ?_⟩
      · have h3 := h.inn g hS; have := (ho.lt hg).1; simp at this; omega
      · have h3 := h.inn g hS; have := ((ho.dat e he).lt hg).1; simp at this; omega
      · rw [hsy]; unfold nxE; rw [hcn, hgb]
      · unfold nxP; rw [hcn]; exact hK.pre hB3
  clear h hb hX1 hB1 hY hn0 hgb hle ecn hcn hlen
  generalize P.h = h0 at *
  generalize P.s = s0 at *
  generalize P.c = c0 at *
  generalize P.g = g0 at *
  generalize P.a = a0 at *
  rcases hcase with ⟨a1, a2⟩ | ⟨a1, a2⟩
  · rw [a2] at hsp
    clear a2
    go_enter Try.func32, Try.ntmps32
    go_wp2_with (first
      | (go_at_call 76; refine hsp.mono ?_; rintro r w2 ⟨v, fs, rfl, ho, hsy, hB2⟩; obtain ⟨⟨fa, fc, rfl⟩, ⟨c0', c1', c2', c3', c4'⟩, cf, hm⟩ := HF.out w2 v fs hB2 ho hsy; clear ho hsy hB2)
      | (go_at_call 78; refine hm.mono ?_; rintro r w3 ⟨⟨qq, rfl⟩, q1, q2, q3⟩))
    go_ret
    exact ⟨_, fs, rfl, q1, q2, q3⟩
  · rw [a2] at hsp
    clear a2
    go_enter Try.func32, Try.ntmps32
    go_wp2_with (first
      | (go_at_call 76; refine hsp.mono ?_; rintro r w2 ⟨v, fs, rfl, ho, hsy, hB2⟩; obtain ⟨⟨fa, fc, rfl⟩, ⟨c0', c1', c2', c3', c4'⟩, cf, hm⟩ := HF.out w2 v fs hB2 ho hsy; clear ho hsy hB2)
      | (go_at_call 78; refine hm.mono ?_; rintro r w3 ⟨⟨qq, rfl⟩, q1, q2, q3⟩))
    go_ret
    exact ⟨_, fs, rfl, q1, q2, q3⟩
end Go.Proofs.Yteekpfgjpdopmaa
