/-
  A progress in memory; starting anew in another state.
-/
import Derived.Test.YtdgaimiggejleaaTab
namespace Go.Proofs.Ytdgaimiggejleaa
open Go.RowKit
set_option linter.unusedVariables false

/-- A progress, plainly: state, match, next, paused, the snapshot's index, the window, its room. -/
structure PP where
  st : Int
  m : Int
  n : Int
  pa : Bool
  sn : Int
  W : List Int
  rm : Nat

/-- Its struct's cells, over the window d. -/
def PP.row (p : PP) (d : Nat) : Array Value := #[.pointer (some ⟨d, 0, none⟩), .int .i64 p.st, .int .i64 p.m, .int .i64 p.n, .bool p.pa, .int .i64 p.sn]

/-- Block b holds the progress p; its blocks lie in S, from N on. -/
structure Pg (N : Nat) (S : Nat → Prop) (w : World) (b : Nat) (p : PP) : Prop where
  at_ : ∃ d, w.heap[b]? = some (.cells (p.row d) 65 (0, 0)) ∧ Wn N (fun i => S i ∧ i ≠ b) w d p.rm p.W
  Sb : S b
  inn : ∀ i, S i → i < w.heap.size
  fr : ∀ i, S i → N ≤ i
structure PTh (N : Nat) (S : Nat → Prop) (w w' : World) (b : Nat) (p : PP) : Prop where
  q : Pg N (grew S w w') w' b p
  out : Out S w w'

theorem Pg.len {N : Nat} {S : Nat → Prop} {w : World} {b : Nat} {p : PP} (h : Pg N S w b p) : p.W.length ≤ p.rm ∧ p.rm ≤ 64 := by
  obtain ⟨d, -, h2⟩ := h.at_
  exact h2.len
theorem Pg.out {N : Nat} {S X : Nat → Prop} {w w' : World} {b : Nat} {p : PP} (h : Pg N S w b p) (hO : Out X w w') (hx : ∀ i, S i → ¬ X i) : Pg N S w' b p := by
  obtain ⟨d, hb, hq⟩ := h.at_
  exact ⟨⟨d, (hO.block b (h.inn _ h.Sb) (hx _ h.Sb)).trans hb, hq.out hO (fun i hi => hx i hi.1)⟩, h.Sb, fun i hi => Nat.lt_of_lt_of_le (h.inn i hi) hO.size, h.fr⟩
theorem Pg.below {N : Nat} {S : Nat → Prop} {w w' : World} {b : Nat} {p : PP} (h : Pg N S w b p) (hB : Below w.heap.size w w') : Pg N S w' b p :=
  h.out (X := fun _ => False) (Out.of_below hB) (fun _ _ hf => hf)
theorem Wn.mono {N : Nat} {S S' : Nat → Prop} {w : World} {d room : Nat} {l : List Int} (h : Wn N S w d room l) (hS : ∀ i, S i → S' i) (hi : ∀ i, S' i → i < w.heap.size) (hf : ∀ i, S' i → N ≤ i) : Wn N S' w d room l := by
  obtain ⟨b, hb, hq⟩ := h.at_
  exact ⟨⟨b, hb, hq.mono (fun i h1 => ⟨hS i h1.1, h1.2⟩) (fun i h1 => hi i h1.1) (fun i h1 => hf i h1.1)⟩, hS _ h.Sd, hi, hf⟩
theorem Pg.mono {N : Nat} {S S' : Nat → Prop} {w : World} {b : Nat} {p : PP} (h : Pg N S w b p) (hS : ∀ i, S i → S' i) (hi : ∀ i, S' i → i < w.heap.size) (hf : ∀ i, S' i → N ≤ i) : Pg N S' w b p := by
  obtain ⟨d, hb, hq⟩ := h.at_
  exact ⟨⟨d, hb, hq.mono (fun i h1 => ⟨hS i h1.1, h1.2⟩) (fun i h1 => hi i h1.1) (fun i h1 => hf i h1.1)⟩, hS _ h.Sb, hi, hf⟩
theorem PTh.bel {N : Nat} {S : Nat → Prop} {w w' : World} {b : Nat} {p : PP} (h : PTh N S w w' b p) (hN : N ≤ w.heap.size) : Below N w w' :=
  h.out.below hN (fun i hi => h.q.fr i (.inl hi))
theorem Pg.to {N : Nat} {S : Nat → Prop} {w w' : World} {b : Nat} {p : PP} (h : Pg N S w' b p) (hO : Out S w w') (hN : N ≤ w.heap.size) : PTh N S w w' b p :=
  ⟨h.mono (fun _ hi => .inl hi) (fun i hi => hi.elim (h.inn i) (fun h2 => h2.2)) (fun i hi => hi.elim (h.fr i) (fun h2 => by omega)), hO⟩
theorem PTh.of {N : Nat} {S : Nat → Prop} {w w1 w2 : World} {b : Nat} {p : PP} (hO : Out S w w1) (h : PTh N S w1 w2 b p) (hN : N ≤ w.heap.size) : PTh N S w w2 b p := by
  have hs := hO.size
  have hs2 := h.out.size
  exact ⟨h.q.mono (fun i hi => hi.imp id (fun h2 => ⟨by omega, h2.2⟩)) (fun i hi => hi.elim (fun h2 => h.q.inn i (.inl h2)) (fun h2 => h2.2)) (fun i hi => hi.elim (fun h2 => h.q.fr i (.inl h2)) (fun h2 => by omega)), hO.trans h.out (fun i hi _ => hi)⟩
theorem PTh.step {N : Nat} {S : Nat → Prop} {w w1 w2 : World} {b : Nat} {p p' : PP} (h1 : PTh N S w w1 b p) (h : PTh N (grew S w w1) w1 w2 b p') (hN : N ≤ w.heap.size) : PTh N S w w2 b p' := by
  have hs := h1.out.size
  have hs2 := h.out.size
  refine ⟨h.q.mono ?_ (fun i hi => hi.elim (fun h2 => h.q.inn i (.inl (.inl h2))) (fun h2 => h2.2)) (fun i hi => hi.elim (fun h2 => h.q.fr i (.inl (.inl h2))) (fun h2 => by omega)), h1.out.step h.out⟩
  rintro i ((hi | hi) | hi)
  · exact .inl hi
  · exact .inr ⟨hi.1, by omega⟩
  · exact .inr ⟨by omega, hi.2⟩

theorem Pg.cells {N : Nat} {S : Nat → Prop} {w : World} {b : Nat} {p : PP} (h : Pg N S w b p) : ∃ d, ((w.cell? ⟨b, 0, none⟩ = some (.pointer (some ⟨d, 0, none⟩)) ∧ w.cell? ⟨b, 1, none⟩ = some (.int .i64 p.st) ∧ w.cell? ⟨b, 2, none⟩ = some (.int .i64 p.m) ∧ w.cell? ⟨b, 3, none⟩ = some (.int .i64 p.n) ∧ w.cell? ⟨b, 4, none⟩ = some (.bool p.pa) ∧ w.cell? ⟨b, 5, none⟩ = some (.int .i64 p.sn)) ∧ ∀ o, w.frozen? ⟨b, o, none⟩ = false) ∧ w.heap[b]? = some (.cells (p.row d) 65 (0, 0)) ∧ Wn N (fun i => S i ∧ i ≠ b) w d p.rm p.W := by
  obtain ⟨d, hb, hq⟩ := h.at_
  refine ⟨d, ⟨⟨?_, ?_, ?_, ?_, ?_, ?_⟩, fun o => ?_⟩, hb, hq⟩
  all_goals simp [World.cell?, World.frozen?, hb, PP.row]

/-- Cells of its struct were written. -/
theorem Pg.turn {N : Nat} {S : Nat → Prop} {w w1 : World} {b d : Nat} {p p' : PP} (h : Pg N S w b p) (hq : Wn N (fun i => S i ∧ i ≠ b) w d p.rm p.W) (hO : Out (fun i => i = b) w w1) (hb1 : w1.heap[b]? = some (.cells (p'.row d) 65 (0, 0))) (hW : p'.W = p.W) (hr : p'.rm = p.rm) : Pg N S w1 b p' :=
  ⟨⟨d, hb1, by rw [hW, hr]; exact hq.out hO (fun i hi => hi.2)⟩, h.Sb, fun i hi => Nat.lt_of_lt_of_le (h.inn i hi) hO.size, h.fr⟩

/-- A call of its window. -/
theorem Pg.win {N : Nat} {S : Nat → Prop} {w w' : World} {b d : Nat} {p : PP} {l' : List Int} (h : Pg N S w b p) (hb : w.heap[b]? = some (.cells (p.row d) 65 (0, 0))) (hN : N ≤ w.heap.size) (ht : WTh N (fun i => S i ∧ i ≠ b) w w' d p.rm l') : PTh N S w w' b { p with W := l' } := by
  have hO : Out S w w' := ht.out.mono (fun i hi => hi.1)
  have hi' : ∀ i, grew S w w' i → i < w'.heap.size := by
    rintro i (hi | hi)
    · exact Nat.lt_of_lt_of_le (h.inn i hi) hO.size
    · exact hi.2
  have hf' : ∀ i, grew S w w' i → N ≤ i := by
    rintro i (hi | hi)
    · exact h.fr i hi
    · omega
  refine ⟨⟨⟨d, (ht.out.block b (h.inn _ h.Sb) (fun hx => hx.2 rfl)).trans hb, ?_⟩, .inl h.Sb, hi', hf'⟩, hO⟩
  refine ht.q.mono ?_ (fun i hi => hi' i hi.1) (fun i hi => hf' i hi.1)
  rintro i (hi | hi)
  · exact ⟨.inl hi.1, hi.2⟩
  · exact ⟨.inr hi, fun e => by have := h.inn _ h.Sb; omega⟩

/-- Anew behind Match, in another state. -/
def PP.re (p : PP) (s : Int) : PP := { p with st := s, pa := false, n := p.m + 1, W := [] }

set_option maxRecDepth 100000 in
theorem restart_any {N : Nat} {S : Nat → Prop} {w : World} {b : Nat} {p : PP} (h : Pg N S w b p) (hN : N ≤ w.heap.size) (hm0 : 0 ≤ p.m) (hm1 : p.m ≤ 4611686018427387904) (s : Int) :
    Calls Try.prog 72 #[.pointer (some ⟨b, 0, none⟩), .int .i64 s] w fun e w' => e = .returned (.tuple #[]) ∧ PTh N S w w' b (p.re s) := by
  obtain ⟨d, ⟨⟨c0, c1, c2, c3, c4, c5⟩, cf⟩, hb, hq⟩ := h.cells
  have hw : IntKind.i64.wrap (p.m + 1) = p.m + 1 := by rw [IntKind.wrap_i64]; omega
  obtain ⟨W1, hW1⟩ : ∃ W1, ((w.setCell ⟨b, 1, none⟩ (.int .i64 s)).setCell ⟨b, 4, none⟩ (.bool false)).setCell ⟨b, 3, none⟩ (.int .i64 (p.m + 1)) = W1 := ⟨_, rfl⟩
  have hO1 : Out (fun i => i = b) w W1 := by rw [← hW1]; exact Out.put (Out.put (Out.put (Out.refl _ _) (by rfl)) (by rfl)) (by rfl)
  have hb1 : W1.heap[b]? = some (.cells (({ p with st := s, pa := false, n := p.m + 1 } : PP).row d) 65 (0, 0)) := by
    rw [← hW1]
    simpa [PP.row] using heap_set (heap_set (heap_set hb 1 (.int .i64 s)) 4 (.bool false)) 3 (.int .i64 (p.m + 1))
  have hP1 : Pg N S W1 b { p with st := s, pa := false, n := p.m + 1 } := h.turn hq hO1 hb1 rfl rfl
  have hN1 : N ≤ W1.heap.size := Nat.le_trans hN hO1.size
  have HC : Hid (Calls _ _ _ _ _) := wclear_any (hq.out hO1 (fun i hi => hi.2)) hN1
  have HE : Hid (∀ w2, WTh N (fun i => S i ∧ i ≠ b) W1 w2 d p.rm [] → PTh N S w w2 b (p.re s)) := fun w2 ht => PTh.of (hO1.mono (by rintro i rfl; exact h.Sb)) (hP1.win hb1 hN1 ht) hN
  have HW1 : Hid (_ = W1) := hW1
  have k0 : W1.cell? ⟨b, 0, none⟩ = some (.pointer (some ⟨d, 0, none⟩)) := by simp [World.cell?, hb1, PP.row]
  clear h hb hq hO1 hb1 hP1 hN hN1 hW1 hm0 hm1
  go_enter Try.func72, Try.ntmps72
  go_wp2_with (first | (rw [HW1.out]; go_at_call 49; refine HC.out.mono ?_; rintro r w2 ⟨rfl, ht⟩; have HT := HE.out w2 ht; clear ht))
  go_returns
  exact ⟨rfl, HT⟩
end Go.Proofs.Ytdgaimiggejleaa
