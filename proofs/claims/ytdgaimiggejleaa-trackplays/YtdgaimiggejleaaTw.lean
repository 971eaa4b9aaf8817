/-
  TrackPlays: two progresses side by side; plain facts of the window.
-/
import Derived.Test.YtdgaimiggejleaaRs
namespace Go.Proofs.Ytdgaimiggejleaa
open Go.RowKit
set_option linter.unusedVariables false

theorem freeL_sub (l : List Int) (n : Int) : (freeL l n).Sublist l := List.dropWhile_sublist _
theorem Iv.new (next : Int) (R : Nat) : Iv (pNew next R) := ⟨fun _ => rfl, List.Pairwise.nil⟩
theorem Iv.re (p : PP) (s : Int) : Iv (p.re s) := ⟨fun _ => rfl, List.Pairwise.nil⟩
theorem last_all {l : List Int} {y : Int} (hl : l.Pairwise (fun x y => x < y)) (hy : l.getLast? = some y) : ∀ a ∈ l, a ≤ y := by
  intro a ha
  have hne : l ≠ [] := by intro e; rw [e] at hy; cases hy
  have hd : l.dropLast ++ [l.getLast hne] = l := List.dropLast_concat_getLast hne
  have hg : l.getLast hne = y := by rw [List.getLast?_eq_some_getLast hne] at hy; exact Option.some.inj hy
  rw [hg] at hd
  rw [← hd] at ha hl
  rcases List.mem_append.1 ha with h | h
  · have := (List.pairwise_append.1 hl).2.2 a h y (by simp)
    omega
  · simp at h; omega
theorem Iv.sent {p : PP} (h : Iv p) (x : Int) : Iv (p.sent x) := by
  unfold PP.sent
  split
  · exact ⟨h.no, h.up⟩
  · split
    · rename_i hs
      unfold PP.send
      split
      · rename_i hx
        have h3 : above p.W x = true ∧ p.W.length < p.rm := by simpa [addOk] using hx.2
        have hL : addL p.rm p.W x = p.W ++ [x] := by simp [addL, putL, h3.1, h3.2]
        refine ⟨fun e => absurd hs e, ?_⟩
        show (addL p.rm p.W x).Pairwise _
        rw [hL]
        refine List.pairwise_append.2 ⟨h.up, List.pairwise_singleton _ _, fun a ha b hb => ?_⟩
        simp at hb
        subst hb
        have hab := h3.1
        unfold above at hab
        cases hy : p.W.getLast? with
        | none => rw [List.getLast?_eq_none_iff] at hy; rw [hy] at ha; cases ha
        | some y =>
          rw [hy] at hab
          have := last_all h.up hy a ha
          simp at hab
          omega
      · exact h
    · exact h
theorem Iv.ack {p : PP} (h : Iv p) (x : Int) : Iv (p.ack x) := ⟨fun e => by show freeL p.W x = []; rw [h.no e]; rfl, h.up.sublist (freeL_sub _ _)⟩
theorem Iv.acked {p : PP} (h : Iv p) (x : Int) : Iv (p.acked x) := by
  unfold PP.acked
  split
  · split
    · exact Iv.re _ _
    · exact h.ack x
  · split
    · exact h.ack x
    · split
      · exact Iv.re _ _
      · exact h.ack x
theorem Iv.rej {p : PP} (h : Iv p) (x y : Int) : Iv (p.rej x y) := by
  unfold PP.rej PP.back
  split
  · split
    · exact ⟨h.no, h.up⟩
    · exact h
  · split
    · split
      · exact Iv.re _ _
      · exact h
    · exact h
theorem Iv.beat {p : PP} (h : Iv p) : Iv p.beat := by
  unfold PP.beat
  split
  · exact ⟨h.no, h.up⟩
  · split
    · rename_i hs
      unfold PP.let1
      split
      · exact ⟨fun e => absurd hs e, h.up.sublist (freeL_sub _ _)⟩
      · exact ⟨h.no, h.up⟩
    · exact Iv.re _ _
theorem Iv.snap {p : PP} (h : Iv p) (x : Int) : Iv (p.snap x) := ⟨fun _ => rfl, List.Pairwise.nil⟩

/-- The program's progress and the document's, apart. -/
def Tw (N : Nat) (w : World) (b c : Nat) (p q : PP) : Prop := ∃ S1 S2, Pg N S1 w b p ∧ RP N S2 w c q ∧ ∀ i, S1 i → ¬ S2 i
theorem Tw.below {N : Nat} {w w' : World} {b c : Nat} {p q : PP} (h : Tw N w b c p q) (hB : Below w.heap.size w w') : Tw N w' b c p q := by
  obtain ⟨S1, S2, h1, h2, h3⟩ := h
  exact ⟨S1, S2, h1.below hB, h2.out (X := fun _ => False) (Out.of_below hB) (fun _ _ hf => hf), h3⟩
theorem Tw.prog {N : Nat} {w : World} {b c : Nat} {p q p' : PP} {f : Nat} {args : Array Value} {r : Value} (h : Tw N w b c p q) (hN : N ≤ w.heap.size) (hc : ∀ S, Pg N S w b p → Calls Try.prog f args w fun e w' => e = .returned r ∧ PTh N S w w' b p') : Calls Try.prog f args w fun e w' => e = .returned r ∧ Tw N w' b c p' q ∧ Below N w w' := by
  obtain ⟨S1, S2, h1, h2, h3⟩ := h
  refine (hc S1 h1).mono ?_
  rintro e w' ⟨rfl, ht⟩
  exact ⟨rfl, ⟨_, S2, ht.q, h2.out ht.out (fun i hi hs => h3 i hs hi), fun i hi hs => hi.elim (fun h => h3 i h hs) (fun h => by have := h2.inn i hs; omega)⟩, ht.bel hN⟩
theorem Tw.ref {N : Nat} {w : World} {b c : Nat} {p q q' : PP} {f : Nat} {args : Array Value} {r : Value} (h : Tw N w b c p q) (hN : N ≤ w.heap.size) (hc : ∀ S, RP N S w c q → Calls Try.prog f args w fun e w' => e = .returned r ∧ RTh N S w w' c q') : Calls Try.prog f args w fun e w' => e = .returned r ∧ Tw N w' b c p q' ∧ Below N w w' := by
  obtain ⟨S1, S2, h1, h2, h3⟩ := h
  refine (hc S2 h2).mono ?_
  rintro e w' ⟨rfl, ht⟩
  exact ⟨rfl, ⟨S1, _, h1.out ht.out (fun i hi hs => h3 i hi hs), ht.q, fun i hi hs => hs.elim (fun h => h3 i hi h) (fun h => by have := h1.inn i hi; omega)⟩, ht.out.below hN (fun i hi => ht.q.fr i (.inl hi))⟩
theorem Tw.len {N : Nat} {w : World} {b c : Nat} {p q : PP} (h : Tw N w b c p q) : p.W.length ≤ p.rm ∧ p.W.length ≤ 1000 := by
  obtain ⟨S1, S2, h1, h2, h3⟩ := h
  have := h1.len
  exact ⟨this.1, by omega⟩
theorem Tw.pe {N : Nat} {w : World} {b c : Nat} {p q : PP} (h : Tw N w b c p q) : PE N w b p := by
  obtain ⟨S1, S2, h1, h2, h3⟩ := h
  exact ⟨S1, h1⟩
theorem Tw.cells {N : Nat} {w : World} {b c : Nat} {p q : PP} (h : Tw N w b c p q) : w.cell? ⟨c, 0, none⟩ = some (.int .i64 q.m) ∧ w.cell? ⟨c, 1, none⟩ = some (.int .i64 q.n) ∧ w.cell? ⟨c, 2, none⟩ = some (.int .i64 q.st) := by
  obtain ⟨S1, S2, h1, h2, h3⟩ := h
  obtain ⟨a, k, ⟨⟨c0, c1, c2, -⟩, -⟩, -⟩ := h2.cells
  exact ⟨c0, c1, c2⟩
theorem Tw.may {N : Nat} {w : World} {b c : Nat} {p q : PP} (h : Tw N w b c p q) (hN : N ≤ w.heap.size) (ho : p.Ok) : Calls Try.prog 39 #[.pointer (some ⟨b, 0, none⟩)] w fun e w' => e = .returned (.bool p.may) ∧ Tw N w' b c p q ∧ Below w.heap.size w w' := by
  obtain ⟨S1, S2, h1, h2, h3⟩ := h
  exact (May_any h1 hN ho).mono fun e w' h5 => ⟨h5.1, ⟨S1, S2, h1.below h5.2, h2.out (X := fun _ => False) (Out.of_below h5.2) (fun _ _ hf => hf), h3⟩, h5.2⟩
theorem Tw.rmay {N : Nat} {w : World} {b c : Nat} {p q : PP} (h : Tw N w b c p q) (ho : q.Ok) (hl : q.W.length ≤ q.rm) : Calls Try.prog 40 #[.pointer (some ⟨c, 0, none⟩)] w fun e w' => e = .returned (.bool q.may) ∧ Tw N w' b c p q ∧ Below w.heap.size w w' := by
  obtain ⟨S1, S2, h1, h2, h3⟩ := h
  refine (rMay_any h2 ho hl).mono ?_
  rintro e w' ⟨rfl, n, rfl⟩
  have hB : Below w.heap.size w (w.drewN n) := ⟨rfl, rfl, rfl, Nat.le_refl _, fun _ _ => rfl⟩
  exact ⟨rfl, ⟨S1, S2, h1.below hB, h2.drew n, h3⟩, hB⟩
end Go.Proofs.Ytdgaimiggejleaa
