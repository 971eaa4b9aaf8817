/-
  What a progress does in a state: the table of functions.
-/
import Derived.Test.YtdgaimiggejleaaWi
import Derived.Laws.EntriesVeiled
import Derived.Deep.RegionHeld3
import Derived.Deep.RegionLaw
import Derived.Handy
namespace Go.Proofs.Ytdgaimiggejleaa
open Go.RowKit
set_option linter.unusedVariables false

/-- The functions of a state, over the variable g that holds the progress b. -/
def act0 (b g : Nat) : Array Value := #[.func (.func 69) #[] #[.pointer (some ⟨g, 0, none⟩)], .func (.func 70) #[] #[.pointer (some ⟨g, 0, none⟩)], .func (.func 71) #[] #[.pointer (some ⟨g, 0, none⟩)], .func (.func 73) #[.pointer (some ⟨b, 0, none⟩)] #[], .func (.func 74) #[] #[]]
def act1 (b g : Nat) : Array Value := #[.func (.func 75) #[] #[.pointer (some ⟨g, 0, none⟩)], .func (.func 77) #[] #[.pointer (some ⟨g, 0, none⟩)], .func (.func 79) #[] #[], .func (.func 80) #[] #[.pointer (some ⟨g, 0, none⟩)], .func (.func 81) #[] #[.pointer (some ⟨g, 0, none⟩)]]
def act2 (b g : Nat) : Array Value := #[.func (.func 83) #[] #[], .func (.func 84) #[] #[], .func (.func 85) #[] #[.pointer (some ⟨g, 0, none⟩)], .func (.func 86) #[] #[], .func (.func 87) #[] #[.pointer (some ⟨g, 0, none⟩)]]

set_option maxRecDepth 100000 in
theorem table_any (b : Nat) (w : World) :
    Calls Try.prog 53 #[.pointer (some ⟨b, 0, none⟩)] w fun e w' => e = .returned (.agg (act0 b w.heap.size ++ act1 b w.heap.size ++ act2 b w.heap.size)) ∧ Below w.heap.size w w' ∧ w'.cell? ⟨w.heap.size, 0, none⟩ = some (.pointer (some ⟨b, 0, none⟩)) := by
  have HB : Hid (∀ cs, Below w.heap.size w ((w.alloc (.cells #[.pointer (some ⟨b, 0, none⟩)] 41)).alloc (.cells cs 77)) ∧ ((w.alloc (.cells #[.pointer (some ⟨b, 0, none⟩)] 41)).alloc (.cells cs 77)).cell? ⟨w.heap.size, 0, none⟩ = some (.pointer (some ⟨b, 0, none⟩))) := fun cs =>
    ⟨((Below.refl _ w).alloc (Nat.le_refl _) _).alloc (by simp) _, by
      have h1 : (w.alloc (.cells #[.pointer (some ⟨b, 0, none⟩)] 41)).heap[w.heap.size]? = some (.cells #[.pointer (some ⟨b, 0, none⟩)] 41) := heap_alloc_new w _
      have h2 := (((Below.refl (w.heap.size + 1) (w.alloc (.cells #[.pointer (some ⟨b, 0, none⟩)] 41))).alloc (by simp) (.cells cs 77)).block w.heap.size (by omega)).trans h1
      simp [World.cell?, h2]⟩
  go_enter Try.func53, Try.ntmps53
  go_wp2
  go_returns
  exact ⟨rfl, (HB.out _).1, (HB.out _).2⟩

theorem cells5 {w : World} {g : Nat} {a b c d e : Value} {t : TypeId} (h : w.heap[g]? = some (.cells #[a, b, c, d, e] t (0, 0))) :
    (w.cell? ⟨g, 0, none⟩ = some a ∧ w.cell? ⟨g, 1, none⟩ = some b ∧ w.cell? ⟨g, 2, none⟩ = some c ∧ w.cell? ⟨g, 3, none⟩ = some d ∧ w.cell? ⟨g, 4, none⟩ = some e) ∧ w.frozen? ⟨g, 0, none⟩ = false ∧ w.frozen? ⟨g, 1, none⟩ = false ∧ w.frozen? ⟨g, 2, none⟩ = false ∧ w.frozen? ⟨g, 3, none⟩ = false ∧ w.frozen? ⟨g, 4, none⟩ = false := by
  refine ⟨⟨?_, ?_, ?_, ?_, ?_⟩, ?_, ?_, ?_, ?_, ?_⟩ <;> simp [World.cell?, World.frozen?, h]

theorem idx0 (b g : Nat) (w : World) : (Instr.index 77 (.agg #[.func (.func 69) #[] #[.pointer (some ⟨g, 0, none⟩)], .func (.func 70) #[] #[.pointer (some ⟨g, 0, none⟩)], .func (.func 71) #[] #[.pointer (some ⟨g, 0, none⟩)], .func (.func 73) #[.pointer (some ⟨b, 0, none⟩)] #[], .func (.func 74) #[] #[], .func (.func 75) #[] #[.pointer (some ⟨g, 0, none⟩)], .func (.func 77) #[] #[.pointer (some ⟨g, 0, none⟩)], .func (.func 79) #[] #[], .func (.func 80) #[] #[.pointer (some ⟨g, 0, none⟩)], .func (.func 81) #[] #[.pointer (some ⟨g, 0, none⟩)], .func (.func 83) #[] #[], .func (.func 84) #[] #[], .func (.func 85) #[] #[.pointer (some ⟨g, 0, none⟩)], .func (.func 86) #[] #[], .func (.func 87) #[] #[.pointer (some ⟨g, 0, none⟩)]]) (.int .i64 0)).run Try.prog w = .ok (.agg #[.func (.func 69) #[] #[.pointer (some ⟨g, 0, none⟩)], .func (.func 70) #[] #[.pointer (some ⟨g, 0, none⟩)], .func (.func 71) #[] #[.pointer (some ⟨g, 0, none⟩)], .func (.func 73) #[.pointer (some ⟨b, 0, none⟩)] #[], .func (.func 74) #[] #[]]) w := by kernel_rfl
theorem idx1 (b g : Nat) (w : World) : (Instr.index 77 (.agg #[.func (.func 69) #[] #[.pointer (some ⟨g, 0, none⟩)], .func (.func 70) #[] #[.pointer (some ⟨g, 0, none⟩)], .func (.func 71) #[] #[.pointer (some ⟨g, 0, none⟩)], .func (.func 73) #[.pointer (some ⟨b, 0, none⟩)] #[], .func (.func 74) #[] #[], .func (.func 75) #[] #[.pointer (some ⟨g, 0, none⟩)], .func (.func 77) #[] #[.pointer (some ⟨g, 0, none⟩)], .func (.func 79) #[] #[], .func (.func 80) #[] #[.pointer (some ⟨g, 0, none⟩)], .func (.func 81) #[] #[.pointer (some ⟨g, 0, none⟩)], .func (.func 83) #[] #[], .func (.func 84) #[] #[], .func (.func 85) #[] #[.pointer (some ⟨g, 0, none⟩)], .func (.func 86) #[] #[], .func (.func 87) #[] #[.pointer (some ⟨g, 0, none⟩)]]) (.int .i64 1)).run Try.prog w = .ok (.agg #[.func (.func 75) #[] #[.pointer (some ⟨g, 0, none⟩)], .func (.func 77) #[] #[.pointer (some ⟨g, 0, none⟩)], .func (.func 79) #[] #[], .func (.func 80) #[] #[.pointer (some ⟨g, 0, none⟩)], .func (.func 81) #[] #[.pointer (some ⟨g, 0, none⟩)]]) w := by kernel_rfl
theorem idx2 (b g : Nat) (w : World) : (Instr.index 77 (.agg #[.func (.func 69) #[] #[.pointer (some ⟨g, 0, none⟩)], .func (.func 70) #[] #[.pointer (some ⟨g, 0, none⟩)], .func (.func 71) #[] #[.pointer (some ⟨g, 0, none⟩)], .func (.func 73) #[.pointer (some ⟨b, 0, none⟩)] #[], .func (.func 74) #[] #[], .func (.func 75) #[] #[.pointer (some ⟨g, 0, none⟩)], .func (.func 77) #[] #[.pointer (some ⟨g, 0, none⟩)], .func (.func 79) #[] #[], .func (.func 80) #[] #[.pointer (some ⟨g, 0, none⟩)], .func (.func 81) #[] #[.pointer (some ⟨g, 0, none⟩)], .func (.func 83) #[] #[], .func (.func 84) #[] #[], .func (.func 85) #[] #[.pointer (some ⟨g, 0, none⟩)], .func (.func 86) #[] #[], .func (.func 87) #[] #[.pointer (some ⟨g, 0, none⟩)]]) (.int .i64 2)).run Try.prog w = .ok (.agg #[.func (.func 83) #[] #[], .func (.func 84) #[] #[], .func (.func 85) #[] #[.pointer (some ⟨g, 0, none⟩)], .func (.func 86) #[] #[], .func (.func 87) #[] #[.pointer (some ⟨g, 0, none⟩)]]) w := by kernel_rfl

/-- What a state does. -/
def actN (st : Int) (b g : Nat) : Array Value := if st = 0 then act0 b g else if st = 1 then act1 b g else act2 b g

set_option maxRecDepth 100000 in
theorem now_any (b : Nat) (w : World) (st : Int) (hb : b < w.heap.size) (hc : w.cell? ⟨b, 1, none⟩ = some (.int .i64 st)) (h0 : 0 ≤ st) (h2 : st ≤ 2) :
    Calls Try.prog 46 #[.pointer (some ⟨b, 0, none⟩)] w fun e w' => ∃ g, e = .returned (.agg (actN st b g)) ∧ Below w.heap.size w w' ∧ w'.cell? ⟨g, 0, none⟩ = some (.pointer (some ⟨b, 0, none⟩)) ∧ w.heap.size ≤ g := by
  have hs : st = 0 ∨ st = 1 ∨ st = 2 := by omega
  clear h0 h2
  have HT : Hid (∀ w1 : World, Calls Try.prog 53 #[.pointer (some ⟨b, 0, none⟩)] w1 _) := fun w1 => table_any b w1
  have HF : Hid (∀ w5, Below (w.heap.size + 1) (w.alloc (.cells #[.nilFunc, .nilFunc, .nilFunc, .nilFunc, .nilFunc] 68)).drew w5 → w5.heap[w.heap.size]? = some (.cells #[.nilFunc, .nilFunc, .nilFunc, .nilFunc, .nilFunc] 68 (0, 0))) := fun w5 hB => (hB.block _ (by omega)).trans (heap_alloc_new w _)
  have HC : Hid (∀ w2 : World, Below (w.heap.size + 1) (w.alloc (.cells #[.nilFunc, .nilFunc, .nilFunc, .nilFunc, .nilFunc] 68)).drew w2 → w2.cell? ⟨b, 1, none⟩ = some (.int .i64 st)) := fun w2 hB => (hB.cell (p := ⟨b, 1, none⟩) (by show b < _; omega)).trans (((Below.refl _ w).alloc (Nat.le_refl _) _).drew.cell (p := ⟨b, 1, none⟩) hb |>.trans hc)
  have hx : (w.alloc (.cells #[.nilFunc, .nilFunc, .nilFunc, .nilFunc, .nilFunc] 68)).drew.heap.size = w.heap.size + 1 := by simp [World.drew]
  have hne : ¬ b = w.heap.size := by omega
  have hne' : ¬ w.heap.size = b := by omega
  have HE : Hid (∀ w5 v0 v1 v2 v3 v4, Below (w.heap.size + 1) (w.alloc (.cells #[.nilFunc, .nilFunc, .nilFunc, .nilFunc, .nilFunc] 68)).drew w5 → w5.cell? ⟨w.heap.size + 1, 0, none⟩ = some (.pointer (some ⟨b, 0, none⟩)) → ∃ W6, (((((w5.setCell ⟨w.heap.size, 0, none⟩ v0).setCell ⟨w.heap.size, 1, none⟩ v1).setCell ⟨w.heap.size, 2, none⟩ v2).setCell ⟨w.heap.size, 3, none⟩ v3).setCell ⟨w.heap.size, 4, none⟩ v4) = W6 ∧ Below w.heap.size w W6 ∧ W6.cell? ⟨w.heap.size + 1, 0, none⟩ = some (.pointer (some ⟨b, 0, none⟩)) ∧ W6.heap[w.heap.size]? = some (.cells #[v0, v1, v2, v3, v4] 68 (0, 0))) := fun w5 v0 v1 v2 v3 v4 hB hc => by
    have h1 : Below w.heap.size w w5 := ((Below.refl _ w).alloc (Nat.le_refl _) _).drew.trans (hB.mono (by omega))
    have h2 : Out (fun i => i = w.heap.size) w5 (((((w5.setCell ⟨w.heap.size, 0, none⟩ v0).setCell ⟨w.heap.size, 1, none⟩ v1).setCell ⟨w.heap.size, 2, none⟩ v2).setCell ⟨w.heap.size, 3, none⟩ v3).setCell ⟨w.heap.size, 4, none⟩ v4) := Out.put (Out.put (Out.put (Out.put (Out.put (Out.refl _ _) (by rfl)) (by rfl)) (by rfl)) (by rfl)) (by rfl)
    refine ⟨_, rfl, h1.trans (h2.below h1.size (by rintro i rfl; exact Nat.le_refl _)), ?_, ?_⟩
    · have hlt : w.heap.size + 1 < w5.heap.size := by
        rcases Nat.lt_or_ge (w.heap.size + 1) w5.heap.size with h | h
        · exact h
        · have : w5.heap[w.heap.size + 1]? = none := Array.getElem?_eq_none h
          simp [World.cell?, this] at hc
      have h3 := h2.block (w.heap.size + 1) hlt (by omega)
      rw [← hc]
      simp only [World.cell?, h3]
    · simpa using heap_set (heap_set (heap_set (heap_set (heap_set (HF.out w5 hB) 0 v0) 1 v1) 2 v2) 3 v3) 4 v4
  rcases hs with rfl | rfl | rfl
  · have i0 := idx0 b (w.heap.size + 1)
    go_enter Try.func46, Try.ntmps46
    go_wp2_with fail
    go_region_held3 (fun w' => w'.cell? ⟨b, 1, none⟩ = some (.int .i64 0)) (go_keep)
      (first
        | (go_at_call 53; refine (HT.out _).mono ?_; rintro r w5 ⟨rfl, hB5, hc5⟩; rw [hx] at hB5 hc5 ⊢; have hcb := HC.out w5 hB5; obtain ⟨⟨n0, n1, n2, n3, n4⟩, nf0, nf1, nf2, nf3, nf4⟩ := cells5 (HF.out w5 hB5); simp only [act0, act1, act2, List.append_toArray, List.cons_append, List.nil_append])
        | fail)
    obtain ⟨W6, hW6, hB6, hc6, hx6⟩ := HE.out w5 (.func (.func 69) #[] #[.pointer (some ⟨w.heap.size + 1, 0, none⟩)]) (.func (.func 70) #[] #[.pointer (some ⟨w.heap.size + 1, 0, none⟩)]) (.func (.func 71) #[] #[.pointer (some ⟨w.heap.size + 1, 0, none⟩)]) (.func (.func 73) #[.pointer (some ⟨b, 0, none⟩)] #[]) (.func (.func 74) #[] #[]) hB5 hc5
    rw [hW6]
    obtain ⟨⟨m0, m1, m2, m3, m4⟩, -⟩ := cells5 hx6
    clear hW6 hx6 hB5 hc5 n0 n1 n2 n3 n4 nf0 nf1 nf2 nf3 nf4 hcb
    go_wp2
    refine bodyPost_ret (by simp [results, Try.results46, go_sem, m0, m1, m2, m3, m4]; try rfl) rfl ?_
    exact ⟨w.heap.size + 1, rfl, hB6, hc6, by omega⟩
  · have i0 := idx1 b (w.heap.size + 1)
    go_enter Try.func46, Try.ntmps46
    go_wp2_with fail
    go_region_held3 (fun w' => w'.cell? ⟨b, 1, none⟩ = some (.int .i64 1)) (go_keep)
      (first
        | (go_at_call 53; refine (HT.out _).mono ?_; rintro r w5 ⟨rfl, hB5, hc5⟩; rw [hx] at hB5 hc5 ⊢; have hcb := HC.out w5 hB5; obtain ⟨⟨n0, n1, n2, n3, n4⟩, nf0, nf1, nf2, nf3, nf4⟩ := cells5 (HF.out w5 hB5); simp only [act0, act1, act2, List.append_toArray, List.cons_append, List.nil_append])
        | fail)
    obtain ⟨W6, hW6, hB6, hc6, hx6⟩ := HE.out w5 (.func (.func 75) #[] #[.pointer (some ⟨w.heap.size + 1, 0, none⟩)]) (.func (.func 77) #[] #[.pointer (some ⟨w.heap.size + 1, 0, none⟩)]) (.func (.func 79) #[] #[]) (.func (.func 80) #[] #[.pointer (some ⟨w.heap.size + 1, 0, none⟩)]) (.func (.func 81) #[] #[.pointer (some ⟨w.heap.size + 1, 0, none⟩)]) hB5 hc5
    rw [hW6]
    obtain ⟨⟨m0, m1, m2, m3, m4⟩, -⟩ := cells5 hx6
    clear hW6 hx6 hB5 hc5 n0 n1 n2 n3 n4 nf0 nf1 nf2 nf3 nf4 hcb
    go_wp2
    refine bodyPost_ret (by simp [results, Try.results46, go_sem, m0, m1, m2, m3, m4]; try rfl) rfl ?_
    exact ⟨w.heap.size + 1, rfl, hB6, hc6, by omega⟩
  · have i0 := idx2 b (w.heap.size + 1)
    go_enter Try.func46, Try.ntmps46
    go_wp2_with fail
    go_region_held3 (fun w' => w'.cell? ⟨b, 1, none⟩ = some (.int .i64 2)) (go_keep)
      (first
        | (go_at_call 53; refine (HT.out _).mono ?_; rintro r w5 ⟨rfl, hB5, hc5⟩; rw [hx] at hB5 hc5 ⊢; have hcb := HC.out w5 hB5; obtain ⟨⟨n0, n1, n2, n3, n4⟩, nf0, nf1, nf2, nf3, nf4⟩ := cells5 (HF.out w5 hB5); simp only [act0, act1, act2, List.append_toArray, List.cons_append, List.nil_append])
        | fail)
    obtain ⟨W6, hW6, hB6, hc6, hx6⟩ := HE.out w5 (.func (.func 83) #[] #[]) (.func (.func 84) #[] #[]) (.func (.func 85) #[] #[.pointer (some ⟨w.heap.size + 1, 0, none⟩)]) (.func (.func 86) #[] #[]) (.func (.func 87) #[] #[.pointer (some ⟨w.heap.size + 1, 0, none⟩)]) hB5 hc5
    rw [hW6]
    obtain ⟨⟨m0, m1, m2, m3, m4⟩, -⟩ := cells5 hx6
    clear hW6 hx6 hB5 hc5 n0 n1 n2 n3 n4 nf0 nf1 nf2 nf3 nf4 hcb
    go_wp2
    refine bodyPost_ret (by simp [results, Try.results46, go_sem, m0, m1, m2, m3, m4]; try rfl) rfl ?_
    exact ⟨w.heap.size + 1, rfl, hB6, hc6, by omega⟩
end Go.Proofs.Ytdgaimiggejleaa
