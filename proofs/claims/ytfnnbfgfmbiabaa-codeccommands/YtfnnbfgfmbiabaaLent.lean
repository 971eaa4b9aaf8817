/-
  What is lent and kept: a copy with one more byte behind it; whether it is as it was.
-/
import Derived.Test.YtfnnbfgfmbiabaaFirst
namespace Go.Proofs.Ytfnnbfgfmbiabaa
open Go.RowKit Go.Shelf

set_option maxRecDepth 100000 in
set_option maxHeartbeats 1000000 in
theorem lent_any (M : Nat) (v : Value) (l : List UInt8) (w : World) (hv : Sl M w v l) (hM : M ≤ w.heap.size) (hl : l.length ≤ 20000) :
    Calls Try.prog 16 #[v] w fun e w' => ∃ g cap, e = .returned (.slice (some ⟨g, 0, none⟩) l.length cap) ∧ Ow w.heap.size w' (.slice (some ⟨g, 0, none⟩) (l.length + 1) cap) (l ++ [201]) ∧ Below w.heap.size w w' := by
  obtain ⟨a, c, rfl, -⟩ := id hv
  go_enter Try.func16, Try.ntmps16
  go_wp2_with fail
  refine (bytes_any M _ l _ hv hM (by omega)).mono ?_
  rintro e w1 ⟨v1, rfl, hO1, hB1⟩
  obtain ⟨a1, c1, rfl, -, -⟩ := hO1.shape
  have hz1 := hB1.size
  have hs2 := sl_new w1 [201] #[.int .u8 201] (by simp) (by simp) (by rfl)
  have hO2 := hO1.alloc (.cells #[.int .u8 201] 5)
  have hlen : (l ++ [(201 : UInt8)]).length = l.length + 1 := by simp
  go_wp2_with (at_builtin; refine wpList_append_ow rfl _ _ rfl w.heap.size _ _ _ l [201] rfl hO2 rfl hs2 (by simp; omega) (by simp; omega) ?_; intro v3 w3 hO3 hg3 hn3; obtain ⟨a3, c3, rfl, hc3, hm3⟩ := hO3.shape; obtain ⟨g, rfl, hgl, -, -, -⟩ := hO3.at0 (by simp); rw [hlen] at hO3 hc3 ⊢; have hc3' : l.length ≤ c3 := by omega)
  go_ret
  refine ⟨g, c3, rfl, hO3, ?_⟩
  exact (hB1.alloc hz1 _).grown hg3 (by simp; omega) (fun k hk => (World.ownsRow.lt hO1 k hk).1)

/-- What was lent, as far as it reads. -/
theorem Ow.lent {N M : Nat} {w : World} {g cap : Nat} {l : List UInt8} (h : Ow N w (.slice (some ⟨g, 0, none⟩) (l.length + 1) cap) (l ++ [201])) (hM : w.heap.size ≤ M) : Sl M w (.slice (some ⟨g, 0, none⟩) l.length cap) l := by
  obtain ⟨a, c, e, h1, h2, h3⟩ := h.sl hM
  have hlen : (l ++ [(201 : UInt8)]).length = l.length + 1 := by simp
  rw [hlen] at e h1
  cases e
  refine ⟨_, _, rfl, by omega, h2, ?_⟩
  obtain ⟨b, off, e2, hb, hc⟩ := h3.resolve_left (by simp)
  refine .inr ⟨b, off, e2, hb, fun i hi => ?_⟩
  rw [hc i (by omega)]
  simp [List.getElem?_append, hi]

theorem Ow.mark {N : Nat} {w : World} {g cap : Nat} {l : List UInt8} (h : Ow N w (.slice (some ⟨g, 0, none⟩) (l.length + 1) cap) (l ++ [201])) : w.cell? ⟨g, l.length, none⟩ = some (.int .u8 201) ∧ l.length + 1 ≤ cap ∧ cap ≤ maxLen := by
  obtain ⟨a, c, e, h1, h2, h3⟩ := h.sl (Nat.le_refl _)
  have hlen : (l ++ [(201 : UInt8)]).length = l.length + 1 := by simp
  rw [hlen] at e h1
  cases e
  obtain ⟨b, off, e2, hb, hc⟩ := h3.resolve_left (by simp)
  cases e2
  refine ⟨?_, h1, h2⟩
  have := hc l.length (by omega)
  rw [Nat.zero_add] at this
  rw [this]
  simp [encB]

set_option maxRecDepth 100000 in
set_option maxHeartbeats 1000000 in
theorem kept_any (N g cap : Nat) (v : Value) (l : List UInt8) (w : World) (hl : l.length ≤ 20000) (hO : Ow N w (.slice (some ⟨g, 0, none⟩) (l.length + 1) cap) (l ++ [201])) (hv : Sl w.heap.size w v l) :
    Calls Try.prog 19 #[.slice (some ⟨g, 0, none⟩) l.length cap, v] w fun e w' => e = .returned (.bool true) ∧ ∃ n, w' = w.drewN n := by
  have hs := hO.lent (Nat.le_refl _)
  obtain ⟨hmk, hc, hm⟩ := hO.mark
  obtain ⟨a, c, rfl, -⟩ := id hv
  unfold maxLen at hm
  go_enter Try.func19, Try.ntmps19
  go_wp2_with fail
  refine (same_any _ _ _ l l _ hs hv).mono ?_
  rintro e w1 ⟨rfl, n1, rfl⟩
  simp only [decide_true]
  have hmk1 : (w.drewN n1).cell? ⟨g, l.length, none⟩ = some (.int .u8 201) := hmk
  clear hs hv hO
  go_wp2
  go_ret
  exact ⟨rfl, _, rfl⟩
end Go.Proofs.Ytfnnbfgfmbiabaa
