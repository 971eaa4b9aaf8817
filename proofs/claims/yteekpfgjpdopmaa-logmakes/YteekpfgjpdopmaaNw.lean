/-
  A log made anew.
-/
import Derived.Test.YteekpfgjpdopmaaCk
namespace Go.Proofs.Yteekpfgjpdopmaa
open Go.RowKit
set_option linter.unusedVariables false

set_option maxRecDepth 100000 in
set_option maxHeartbeats 2000000 in
/-- New. -/
theorem New_any (i t c : Int) (va : Option Addr) (vc : Nat) (es : List Ent) (M : Nat) (w : World) (hE : EntsAt M w va es) (hM : M ≤ w.heap.size) (hk : ckNew i t (es.map Ent.says) = 0) :
    Calls Try.prog 11 #[.int .i64 i, .int .i64 t, .int .i64 c, .slice va es.length vc] w fun e w' => ∃ b S, e = .returned (.tuple #[.pointer (some ⟨b, 0, none⟩), .int .i64 0]) ∧ Lg w.heap.size S w' b (newP i t c (es.map Ent.says)) ∧ Below w.heap.size w w' := by
  have hok := newP_ok (c := c) hk
  have hlen : es.length ≤ 10000 := by have := hok.len; simpa [newP] using this
  have hb0 : 0 ≤ i ∧ i ≤ 4611686018427387904 ∧ i + (es.length : Int) ≤ 4611686018427387904 := by have h1 := hok.b0; have h2 := hok.lim; simp [newP, PL.li] at h1 h2; omega
  have hcks : ∀ e ∈ es, e.d.length ≤ 1000000000 := fun e he => by
    have := eCk_ok (hok.ck e.says (List.mem_map.2 ⟨e, he, rfl⟩))
    have h2 : e.d.length ≤ 4096 := this.2.2.2.2
    omega
  have hB : Below w.heap.size w (w.alloc (.cells #[.int .i64 i, .int .i64 t] 76)) := (Below.refl _ w).alloc (Nat.le_refl _) _
  have hX : (w.alloc (.cells #[.int .i64 i, .int .i64 t] 76)).heap[w.heap.size]? = some (.cells #[.int .i64 i, .int .i64 t] 76 (0, 0)) := heap_alloc_new w _
  have hck := checkNew_any i t va vc es M (w.alloc (.cells #[.int .i64 i, .int .i64 t] 76)) (hE.below (hB.mono hM)) (by simp; omega) (by omega)
  rw [hk] at hck
  have HC : Hid (∀ w1, Below (w.alloc (.cells #[.int .i64 i, .int .i64 t] 76)).heap.size (w.alloc (.cells #[.int .i64 i, .int .i64 t] 76)) w1 → (w1.cell? ⟨w.heap.size, 0, none⟩ = some (.int .i64 i) ∧ w1.cell? ⟨w.heap.size, 1, none⟩ = some (.int .i64 t)) ∧ Below w.heap.size w w1 ∧ w.heap.size < w1.heap.size) := fun w1 h1 => ⟨(cells2 ((h1.block _ (by simp)).trans hX)).1, hB.trans (h1.mono (by simp)), by have := h1.size; simp at this; omega⟩
  have HCP : Hid (∀ w1, Below w.heap.size w w1 → Calls Try.prog 42 #[.slice va es.length vc] w1 fun e w' => ∃ v fs, e = .returned v ∧ EntsOw w1.heap.size w' v fs ∧ fs.map Ent.says = es.map Ent.says ∧ Below w1.heap.size w1 w') := fun w1 h1 => copies_any va vc es M w1 (hE.below (h1.mono hM)) (by have := h1.size; omega) (by omega) hcks
  have HK : Hid (ckNew i t (es.map Ent.says) = 0) := hk
  have HOK : Hid ((newP i t c (es.map Ent.says)).Ok) := hok
  clear hE hk hok hcks hX
  obtain ⟨X, HX, hcase⟩ : ∃ X, Hid (min (max c i) (i + (es.length : Int)) = X) ∧ ((c < i ∧ X = i) ∨ (i ≤ c ∧ c ≤ i + (es.length : Int) ∧ X = c) ∨ (i ≤ c ∧ i + (es.length : Int) < c ∧ X = i + (es.length : Int))) := ⟨_, rfl, by omega⟩
  have HF : Hid (∀ w1 w2 w3 v fs, Below w.heap.size w w1 → w.heap.size < w1.heap.size → Below (w1.alloc (.cells #[.int .i64 (i + (es.length : Int)), .int .i64 (i + (es.length : Int)), .int .i64 X, .int .i64 i, .int .i64 i] 55)).heap.size (w1.alloc (.cells #[.int .i64 (i + (es.length : Int)), .int .i64 (i + (es.length : Int)), .int .i64 X, .int .i64 i, .int .i64 i] 55)) w2 → EntsOw (w1.alloc (.cells #[.int .i64 (i + (es.length : Int)), .int .i64 (i + (es.length : Int)), .int .i64 X, .int .i64 i, .int .i64 i] 55)).heap.size w2 v fs → fs.map Ent.says = es.map Ent.says → Below w2.heap.size w2 w3 → w3.heap[w2.heap.size]? = some (.cells #[.int .i64 i, .int .i64 t, v, .int .i64 (i + (es.length : Int)), .int .i64 (i + (es.length : Int)), .int .i64 X, .int .i64 i, .int .i64 i] 79 (0, 0)) → ∃ S, Lg w.heap.size S w3 w2.heap.size (newP i t c (es.map Ent.says)) ∧ Below w.heap.size w w3) := fun w1 w2 w3 v fs h1 hl1 h2 ho hs h3 hb => by
    have hz := h2.size
    simp at hz
    have hB2 : Below w.heap.size w w2 := (h1.alloc h1.size _).trans (h2.mono (by simp; omega))
    refine ⟨fun j => w1.heap.size ≤ j ∧ j ≤ w2.heap.size, ⟨⟨v, fs, ?_, (ho.base (Nat.zero_le _)).below h3, hs, fun g hg => ?_, fun e he g hg => ?_⟩, HOK.out, ⟨by omega, by omega⟩, fun j hj => ?_, fun j hj => by omega⟩, hB2.trans (h3.mono (by omega))⟩
    · have e : (newP i t c (es.map Ent.says)).c = X := by rw [← HX.out]; simp [newP]
      rw [e]
      simpa [newP] using hb
    · have := ho.lt hg
      simp at this
      omega
    · have := (ho.dat e he).lt hg
      simp at this
      omega
    · have := (Array.getElem?_eq_some_iff.1 hb).1
      omega
  clear HX HOK HK
  rcases hcase with ⟨a1, hx⟩ | ⟨a1, a2, hx⟩ | ⟨a1, a2, hx⟩
  · rw [hx] at HF
    clear hx
    go_enter Try.func11, Try.ntmps11
    go_wp2_with (go_at_call 41; refine hck.mono ?_; rintro r w1 ⟨rfl, hB1⟩; obtain ⟨⟨q0, q1⟩, hB2, hlt⟩ := HC.out w1 hB1; clear hB1 hck HC)
    have hBA : Below w.heap.size w (w1.alloc (.cells #[.int .i64 (i + (es.length : Int)), .int .i64 (i + (es.length : Int)), .int .i64 i, .int .i64 i, .int .i64 i] 55)) := hB2.alloc hB2.size _
    have hcp := HCP.out (w1.alloc (.cells #[.int .i64 (i + (es.length : Int)), .int .i64 (i + (es.length : Int)), .int .i64 i, .int .i64 i, .int .i64 i] 55)).drew hBA.drew
    have HK : Hid (∀ w2, Below (w1.alloc (.cells #[.int .i64 (i + (es.length : Int)), .int .i64 (i + (es.length : Int)), .int .i64 i, .int .i64 i, .int .i64 i] 55)).heap.size (w1.alloc (.cells #[.int .i64 (i + (es.length : Int)), .int .i64 (i + (es.length : Int)), .int .i64 i, .int .i64 i, .int .i64 i] 55)) w2 → (w2.cell? ⟨w.heap.size, 0, none⟩ = some (.int .i64 i) ∧ w2.cell? ⟨w.heap.size, 1, none⟩ = some (.int .i64 t)) ∧ (w2.cell? ⟨w1.heap.size, 0, none⟩ = some (.int .i64 (i + (es.length : Int))) ∧ w2.cell? ⟨w1.heap.size, 1, none⟩ = some (.int .i64 (i + (es.length : Int))) ∧ w2.cell? ⟨w1.heap.size, 2, none⟩ = some (.int .i64 i) ∧ w2.cell? ⟨w1.heap.size, 3, none⟩ = some (.int .i64 i) ∧ w2.cell? ⟨w1.heap.size, 4, none⟩ = some (.int .i64 i))) := fun w2 h2 =>
      ⟨⟨(h2.cell (p := ⟨w.heap.size, 0, none⟩) (by simp; omega)).trans (((Below.refl _ w1).alloc (Nat.le_refl _) _).cell (p := ⟨w.heap.size, 0, none⟩) hlt |>.trans q0), (h2.cell (p := ⟨w.heap.size, 1, none⟩) (by simp; omega)).trans (((Below.refl _ w1).alloc (Nat.le_refl _) _).cell (p := ⟨w.heap.size, 1, none⟩) hlt |>.trans q1)⟩, (cells5 ((h2.block _ (by simp)).trans (heap_alloc_new w1 (.cells #[.int .i64 (i + (es.length : Int)), .int .i64 (i + (es.length : Int)), .int .i64 i, .int .i64 i, .int .i64 i] 55)))).1⟩
    clear HCP
    go_region_held3 (fun w' => (w'.cell? ⟨w.heap.size, 0, none⟩ = some (.int .i64 i) ∧ w'.cell? ⟨w.heap.size, 1, none⟩ = some (.int .i64 t)) ∧ (w'.cell? ⟨w1.heap.size, 0, none⟩ = some (.int .i64 (i + (es.length : Int))) ∧ w'.cell? ⟨w1.heap.size, 1, none⟩ = some (.int .i64 (i + (es.length : Int))) ∧ w'.cell? ⟨w1.heap.size, 2, none⟩ = some (.int .i64 i) ∧ w'.cell? ⟨w1.heap.size, 3, none⟩ = some (.int .i64 i) ∧ w'.cell? ⟨w1.heap.size, 4, none⟩ = some (.int .i64 i))) (go_keep)
      (first
        | (go_at_call 42; refine hcp.mono ?_; rintro r w2 ⟨v, fs, rfl, ho, hs, hB5⟩; obtain ⟨⟨k0, k1⟩, k2, k3, k4, k5, k6⟩ := HK.out w2 ⟨hB5.os, hB5.tape, hB5.output, hB5.size, hB5.block⟩; obtain ⟨fa, fc, rfl, -, -⟩ := ho.shape)
        | fail)
    go_wp2
    go_returns
    have hO5 : Below (w1.alloc (.cells #[.int .i64 (i + (es.length : Int)), .int .i64 (i + (es.length : Int)), .int .i64 i, .int .i64 i, .int .i64 i] 55)).heap.size (w1.alloc (.cells #[.int .i64 (i + (es.length : Int)), .int .i64 (i + (es.length : Int)), .int .i64 i, .int .i64 i, .int .i64 i] 55)) w2 := ⟨hB5.os, hB5.tape, hB5.output, hB5.size, hB5.block⟩
    obtain ⟨S, hL, hBL⟩ := HF.out w1 w2 _ _ fs hB2 hlt hO5 ho hs ((Below.refl _ w2).alloc (Nat.le_refl _) _) (heap_alloc_new w2 _)
    exact ⟨_, S, rfl, hL, hBL⟩
  · rw [hx] at HF
    clear hx
    go_enter Try.func11, Try.ntmps11
    go_wp2_with (go_at_call 41; refine hck.mono ?_; rintro r w1 ⟨rfl, hB1⟩; obtain ⟨⟨q0, q1⟩, hB2, hlt⟩ := HC.out w1 hB1; clear hB1 hck HC)
    have hBA : Below w.heap.size w (w1.alloc (.cells #[.int .i64 (i + (es.length : Int)), .int .i64 (i + (es.length : Int)), .int .i64 c, .int .i64 i, .int .i64 i] 55)) := hB2.alloc hB2.size _
    have hcp := HCP.out (w1.alloc (.cells #[.int .i64 (i + (es.length : Int)), .int .i64 (i + (es.length : Int)), .int .i64 c, .int .i64 i, .int .i64 i] 55)).drew hBA.drew
    have HK : Hid (∀ w2, Below (w1.alloc (.cells #[.int .i64 (i + (es.length : Int)), .int .i64 (i + (es.length : Int)), .int .i64 c, .int .i64 i, .int .i64 i] 55)).heap.size (w1.alloc (.cells #[.int .i64 (i + (es.length : Int)), .int .i64 (i + (es.length : Int)), .int .i64 c, .int .i64 i, .int .i64 i] 55)) w2 → (w2.cell? ⟨w.heap.size, 0, none⟩ = some (.int .i64 i) ∧ w2.cell? ⟨w.heap.size, 1, none⟩ = some (.int .i64 t)) ∧ (w2.cell? ⟨w1.heap.size, 0, none⟩ = some (.int .i64 (i + (es.length : Int))) ∧ w2.cell? ⟨w1.heap.size, 1, none⟩ = some (.int .i64 (i + (es.length : Int))) ∧ w2.cell? ⟨w1.heap.size, 2, none⟩ = some (.int .i64 c) ∧ w2.cell? ⟨w1.heap.size, 3, none⟩ = some (.int .i64 i) ∧ w2.cell? ⟨w1.heap.size, 4, none⟩ = some (.int .i64 i))) := fun w2 h2 =>
      ⟨⟨(h2.cell (p := ⟨w.heap.size, 0, none⟩) (by simp; omega)).trans (((Below.refl _ w1).alloc (Nat.le_refl _) _).cell (p := ⟨w.heap.size, 0, none⟩) hlt |>.trans q0), (h2.cell (p := ⟨w.heap.size, 1, none⟩) (by simp; omega)).trans (((Below.refl _ w1).alloc (Nat.le_refl _) _).cell (p := ⟨w.heap.size, 1, none⟩) hlt |>.trans q1)⟩, (cells5 ((h2.block _ (by simp)).trans (heap_alloc_new w1 (.cells #[.int .i64 (i + (es.length : Int)), .int .i64 (i + (es.length : Int)), .int .i64 c, .int .i64 i, .int .i64 i] 55)))).1⟩
    clear HCP
    go_region_held3 (fun w' => (w'.cell? ⟨w.heap.size, 0, none⟩ = some (.int .i64 i) ∧ w'.cell? ⟨w.heap.size, 1, none⟩ = some (.int .i64 t)) ∧ (w'.cell? ⟨w1.heap.size, 0, none⟩ = some (.int .i64 (i + (es.length : Int))) ∧ w'.cell? ⟨w1.heap.size, 1, none⟩ = some (.int .i64 (i + (es.length : Int))) ∧ w'.cell? ⟨w1.heap.size, 2, none⟩ = some (.int .i64 c) ∧ w'.cell? ⟨w1.heap.size, 3, none⟩ = some (.int .i64 i) ∧ w'.cell? ⟨w1.heap.size, 4, none⟩ = some (.int .i64 i))) (go_keep)
      (first
        | (go_at_call 42; refine hcp.mono ?_; rintro r w2 ⟨v, fs, rfl, ho, hs, hB5⟩; obtain ⟨⟨k0, k1⟩, k2, k3, k4, k5, k6⟩ := HK.out w2 ⟨hB5.os, hB5.tape, hB5.output, hB5.size, hB5.block⟩; obtain ⟨fa, fc, rfl, -, -⟩ := ho.shape)
        | fail)
    go_wp2
    go_returns
    have hO5 : Below (w1.alloc (.cells #[.int .i64 (i + (es.length : Int)), .int .i64 (i + (es.length : Int)), .int .i64 c, .int .i64 i, .int .i64 i] 55)).heap.size (w1.alloc (.cells #[.int .i64 (i + (es.length : Int)), .int .i64 (i + (es.length : Int)), .int .i64 c, .int .i64 i, .int .i64 i] 55)) w2 := ⟨hB5.os, hB5.tape, hB5.output, hB5.size, hB5.block⟩
    obtain ⟨S, hL, hBL⟩ := HF.out w1 w2 _ _ fs hB2 hlt hO5 ho hs ((Below.refl _ w2).alloc (Nat.le_refl _) _) (heap_alloc_new w2 _)
    exact ⟨_, S, rfl, hL, hBL⟩
  · rw [hx] at HF
    clear hx
    go_enter Try.func11, Try.ntmps11
    go_wp2_with (go_at_call 41; refine hck.mono ?_; rintro r w1 ⟨rfl, hB1⟩; obtain ⟨⟨q0, q1⟩, hB2, hlt⟩ := HC.out w1 hB1; clear hB1 hck HC)
    have hBA : Below w.heap.size w (w1.alloc (.cells #[.int .i64 (i + (es.length : Int)), .int .i64 (i + (es.length : Int)), .int .i64 (i + (es.length : Int)), .int .i64 i, .int .i64 i] 55)) := hB2.alloc hB2.size _
    have hcp := HCP.out (w1.alloc (.cells #[.int .i64 (i + (es.length : Int)), .int .i64 (i + (es.length : Int)), .int .i64 (i + (es.length : Int)), .int .i64 i, .int .i64 i] 55)).drew hBA.drew
    have HK : Hid (∀ w2, Below (w1.alloc (.cells #[.int .i64 (i + (es.length : Int)), .int .i64 (i + (es.length : Int)), .int .i64 (i + (es.length : Int)), .int .i64 i, .int .i64 i] 55)).heap.size (w1.alloc (.cells #[.int .i64 (i + (es.length : Int)), .int .i64 (i + (es.length : Int)), .int .i64 (i + (es.length : Int)), .int .i64 i, .int .i64 i] 55)) w2 → (w2.cell? ⟨w.heap.size, 0, none⟩ = some (.int .i64 i) ∧ w2.cell? ⟨w.heap.size, 1, none⟩ = some (.int .i64 t)) ∧ (w2.cell? ⟨w1.heap.size, 0, none⟩ = some (.int .i64 (i + (es.length : Int))) ∧ w2.cell? ⟨w1.heap.size, 1, none⟩ = some (.int .i64 (i + (es.length : Int))) ∧ w2.cell? ⟨w1.heap.size, 2, none⟩ = some (.int .i64 (i + (es.length : Int))) ∧ w2.cell? ⟨w1.heap.size, 3, none⟩ = some (.int .i64 i) ∧ w2.cell? ⟨w1.heap.size, 4, none⟩ = some (.int .i64 i))) := fun w2 h2 =>
      ⟨⟨(h2.cell (p := ⟨w.heap.size, 0, none⟩) (by simp; omega)).trans (((Below.refl _ w1).alloc (Nat.le_refl _) _).cell (p := ⟨w.heap.size, 0, none⟩) hlt |>.trans q0), (h2.cell (p := ⟨w.heap.size, 1, none⟩) (by simp; omega)).trans (((Below.refl _ w1).alloc (Nat.le_refl _) _).cell (p := ⟨w.heap.size, 1, none⟩) hlt |>.trans q1)⟩, (cells5 ((h2.block _ (by simp)).trans (heap_alloc_new w1 (.cells #[.int .i64 (i + (es.length : Int)), .int .i64 (i + (es.length : Int)), .int .i64 (i + (es.length : Int)), .int .i64 i, .int .i64 i] 55)))).1⟩
    clear HCP
    go_region_held3 (fun w' => (w'.cell? ⟨w.heap.size, 0, none⟩ = some (.int .i64 i) ∧ w'.cell? ⟨w.heap.size, 1, none⟩ = some (.int .i64 t)) ∧ (w'.cell? ⟨w1.heap.size, 0, none⟩ = some (.int .i64 (i + (es.length : Int))) ∧ w'.cell? ⟨w1.heap.size, 1, none⟩ = some (.int .i64 (i + (es.length : Int))) ∧ w'.cell? ⟨w1.heap.size, 2, none⟩ = some (.int .i64 (i + (es.length : Int))) ∧ w'.cell? ⟨w1.heap.size, 3, none⟩ = some (.int .i64 i) ∧ w'.cell? ⟨w1.heap.size, 4, none⟩ = some (.int .i64 i))) (go_keep)
      (first
        | (go_at_call 42; refine hcp.mono ?_; rintro r w2 ⟨v, fs, rfl, ho, hs, hB5⟩; obtain ⟨⟨k0, k1⟩, k2, k3, k4, k5, k6⟩ := HK.out w2 ⟨hB5.os, hB5.tape, hB5.output, hB5.size, hB5.block⟩; obtain ⟨fa, fc, rfl, -, -⟩ := ho.shape)
        | fail)
    go_wp2
    go_returns
    have hO5 : Below (w1.alloc (.cells #[.int .i64 (i + (es.length : Int)), .int .i64 (i + (es.length : Int)), .int .i64 (i + (es.length : Int)), .int .i64 i, .int .i64 i] 55)).heap.size (w1.alloc (.cells #[.int .i64 (i + (es.length : Int)), .int .i64 (i + (es.length : Int)), .int .i64 (i + (es.length : Int)), .int .i64 i, .int .i64 i] 55)) w2 := ⟨hB5.os, hB5.tape, hB5.output, hB5.size, hB5.block⟩
    obtain ⟨S, hL, hBL⟩ := HF.out w1 w2 _ _ fs hB2 hlt hO5 ho hs ((Below.refl _ w2).alloc (Nat.le_refl _) _) (heap_alloc_new w2 _)
    exact ⟨_, S, rfl, hL, hBL⟩
end Go.Proofs.Yteekpfgjpdopmaa
