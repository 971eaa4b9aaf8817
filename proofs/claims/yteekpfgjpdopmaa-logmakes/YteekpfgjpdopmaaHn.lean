/-
  Hand.
-/
import Derived.Test.YteekpfgjpdopmaaSp
namespace Go.Proofs.Yteekpfgjpdopmaa
open Go.RowKit
set_option linter.unusedVariables false

/-- What Hand tells. -/
def haE (P : PL) : List En := P.E.drop (P.h - P.bi).toNat
/-- The log behind it. -/
def haP (P : PL) : PL := P.mk' P.li P.s P.c P.g P.a
theorem haP_ok {P : PL} (h : P.Ok) : (haP P).Ok :=
  h.mk' h.ba h.ag h.gc h.cl h.gs (by have := h.sh; have := h.hl; omega) (Int.le_refl _)

set_option maxRecDepth 100000 in
set_option maxHeartbeats 4000000 in
/-- Hand. -/
theorem Hand_any {N : Nat} {S : Nat → Prop} {w : World} {b : Nat} {P : PL} (h : Lg N S w b P) (hN : N ≤ w.heap.size) :
    Calls Try.prog 30 #[.pointer (some ⟨b, 0, none⟩)] w fun e w' => ∃ v fs, e = .returned v ∧ EntsOw w.heap.size w' v fs ∧ fs.map Ent.says = haE P ∧ LK N S w w' b (haP P) := by
  obtain ⟨va, vc, es, hb, -⟩ := h.cells
  have hbw := h.inn _ h.Sb
  obtain ⟨⟨-, -, m2, m3, m4, m5, m6, m7⟩, -⟩ := cells8 hb
  have hhb : P.bi ≤ P.h := by have := h.ok.ba; have := h.ok.ag; have := h.ok.gs; have := h.ok.sh; omega
  obtain ⟨n0, hn0⟩ : ∃ n0 : Nat, P.h = P.bi + (n0 : Int) := ⟨(P.h - P.bi).toNat, by omega⟩
  have hgb : (P.h - P.bi).toNat = n0 := by omega
  have hhl := h.ok.hl
  have hlen : n0 ≤ P.E.length := by unfold PL.li at hhl; omega
  have ecn : cnt (P.bi + (n0 : Int)) P.li (P.E.length : Int) = P.E.length - n0 := by unfold cnt PL.li; omega
  obtain ⟨W1, hW1⟩ : ∃ W1, w.alloc (.cells #[.int .i64 P.h, .int .i64 P.s, .int .i64 P.c, .int .i64 P.g, .int .i64 P.a] 55) = W1 := ⟨_, rfl⟩
  have HW1 : Hid (w.alloc (.cells #[.int .i64 P.h, .int .i64 P.s, .int .i64 P.c, .int .i64 P.g, .int .i64 P.a] 55) = W1) := hW1
  have HB1 : Hid (Below w.heap.size w W1) := by show Below _ _ _; rw [← hW1]; exact (Below.refl _ w).alloc (Nat.le_refl _) _
  have HZ1 : Hid (W1.heap.size = w.heap.size + 1) := by show _ = _; rw [← hW1]; simp
  have HX1 : Hid (∀ w2, Below W1.heap.size W1 w2 → w2.heap[w.heap.size]? = some (.cells #[.int .i64 P.h, .int .i64 P.s, .int .i64 P.c, .int .i64 P.g, .int .i64 P.a] 55 (0, 0))) := fun w2 h2 => (h2.block _ (by rw [HZ1.out]; omega)).trans (by rw [← hW1]; exact heap_alloc_new w _)
  have HLW : Hid (∀ w1, Below w.heap.size w w1 → Calls Try.prog 69 #[.pointer (some ⟨b, 0, none⟩)] w1 fun e w' => e = .returned (.agg #[.int .i64 P.li, .int .i64 P.lt]) ∧ Below w1.heap.size w1 w') := fun w1 hB => last_any (h.below hB)
  have HM : Hid (∀ w1, Below w.heap.size w w1 → (w1.cell? ⟨b, 2, none⟩ = some (.slice va P.E.length vc) ∧ w1.cell? ⟨b, 3, none⟩ = some (.int .i64 P.h))) := fun w1 hB =>
    ⟨(hB.cell (p := ⟨b, 2, none⟩) hbw).trans m2, (hB.cell (p := ⟨b, 3, none⟩) hbw).trans m3⟩
  have HSP : Hid (∀ w3, Below w.heap.size w w3 → Calls Try.prog 76 #[.pointer (some ⟨b, 0, none⟩), .int .i64 P.h, .int .i64 P.li, .int .i64 (P.E.length : Int)] w3 fun e w' => ∃ v fs, e = .returned v ∧ EntsOw w3.heap.size w' v fs ∧ fs.map Ent.says = haE P ∧ Below w3.heap.size w3 w') := fun w3 hB => by
    have := span_any (h.below hB) n0 P.li (P.E.length : Int) (by omega) (Int.le_refl _)
    rw [ecn, ← hn0, List.take_of_length_le (by simp)] at this
    unfold haE
    rw [hgb]
    exact this
  have HMV : Hid (∀ w4 v fs, Below w.heap.size w w4 → EntsOw (w.heap.size + 1) w4 v fs → fs.map Ent.says = haE P → Calls Try.prog 78 #[.pointer (some ⟨b, 0, none⟩), .agg #[.int .i64 P.li, .int .i64 P.s, .int .i64 P.c, .int .i64 P.g, .int .i64 P.a]] w4 fun e w' => (∃ q, e = .returned (.bool q)) ∧ EntsOw w.heap.size w' v fs ∧ fs.map Ent.says = haE P ∧ LK N S w w' b (haP P)) := fun w4 v fs hB ho hsy => by
    have hm := move_any (h.below hB) (by have := hB.size; omega) P.li P.s P.c P.g P.a (haP_ok h.ok)
    refine hm.mono ?_
    rintro e w' ⟨rfl, hK⟩
    refine ⟨⟨_, rfl⟩, (ho.base (by omega)).out hK.out (fun g hg hS => ?_) (fun e he g hg hS => ?_), hsy, hK.pre hB⟩
    · have h3 := h.inn g hS; have := (ho.lt hg).1; omega
    · have h3 := h.inn g hS; have := ((ho.dat e he).lt hg).1; omega
  obtain ⟨⟨y0, y1, y2, y3, y4⟩, yf⟩ := cells5 (HX1.out W1 (Below.refl _ _))
  have HX3 : Hid (∀ w2 w4, Below W1.heap.size W1 w2 → Below (w2.setCell ⟨w.heap.size, 0, none⟩ (.int .i64 P.li)).heap.size (w2.setCell ⟨w.heap.size, 0, none⟩ (.int .i64 P.li)) w4 → (w4.cell? ⟨w.heap.size, 0, none⟩ = some (.int .i64 P.li) ∧ w4.cell? ⟨w.heap.size, 1, none⟩ = some (.int .i64 P.s) ∧ w4.cell? ⟨w.heap.size, 2, none⟩ = some (.int .i64 P.c) ∧ w4.cell? ⟨w.heap.size, 3, none⟩ = some (.int .i64 P.g) ∧ w4.cell? ⟨w.heap.size, 4, none⟩ = some (.int .i64 P.a))) := fun w2 w4 h2 h4 => by
    have hx : (w2.setCell ⟨w.heap.size, 0, none⟩ (.int .i64 P.li)).heap[w.heap.size]? = some (.cells #[.int .i64 P.li, .int .i64 P.s, .int .i64 P.c, .int .i64 P.g, .int .i64 P.a] 55 (0, 0)) := by rw [heap_set (HX1.out w2 h2) 0 _]; rfl
    exact (cells5 ((h4.block _ (by rw [size_set]; have := h2.size; have := HZ1.out; omega)).trans hx)).1
  have hfi := place_index
  clear h hb hW1 hn0 hgb hhl hlen ecn hhb
  generalize P.li = li at *
  generalize P.lt = lt at *
  generalize P.h = h0 at *
  generalize P.s = s0 at *
  generalize P.c = c0 at *
  generalize P.g = g0 at *
  generalize P.a = a0 at *
  generalize P.E.length = ln at *
  go_enter Try.func30, Try.ntmps30
  go_wp2_with fail
  rw [HW1.out]
  refine (HLW.out _ (by exact HB1.out)).mono ?_
  rintro r w2 ⟨rfl, hB2⟩
  have HB2 : Hid (Below w.heap.size w w2) := HB1.out.trans (hB2.mono HB1.out.size)
  have HB2' : Hid (Below W1.heap.size W1 w2) := hB2
  obtain ⟨⟨z0, z1, z2, z3, z4⟩, zf⟩ := cells5 (HX1.out w2 hB2)
  obtain ⟨k2, k3⟩ := HM.out w2 HB2.out
  have HB3 : Hid (Below w.heap.size w (w2.setCell ⟨w.heap.size, 0, none⟩ (.int .i64 li))) := HB2.out.setCell (by simp) _
  obtain ⟨j2, j3⟩ := HM.out _ HB3.out
  obtain ⟨x0, x1, x2, x3, x4⟩ := HX3.out w2 _ hB2 (Below.refl _ _)
  clear hB2 y0 y1 y2 y3 y4 yf
  go_wp2_with fail
  have HSW := HSP.out _ HB3.out.drew
  have HSQ : Hid (Calls _ _ _ _ _) := HSW
  have HSZ : Hid (w.heap.size + 1 ≤ (w2.setCell ⟨w.heap.size, 0, none⟩ (.int .i64 li)).heap.size) := by show _ ≤ _; rw [size_set]; have := HB2'.out.size; rw [HZ1.out] at this; exact this
  clear HSW
  go_region_held3 (fun w' => w'.cell? ⟨b, 2, none⟩ = some (.slice va ln vc) ∧ w'.cell? ⟨b, 3, none⟩ = some (.int .i64 h0) ∧ w'.cell? ⟨w.heap.size, 0, none⟩ = some (.int .i64 li)) (go_keep)
    (first
      | (go_at_call 76; refine HSQ.out.mono ?_; rintro r w4 ⟨v, fs, rfl, hO4', hsy4, hB4'⟩; have HO4 : Hid (EntsOw (w.heap.size + 1) w4 v fs) := hO4'.base HSZ.out; have HSY4 : Hid (fs.map Ent.says = haE P) := hsy4; have hB4 : Below (w2.setCell ⟨w.heap.size, 0, none⟩ (.int .i64 li)).heap.size (w2.setCell ⟨w.heap.size, 0, none⟩ (.int .i64 li)) w4 := ⟨hB4'.os, hB4'.tape, hB4'.output, hB4'.size, hB4'.block⟩; obtain ⟨v0, v1, v2, v3, v4⟩ := HX3.out w2 w4 HB2'.out hB4; have HB4 : Hid (Below w.heap.size w w4) := HB3.out.trans (hB4.mono HB3.out.size); obtain ⟨i2, i3⟩ := HM.out w4 HB4.out; clear hO4' hsy4 hB4' hB4)
      | fail)
  go_wp2_with (go_at_call 78; refine (HMV.out w4 v fs HB4.out HO4.out HSY4.out).mono ?_; rintro r w5 ⟨⟨qq, rfl⟩, q1, q2, q3⟩)
  go_ret
  exact ⟨_, fs, rfl, q1, q2, q3⟩
end Go.Proofs.Yteekpfgjpdopmaa
