/-
  What a law keeps of a wal's views and names beside the wal.
-/
import Derived.Test.YtnahghldlkjleaaGreatDoorCwa
import Derived.Test.YtnahghldlkjleaaGreatDoorSae
namespace Go.Proofs.YtnahghldlkjleaaGreatDoor
open Go.RowKit
set_option linter.unusedVariables false

/-- A view in a box, and names, beside the wal's blocks. -/
structure Kp (A : Nat → Prop) (W : World) (bx : Nat) (cs : Array Value) (v : Value) (es : List Ent) (vs : Value) (ns : List (List UInt8)) : Prop where
  box : W.heap[bx]? = some (.cells cs 74 (0, 0))
  nbx : ¬ A bx
  ow : EntsOw 0 W v es
  now : ∀ g, v.ownBlock = some g → ¬ A g
  nod : ∀ e ∈ es, ∀ g, e.x.ownBlock = some g → ¬ A g
  ro : Ro RS 0 W vs ns
  nro : ∀ g, vs.ownBlock = some g → ¬ A g
theorem Kp.out {A : Nat → Prop} {W W' : World} {bx : Nat} {cs : Array Value} {v : Value} {es : List Ent} {vs : Value} {ns : List (List UInt8)} (h : Kp A W bx cs v es vs ns) (hO : Out A W W') : Kp A W' bx cs v es vs ns :=
  ⟨out_heap hO h.box h.nbx, h.nbx, h.ow.out hO h.now h.nod, h.now, h.nod, h.ro.out hO h.nro, h.nro⟩
theorem Kp.below {A : Nat → Prop} {W W' : World} {bx : Nat} {cs : Array Value} {v : Value} {es : List Ent} {vs : Value} {ns : List (List UInt8)} (h : Kp A W bx cs v es vs ns) (hB : Below W.heap.size W W') : Kp A W' bx cs v es vs ns := h.out (Out.of_below hB)
theorem Kp.grewn {A : Nat → Prop} {W W' : World} {bx : Nat} {cs : Array Value} {v : Value} {es : List Ent} {vs : Value} {ns : List (List UInt8)} (h : Kp A W bx cs v es vs ns) (hO : Out A W W') : Kp (grew A W W') W' bx cs v es vs ns := by
  have hx : ∀ i, ¬ A i → i < W.heap.size → ¬ grew A W W' i := fun i h1 h2 h3 => h3.elim h1 (fun h4 => by omega)
  have k := h.out hO
  exact ⟨k.box, hx _ h.nbx (Array.getElem?_eq_some_iff.1 h.box).1, k.ow, fun g hg => hx _ (h.now g hg) (h.ow.lt hg).2, fun e he g hg => hx _ (h.nod e he g hg) ((h.ow.dat e he).lt hg).2, k.ro, fun g hg => hx _ (h.nro g hg) (h.ro.lt hg).2⟩

/-- The cells of a view. -/
def vwC (J : LP) (va : Option Addr) (ca : Nat) : Array Value := #[.int .i64 J.t, .int .i64 J.v, .int .i64 J.c, .int .i64 J.bi, .int .i64 J.bt, .slice va J.E.length ca]
def Pv (wr w1 : World) (E : List En) (va : Option Addr) (ca : Nat) : Prop := ∃ es : List Ent, EntsOw wr.heap.size w1 (.slice va E.length ca) es ∧ es.map Ent.says = E ∧ Below wr.heap.size wr w1
theorem view_pv {A : Nat → Prop} {w : World} {wb d : Nat} {X : WS} (h : Wl A w wb d X) :
    Calls Tryz.prog 32 #[.pointer (some ⟨wb, 0, none⟩)] w fun e w' => ∃ va ca, e = .returned (.agg (vwC X.J va ca)) ∧ Pv w w' X.J.E va ca := by
  refine (View_any h).mono ?_
  rintro e w' ⟨va, vc, es, rfl, ho, hs, hB⟩
  have hl : es.length = X.J.E.length := by rw [← hs]; simp
  rw [hl] at ho ⊢
  exact ⟨va, vc, rfl, es, ho, hs, hB⟩
theorem segs_nm {A : Nat → Prop} {w : World} {wb d : Nat} {X : WS} {H T o F} (h : Wl A w wb d X) (hwi : WI X H T o F) (hf : X.sg.length ≤ 100000) :
    Calls Tryz.prog 33 #[.pointer (some ⟨wb, 0, none⟩)] w fun e w' => ∃ g cap, e = .returned (.slice (some ⟨g, 0, none⟩) X.sg.length cap) ∧ X.sg.length ≤ cap ∧ Ro RS w.heap.size w' (.slice (some ⟨g, 0, none⟩) X.sg.length cap) (X.sg.map Sg.nm) ∧ Below w.heap.size w w' := by
  refine (Segments_any h hf (fun s hs => Nat.le_trans (hwi.num_mem hs).1 hwi.top)).mono ?_
  rintro e w' ⟨v, rfl, hr, hB⟩
  have hp := List.length_pos_iff.2 hwi.ne
  obtain ⟨g, cap, hv, -⟩ := hr.at0 (by simpa using hp)
  obtain ⟨_, cap', e2, hc1, -⟩ := hr.shape
  rw [List.length_map] at hv e2 hc1
  subst hv
  simp only [Value.slice.injEq, true_and] at e2
  exact ⟨g, cap, rfl, by omega, hr, hB⟩
theorem kp_made {A : Nat → Prop} {wr w1 w3 : World} {wb d : Nat} {X : WS} (hq : Wl A wr wb d X) {J : LP} {va : Option Addr} {ca : Nat} {es : List Ent} {vs : Value} {ns : List (List UInt8)} (ho : EntsOw wr.heap.size w1 (.slice va J.E.length ca) es) (hB1 : Below wr.heap.size wr w1)
    (hr : Ro RS (w1.alloc (.cells (vwC J va ca) 74)).heap.size w3 vs ns) (hB3 : Below (w1.alloc (.cells (vwC J va ca) 74)).heap.size (w1.alloc (.cells (vwC J va ca) 74)) w3) :
    Kp A w3 w1.heap.size (vwC J va ca) (.slice va J.E.length ca) es vs ns ∧ Below wr.heap.size wr w3 := by
  have hB2 : Below w1.heap.size w1 (w1.alloc (.cells (vwC J va ca) 74)) := (Below.refl _ w1).alloc (Nat.le_refl _) _
  have hB13 : Below w1.heap.size w1 w3 := hB2.trans (hB3.mono hB2.size)
  have hbx := bel_heap hB3 (heap_alloc_new w1 (.cells (vwC J va ca) 74))
  have hs1 := hB1.size
  refine ⟨⟨hbx, fun ha => by have := hq.inn _ ha; omega, (ho.below hB13).base (Nat.zero_le _), fun g hg ha => ?_, fun e he g hg ha => ?_, hr.base (Nat.zero_le _), fun g hg ha => ?_⟩, hB1.trans (hB13.mono hB1.size)⟩
  · have := (ho.lt hg).1; have := hq.inn _ ha; omega
  · have := ((ho.dat e he).lt hg).1; have := hq.inn _ ha; omega
  · have := (hr.lt hg).1; have := hq.inn _ ha; have := hB2.size; omega

/-- A wal of X2, beside what was told of it when it was X. -/
def P1 (w0 : World) (wb d : Nat) (X X2 : WS) (W : World) (bx : Nat) (va : Option Addr) (ca gs cs : Nat) : Prop := ∃ (A : Nat → Prop) (es : List Ent), Wl A W wb d X2 ∧ (∀ i, A i → w0.heap.size ≤ i) ∧ Below w0.heap.size w0 W ∧ es.map Ent.says = X.J.E ∧ Kp A W bx (vwC X.J va ca) (.slice va X.J.E.length ca) es (.slice (some ⟨gs, 0, none⟩) X.sg.length cs) (X.sg.map Sg.nm)
theorem p1_made {w0 wr w1 : World} {wb d : Nat} {X : WS} {H T o F} (h : Wv w0 wr wb d X H T o F) (hf : X.sg.length ≤ 100000) {va : Option Addr} {ca : Nat} (hp : Pv wr w1 X.J.E va ca) :
    Calls Tryz.prog 33 #[.pointer (some ⟨wb, 0, none⟩)] (w1.alloc (.cells (vwC X.J va ca) 74)) fun e w3 => ∃ gs cs, e = .returned (.slice (some ⟨gs, 0, none⟩) X.sg.length cs) ∧ X.sg.length ≤ cs ∧ P1 w0 wb d X X w3 w1.heap.size va ca gs cs := by
  obtain ⟨⟨⟨A, hq, hA⟩, hB⟩, hwi⟩ := h
  obtain ⟨es, ho, hs, hB1⟩ := hp
  have hB2 : Below w1.heap.size w1 (w1.alloc (.cells (vwC X.J va ca) 74)) := (Below.refl _ w1).alloc (Nat.le_refl _) _
  have hB12 := hB1.trans (hB2.mono hB1.size)
  refine (segs_nm (hq.below hB12) hwi hf).mono ?_
  rintro e w3 ⟨g, cap, rfl, hc, hr, hB3⟩
  obtain ⟨k, hB13⟩ := kp_made hq ho hB1 hr hB3
  exact ⟨g, cap, rfl, hc, A, es, hq.below hB13, hA, hB.trans (hB13.mono hB.size), hs, k⟩
theorem p2_err {w0 w3 : World} {wb d bx ca gs cs : Nat} {va : Option Addr} {X : WS} {H T o F} (hwi : WI X H T o F) (h : P1 w0 wb d X X w3 bx va ca gs cs) (ix : Int) (hix : ix < 0 ∨ X.J.li < ix) :
    Calls Tryz.prog 20 #[.pointer (some ⟨wb, 0, none⟩), .int .i64 ix] w3 fun e w4 => e = .returned (.tuple #[.int .i64 0, .int .i64 1]) ∧ P1 w0 wb d X X w4 bx va ca gs cs := by
  obtain ⟨A, es, hq, hA, hB, hs, k⟩ := h
  refine (Compact_err hq hwi.br ix hix).mono ?_
  rintro e w4 ⟨rfl, hB'⟩
  exact ⟨rfl, A, es, hq.below hB', hA, hB.trans (hB'.mono hB.size), hs, k.below hB'⟩
/-- What Compact leaves. -/
structure Cpd (X X2 : WS) (H : List (List Rd)) (T o : Nat) (F : List UInt8 → Option (List UInt8)) (ix : Int) (r g : Nat) : Prop where
  wi : WI X2 (H.drop r) T o F
  rl : r < X.sg.length
  gl : g ≤ X.J.E.length
  gx : g = 0 ∨ X.J.bi + (g : Int) ≤ ix
  sg : X2.sg = X.sg.drop r
  E : X2.J.E = X.J.E.drop g
  bi : X2.J.bi = X.J.bi + (g : Int)
  li : X2.J.li = X.J.li
  st : X2.J.t = X.J.t ∧ X2.J.v = X.J.v ∧ X2.J.c = X.J.c
  full : X2.full = X.full
  last : X2.last = X.last
theorem wl_compact {wb d : Nat} {X : WS} {H T o F} (hwi : WI X H T o F) (hf : X.sg.length ≤ 100000) (ix : Int) (h0 : 0 ≤ ix) (h1 : ix ≤ X.J.li) :
    ∃ X2 r g, Cpd X X2 H T o F ix r g ∧ ∀ (A : Nat → Prop) (w3 : World), Wl A w3 wb d X → Calls Tryz.prog 20 #[.pointer (some ⟨wb, 0, none⟩), .int .i64 ix] w3 fun e w4 => e = .returned (.tuple #[.int .i64 (r : Int), .int .i64 0]) ∧ Wth A w3 w4 wb d X2 := by
  obtain ⟨f1, -, f3⟩ := freeL_le X.J hwi.good.ok.len ix X.sg.dropLast 0 0 (Nat.zero_le _)
  have f4 := freeL_ix X.J ix X.sg.dropLast 0 0 (.inl rfl)
  obtain ⟨r, g, hrg⟩ : ∃ r g, freeL X.J ix X.sg.dropLast 0 0 = (r, g) := ⟨_, _, rfl⟩
  rw [hrg] at f1 f3 f4
  rw [List.length_dropLast] at f1
  have hp := List.length_pos_iff.2 hwi.ne
  have hr : r < X.sg.length := by simp only at f1; omega
  obtain ⟨p1, hx, hrm, hw2, hl2⟩ := compact_wi hwi hr f3
  obtain ⟨b1, b2, b3, b4, b5, b6⟩ := LP.forget_bi hwi.good.ok f3
  have hmk := hw2.mark
  refine ⟨X.compact p1 r g, r, g, ⟨hw2, hr, f3, ?_, rfl, b2, b1, LP.forget_li hwi.good.ok f3, ⟨b4, b5, b6⟩, rfl, hl2⟩, ?_⟩
  · rcases f4 with f4 | f4
    · exact .inl f4
    · by_cases hg0 : g = 0
      · exact .inl hg0
      · right
        have h9 := hwi.good.ok.ix (g - 1) (by simp only at f3; omega)
        simp only at f4
        rw [h9] at f4
        omega
  · intro A w3 hq
    refine (Compact_ok hq hwi.br ix h0 h1 r (X' := X.compact p1 r g) (fun W hB => ?_)).mono ?_
    · exact compact_any (hq.below hB) hwi.ne (by omega) (fun s hs => Nat.le_trans (hwi.num_mem hs).1 hwi.top) hwi.good.srt hwi.good.ok ix p1 hx r g hrg hrm
    · rintro e w4 ⟨rfl, hT⟩
      rw [hmk] at hT
      exact ⟨rfl, hT⟩
theorem P1.th {w0 w3 w4 : World} {wb d bx ca gs cs : Nat} {va : Option Addr} {X X1 X2 : WS} {A : Nat → Prop} {es : List Ent} (hA : ∀ i, A i → w0.heap.size ≤ i) (hB : Below w0.heap.size w0 w3) (hs : es.map Ent.says = X.J.E) (k : Kp A w3 bx (vwC X.J va ca) (.slice va X.J.E.length ca) es (.slice (some ⟨gs, 0, none⟩) X.sg.length cs) (X.sg.map Sg.nm)) (hT : Wth A w3 w4 wb d X2) : P1 w0 wb d X X2 w4 bx va ca gs cs :=
  ⟨grew A w3 w4, es, hT.q, fun i hi => hi.elim (hA i) (fun h => Nat.le_trans hB.size h.1), hB.trans (hT.out.below hB.size hA), hs, k.grewn hT.out⟩

/-- Two views, and the names twice. -/
def P4 (w0 : World) (wb d : Nat) (X X2 : WS) (W : World) (bx : Nat) (va : Option Addr) (ca gs cs bx2 : Nat) (vb : Option Addr) (cb gt ct : Nat) : Prop := ∃ (A : Nat → Prop) (es es2 : List Ent), Wl A W wb d X2 ∧ (∀ i, A i → w0.heap.size ≤ i) ∧ Below w0.heap.size w0 W ∧ es.map Ent.says = X.J.E ∧ es2.map Ent.says = X2.J.E ∧ Kp A W bx (vwC X.J va ca) (.slice va X.J.E.length ca) es (.slice (some ⟨gs, 0, none⟩) X.sg.length cs) (X.sg.map Sg.nm) ∧ Kp A W bx2 (vwC X2.J vb cb) (.slice vb X2.J.E.length cb) es2 (.slice (some ⟨gt, 0, none⟩) X2.sg.length ct) (X2.sg.map Sg.nm)
theorem P4.below {w0 : World} {wb d : Nat} {X X2 : WS} {W W' : World} {bx : Nat} {va : Option Addr} {ca gs cs bx2 : Nat} {vb : Option Addr} {cb gt ct : Nat} (h : P4 w0 wb d X X2 W bx va ca gs cs bx2 vb cb gt ct) (hB' : Below W.heap.size W W') : P4 w0 wb d X X2 W' bx va ca gs cs bx2 vb cb gt ct := by
  obtain ⟨A, es, es2, hq, hA, hB, h1, h2, k1, k2⟩ := h
  exact ⟨A, es, es2, hq.below hB', hA, hB.trans (hB'.mono hB.size), h1, h2, k1.below hB', k2.below hB'⟩
/-- Behind the second View. -/
theorem p3_made {w0 w4 : World} {wb d bx ca gs cs : Nat} {va : Option Addr} {X X2 : WS} {H T o F} (h : P1 w0 wb d X X2 w4 bx va ca gs cs) (hwi : WI X2 H T o F) (hf : X2.sg.length ≤ 100000) :
    Calls Tryz.prog 32 #[.pointer (some ⟨wb, 0, none⟩)] w4 fun e w5 => ∃ vb cb, e = .returned (.agg (vwC X2.J vb cb)) ∧
      Hid (Calls Tryz.prog 33 #[.pointer (some ⟨wb, 0, none⟩)] (w5.alloc (.cells (vwC X2.J vb cb) 74)) fun e w7 => ∃ gt ct, e = .returned (.slice (some ⟨gt, 0, none⟩) X2.sg.length ct) ∧ Hid (X2.sg.length ≤ ct ∧ P4 w0 wb d X X2 w7 bx va ca gs cs w5.heap.size vb cb gt ct)) := by
  obtain ⟨A, es, hq, hA, hB, hs, k⟩ := h
  refine (view_pv hq).mono ?_
  rintro e w5 ⟨vb, cb, rfl, es2, ho, hs2, hB1⟩
  refine ⟨vb, cb, rfl, ?_⟩
  have hB2 : Below w5.heap.size w5 (w5.alloc (.cells (vwC X2.J vb cb) 74)) := (Below.refl _ w5).alloc (Nat.le_refl _) _
  have hB12 := hB1.trans (hB2.mono hB1.size)
  refine (segs_nm (hq.below hB12) hwi hf).mono ?_
  rintro e w7 ⟨g, cap, rfl, hc, hr, hB3⟩
  obtain ⟨k2, hB13⟩ := kp_made hq ho hB1 hr hB3
  exact ⟨g, cap, rfl, hc, A, es, es2, hq.below hB13, hA, hB.trans (hB13.mono hB.size), hs, hs2, k.below hB13, k2⟩
theorem p4_last {w0 : World} {wb d : Nat} {X X2 : WS} {W : World} {bx : Nat} {va : Option Addr} {ca gs cs bx2 : Nat} {vb : Option Addr} {cb gt ct : Nat} (h : P4 w0 wb d X X2 W bx va ca gs cs bx2 vb cb gt ct) :
    Calls Tryz.prog 38 #[.pointer (some ⟨wb, 0, none⟩)] W fun e w' => e = .returned (.tuple #[.int .i64 X2.J.li, .int .i64 X2.J.lt]) ∧ P4 w0 wb d X X2 w' bx va ca gs cs bx2 vb cb gt ct := by
  have h9 := h
  obtain ⟨A, es, es2, hq, hA, hB, h1, h2, k1, k2⟩ := h
  refine (Last_any hq).mono ?_
  rintro e w' ⟨rfl, q, rfl⟩
  exact ⟨rfl, h9.below (below_drewN (Below.refl _ _) q)⟩
theorem p4_cells {w0 : World} {wb d : Nat} {X X2 : WS} {W : World} {bx : Nat} {va : Option Addr} {ca gs cs bx2 : Nat} {vb : Option Addr} {cb gt ct : Nat} (h : P4 w0 wb d X X2 W bx va ca gs cs bx2 vb cb gt ct) :
    (W.cell? ⟨bx, 0, none⟩ = some (.int .i64 X.J.t) ∧ W.cell? ⟨bx, 1, none⟩ = some (.int .i64 X.J.v) ∧ W.cell? ⟨bx, 2, none⟩ = some (.int .i64 X.J.c) ∧ W.cell? ⟨bx, 3, none⟩ = some (.int .i64 X.J.bi) ∧ W.cell? ⟨bx, 4, none⟩ = some (.int .i64 X.J.bt) ∧ W.cell? ⟨bx, 5, none⟩ = some (.slice va X.J.E.length ca)) ∧
    (W.cell? ⟨bx2, 0, none⟩ = some (.int .i64 X2.J.t) ∧ W.cell? ⟨bx2, 1, none⟩ = some (.int .i64 X2.J.v) ∧ W.cell? ⟨bx2, 2, none⟩ = some (.int .i64 X2.J.c) ∧ W.cell? ⟨bx2, 3, none⟩ = some (.int .i64 X2.J.bi) ∧ W.cell? ⟨bx2, 4, none⟩ = some (.int .i64 X2.J.bt) ∧ W.cell? ⟨bx2, 5, none⟩ = some (.slice vb X2.J.E.length cb)) := by
  obtain ⟨A, es, es2, hq, hA, hB, h1, h2, k1, k2⟩ := h
  exact ⟨(cells6 k1.box).1, (cells6 k2.box).1⟩
end Go.Proofs.YtnahghldlkjleaaGreatDoor
