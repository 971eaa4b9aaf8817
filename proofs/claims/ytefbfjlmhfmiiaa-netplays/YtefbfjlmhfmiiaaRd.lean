/-
  The document's network: Take.
-/
import Derived.Test.YtefbfjlmhfmiiaaRb
namespace Go.Proofs.Ytefbfjlmhfmiiaa
open Go.RowKit
set_option linter.unusedVariables false

theorem CutOk.same' {P P' : PN} {C : List Pr} (h : CutOk P C) (hn : P'.n = P.n) (hL : P'.L = P.L) : CutOk P' C := fun a b ht => by
  have : P.two a b = true := by unfold PN.two PN.has at ht ⊢; rw [hn] at ht; exact ht
  rw [hL]; exact h a b this

/-- A row made anew takes the old one's place; a block R of the call's own is written besides. -/
theorem Rn.newRow {N : Nat} {S : Nat → Prop} {w w6 W9 : World} {b R : Nat} {P P' : PN} {C : List Pr} {v : Value} {es : List Ml} {ca : Option Addr} {cn : Nat} {v' : Value} {fs : List Ml} (h : Rn N S w b P C) (hN : N ≤ w.heap.size)
    (hm : RM w b P C v es (.slice ca C.length cn)) (hv3 : ∀ g, (Value.slice ca C.length cn).ownBlock = some g → S g) (hB : Below w.heap.size w w6) (hr : MlsOw 58 0 w6 v' fs) (hv' : ∀ g, v'.ownBlock = some g → w.heap.size ≤ g ∧ g ≠ R) (hd' : ∀ e ∈ fs, ∀ g, e.x.ownBlock = some g → S g) (hs : fs.map Ml.says = P'.E) (hn : P'.n = P.n) (hL : P'.L = P.L) (hk : P'.k = P.k) (ok : P'.Ok) (hR : w.heap.size ≤ R) (hO9 : Out (fun j => j = R) (w6.setCell ⟨b, 1, none⟩ v') W9) : RTh N S w W9 b P' C ∧ ∀ x d, Ow 0 w6 x d → (∀ g, x.ownBlock = some g → S g) → Ow 0 W9 x d := by
  have hbw := h.inn _ h.Sb
  have hb6 := (hB.block b hbw).trans hm.blk
  have hz := hB.size
  have hz9 := hO9.size
  rw [size_set] at hz9
  have hb7 := heap_set hb6 1 v'
  have hb9 := (hO9.block b (by rw [size_set]; omega) (fun e9 => by have e8 : b = R := e9; omega)).trans hb7
  have hOS : Out (fun j => j = b) w6 (w6.setCell ⟨b, 1, none⟩ v') := Out.set rfl
  have hdat : ∀ x d, Ow 0 w6 x d → (∀ g, x.ownBlock = some g → S g) → Ow 0 W9 x d := fun x d hx hxs =>
    (hx.out hOS (by rintro g hg rfl; exact hx.not_at hb6 (by decide) hg)).out hO9 (fun g hg e9 => by have e8 : g = R := e9; have := h.inn _ (hxs g hg); omega)
  refine ⟨h.turn hN (((Out.of_below hB).put h.Sb).trans (Y := fun j => j = R) hO9 (fun j hj hlt => by have e8 : j = R := hj; omega)) v' fs (.slice ca C.length cn) ⟨?_, ⟨⟨hr.row.1, ?_⟩, fun e he => hdat _ _ (hr.dat e he) (hd' e he)⟩, hs, ?_⟩ ?_ (fun e he g hg => .inl (hd' e he g hg)) (fun g hg => .inl (hv3 g hg)) ok (h.cok.same' hn hL), hdat⟩
  · rw [hb9, hn, hk]; rfl
  · rcases hr.row.2 with h2 | ⟨g, cap, cur, rfl, hg, hb, r⟩
    · exact .inl h2
    · have h1 := hv' g rfl
      have hgl := (Array.getElem?_eq_some_iff.1 hb).1
      refine .inr ⟨g, cap, cur, rfl, hg, ?_, r⟩
      refine (hO9.block g (by rw [size_set]; exact hgl) (fun e9 => h1.2 e9)).trans ?_
      exact (Below.heap_setCell _ _ _ _ (fun e9 => by have e8 : g = b := e9; omega)).trans hb
  · exact ((hm.cut.below hB).out hOS (by rintro g hg rfl; exact (hm.cut.below hB).not_at hb6 (by decide) hg)).out hO9 (fun g hg e9 => by have e8 : g = R := e9; have := h.inn _ (hv3 g hg); omega)
  · intro g hg
    right
    exact ⟨(hv' g hg).1, by have := (hr.lt hg).2; omega⟩

/-- What the document's Take answers. -/
def RTakeR (N : Nat) (S : Nat → Prop) (w : World) (b : Nat) (P : PN) (C : List Pr) (i : Int) (r : Ending) (w' : World) : Prop :=
  (P.at i = false ∧ r = .returned (.tuple #[.agg #[.int .i64 0, .int .i64 0, .int .i64 0, .slice none 0 0, .bool false], .bool false]) ∧ RTh N S w w' b (P.take i) C) ∨
  (P.at i = true ∧ ∃ e : Ml, r = .returned (.tuple #[.agg #[.int .i64 e.n, .int .i64 e.f, .int .i64 e.t, .slice e.a e.d.length e.c, .bool e.s], .bool true]) ∧ e.says = P.E.getD i.toNat nilMa ∧ RTh N S w w' b (P.take i) C ∧ Ow 0 w' e.x e.d ∧ ∀ g, e.x.ownBlock = some g → S g)

theorem MlsOw.prefixAt {τ : TypeId} {N : Nat} {w : World} {g : Nat} {vc : Nat} {es : List Ml} (h : MlsOw τ N w (.slice (some ⟨g, 0, none⟩) es.length vc) es) (n m : Nat) : MlsAt w.heap.size w (some ⟨g, n * 5, none⟩) ((es.drop n).take m) := by
  have h1 := h.at
  have := h1.cut n m
  rw [Nat.zero_add] at this
  exact this

theorem own0 (τ : TypeId) (w : World) : (w.alloc (.cells #[] τ)).ownsRow w.heap.size τ 5 (.slice (some ⟨w.heap.size, 0, none⟩) 0 0) 0 [] :=
  ⟨by simp, .inr ⟨w.heap.size, 0, #[], rfl, Nat.le_refl _, heap_alloc_new w _, by simp, by unfold maxLen; omega, by simp, by simp⟩⟩

/-- Two parts of a row, behind one another in a row made anew. -/
theorem two_parts {w W5 w6 w7 : World} {v v1 v2 : Value} {es fs gs : List Ml} (h : MlsOw 58 0 w v es) (hW5 : W5 = w.alloc (.cells #[] 58)) (hf : ∀ e ∈ fs, e ∈ es) (hg : ∀ e ∈ gs, e ∈ es)
    (r1 : w6.ownsRow w.heap.size 58 5 v1 fs.length (mlCells fs)) (g1 : W5.grownBy w6 (some w.heap.size)) (r2 : w7.ownsRow w.heap.size 58 5 v2 (fs.length + gs.length) (mlCells fs ++ mlCells gs)) (g2 : w6.grownBy w7 v1.ownBlock) :
    MlsOw 58 0 w7 v2 (fs ++ gs) ∧ Below w.heap.size w w7 ∧ ∀ g, v2.ownBlock = some g → w.heap.size ≤ g := by
  have hB5 : Below w.heap.size w W5 := by rw [hW5]; exact (Below.refl _ w).alloc (Nat.le_refl _) _
  have hB6 : Below w.heap.size w w6 := hB5.grown g1 hB5.size (fun k e => by cases e; exact Nat.le_refl _)
  have hB7 : Below w.heap.size w w7 := hB6.grown g2 hB6.size (fun k e => (r1.lt k e).1)
  have hm : MlsOw 58 w.heap.size w7 v2 (fs ++ gs) → True := fun _ => trivial
  refine ⟨⟨⟨?_, ?_⟩, fun e he => ?_⟩, hB7, fun g hg' => (r2.lt g hg').1⟩
  · exact mlCells_length _
  · rw [mlCells_append, List.length_append]
    rcases r2.2 with h2 | ⟨g, cap, cur, hv, hg', r⟩
    · exact .inl h2
    · exact .inr ⟨g, cap, cur, hv, Nat.zero_le _, r⟩
  · have he' : e ∈ es := (List.mem_append.1 he).elim (hf e) (hg e)
    exact (h.dat e he').below hB7 (Nat.le_refl _)

set_option maxRecDepth 100000 in
set_option maxHeartbeats 8000000 in
/-- Take. -/
theorem RTake_any {N : Nat} {S : Nat → Prop} {w : World} {b : Nat} {P : PN} {C : List Pr} (h : Rn N S w b P C) (hN : N ≤ w.heap.size) (i : Int) :
    Calls Try.prog 30 #[.pointer (some ⟨b, 0, none⟩), .int .i64 i] w fun r w' => RTakeR N S w b P C i r w' := by
  have hbw := h.inn _ h.Sb
  have HB0 : Hid (∀ o, Below w.heap.size w (w.alloc o)) := fun o => (Below.refl _ w).alloc (Nat.le_refl _) _
  have HAT : Hid (∀ o, Calls _ _ _ (w.alloc o) _) := fun o => there_any (h.below (HB0.out o)) i
  by_cases ha : P.at i = true
  · obtain ⟨i0, i1, i2⟩ := PN.at_of ha
    obtain ⟨k, rfl⟩ : ∃ k : Nat, i = (k : Int) := ⟨i.toNat, i2.symm⟩
    simp only [Int.toNat_natCast] at i1
    clear i2
    obtain ⟨va, vn, es, ca, cn, hm, hl, hvc, hvm, -, -, hv1, hv2, hv3⟩ := h.cells
    have hkl : k < es.length := by omega
    have hrow := h.ok.row
    obtain ⟨e, he⟩ : ∃ e, es.getD k nilMl = e := ⟨_, rfl⟩
    have hmem : e ∈ es := by rw [← he]; exact getD_mem' hkl
    have hat := MlsOw.at (es := es) (by rw [hl]; exact hm.row)
    obtain ⟨g, off, rfl, hg, hcs⟩ := hat.at hkl
    rw [he] at hcs
    obtain ⟨g', cur', hge, -⟩ := MlsOw.open (es := es) (by rw [hl]; exact hm.row) (by omega)
    cases hge
    rw [Nat.zero_add] at hcs
    obtain ⟨W1, hW1⟩ : ∃ W1, (w.alloc (.cells #[.int .i64 0, .int .i64 0, .int .i64 0, .slice none 0 0, .bool false] 58)).alloc (.cells #[.int .i64 e.n, .int .i64 e.f, .int .i64 e.t, .slice e.a e.d.length e.c, .bool e.s] 58) = W1 := ⟨_, rfl⟩
    have HW1 : Hid ((w.alloc (.cells #[.int .i64 0, .int .i64 0, .int .i64 0, .slice none 0 0, .bool false] 58)).alloc (.cells #[.int .i64 e.n, .int .i64 e.f, .int .i64 e.t, .slice e.a e.d.length e.c, .bool e.s] 58) = W1) := hW1
    have hz1 : W1.heap.size = w.heap.size + 2 := by rw [← hW1]; simp
    have hB1 : Below w.heap.size w W1 := by rw [← hW1]; exact ((Below.refl _ w).alloc (by simp) _).alloc (by simp) _
    have hx0 : W1.heap[w.heap.size]? = some (.cells #[.int .i64 0, .int .i64 0, .int .i64 0, .slice none 0 0, .bool false] 58 (0, 0)) := by
      rw [← hW1]
      exact (heap_alloc_old _ _ (by simp)).trans (heap_alloc_new w _)
    have hx1 : W1.heap[w.heap.size + 1]? = some (.cells #[.int .i64 e.n, .int .i64 e.f, .int .i64 e.t, .slice e.a e.d.length e.c, .bool e.s] 58 (0, 0)) := by
      rw [← hW1]
      have := heap_alloc_new (w.alloc (.cells #[.int .i64 0, .int .i64 0, .int .i64 0, .slice none 0 0, .bool false] 58)) (.cells #[.int .i64 e.n, .int .i64 e.f, .int .i64 e.t, .slice e.a e.d.length e.c, .bool e.s] 58)
      rw [World.size_alloc] at this
      exact this
    have hm1 : MlsOw 58 0 W1 (.slice (some ⟨g, 0, none⟩) es.length vn) es := by rw [hl]; exact hm.row.below hB1
    have hb1 := (hB1.block b hbw).trans hm.blk
    have hgw := h.inn _ (hv1 g rfl)
    have htl : (es.take k).length = k := by simp; omega
    have hdl : (es.drop (k + 1)).length = P.E.length - (k + 1) := by simp; omega
    -- behind all
    have HF : Hid (∀ w6 w7 v1 v2 n W9, w6.ownsRow W1.heap.size 58 5 v1 (es.take k).length (mlCells (es.take k)) → ((W1.drewN n).alloc (.cells #[] 58)).grownBy w6 (some W1.heap.size) → w7.ownsRow W1.heap.size 58 5 v2 ((es.take k).length + (es.drop (k + 1)).length) (mlCells (es.take k) ++ mlCells (es.drop (k + 1))) → w6.grownBy w7 v1.ownBlock → (w7.cell? ⟨b, 1, none⟩ = some (.slice (some ⟨g, 0, none⟩) P.E.length vn) ∧ w7.frozen? ⟨b, 1, none⟩ = false ∧ b < w7.heap.size ∧ w.heap.size + 1 < w7.heap.size ∧ w7.heap[w.heap.size]? = some (.cells #[.int .i64 0, .int .i64 0, .int .i64 0, .slice none 0 0, .bool false] 58 (0, 0)) ∧ w7.heap[w.heap.size + 1]? = some (.cells #[.int .i64 e.n, .int .i64 e.f, .int .i64 e.t, .slice e.a e.d.length e.c, .bool e.s] 58 (0, 0)) ∧ ∃ sa sl sc, v2 = .slice sa sl sc) ∧ (Out (fun j => j = w.heap.size) (w7.setCell ⟨b, 1, none⟩ v2) W9 → RTakeR N S w b P C (k : Int) (.returned (.tuple #[.agg #[.int .i64 e.n, .int .i64 e.f, .int .i64 e.t, .slice e.a e.d.length e.c, .bool e.s], .bool true])) W9)) := fun w6 w7 v1 v2 n W9 r1 g1 r2 g2 => by
      obtain ⟨q1, q2, q3⟩ := two_parts (w := W1.drewN n) (hm1.out (X := fun _ => False) (Out.drew W1 n) (fun _ _ hf => hf) (fun _ _ _ _ hf => hf)) rfl (fun e he => List.mem_of_mem_take he) (fun e he => List.mem_of_mem_drop he) r1 g1 r2 g2
      have hB7 : Below W1.heap.size W1 w7 := ⟨q2.os, q2.tape, q2.output, q2.size, q2.block⟩
      have hz7 := hB7.size
      have hBw7 : Below w.heap.size w w7 := hB1.trans (hB7.mono (by omega))
      obtain ⟨⟨-, p1, -, -⟩, pf⟩ := cells4 ((hBw7.block b hbw).trans hm.blk)
      have hx7 := (hB7.block _ (show w.heap.size < W1.heap.size by omega)).trans hx0
      have hy7 := (hB7.block _ (show w.heap.size + 1 < W1.heap.size by omega)).trans hx1
      refine ⟨⟨p1, pf 1, by omega, by omega, hx7, hy7, ?_⟩, fun hO9 => ?_⟩
      · obtain ⟨sa, sc, hsh, -, -⟩ := q1.shape
        exact ⟨sa, _, sc, hsh⟩
      have htk : P.take (k : Int) = { P with E := P.E.eraseIdx k } := by unfold PN.take; rw [if_pos ha]; rfl
      obtain ⟨hT, hdd⟩ := h.newRow (P' := P.take (k : Int)) (R := w.heap.size) hN hm hv3 hBw7 q1 (fun g hg => by have : W1.heap.size ≤ g := q3 g hg; omega) (fun x hx j hj => hv2 x ((List.mem_append.1 hx).elim List.mem_of_mem_take List.mem_of_mem_drop) j hj) (by rw [htk, ← List.eraseIdx_eq_take_drop_succ]; exact eraseIdx_map hm.says k) (by rw [htk]) (by rw [htk]) (by rw [htk]) (PN.take_ok h.ok _) (Nat.le_refl _) hO9
      exact .inr ⟨ha, e, rfl, by rw [Int.toNat_natCast, ml_says hm.says k, he], hT, hdd _ _ ((hm1.dat e hmem).below hB7 (Nat.le_refl _)) (fun g hg => hv2 e hmem g hg), fun j hj => hv2 e hmem j hj⟩
    obtain ⟨A, hA⟩ : ∃ A : Option Addr, (if vn = k + 1 then some (⟨g, 0, none⟩ : Addr) else some ⟨g, (k + 1) * 5, none⟩) = A := ⟨_, rfl⟩
    have HM1 : Hid (∀ W, Below W1.heap.size W1 W → MlsAt W.heap.size W (some ⟨g, 0, none⟩) (es.take k) ∧ MlsAt W.heap.size W A (es.drop (k + 1))) := fun W hB => by
      have h1 := hm1.below hB
      have h2 := h1.prefixAt 0 k
      rw [Nat.zero_mul, List.drop_zero] at h2
      refine ⟨h2, ?_⟩
      by_cases hd0 : es.drop (k + 1) = []
      · exact .inl hd0
      · have hne : ¬ vn = k + 1 := fun e9 => hd0 (List.drop_eq_nil_of_le (by omega))
        rw [← hA, if_neg hne]
        have h3 := h1.prefixAt (k + 1) (es.length - (k + 1))
        rw [List.take_of_length_le (by simp)] at h3
        exact h3
    obtain ⟨⟨-, c1, -, -⟩, -⟩ := cells4 hm.blk
    obtain ⟨⟨-, d1, -, -⟩, -⟩ := cells4 hb1
    obtain ⟨e0, e1, e2, e3, e4, -⟩ := hcs
    unfold Ml.x at e3
    rw [ha] at HAT
    have j0 : (0 : Int) ≤ (k : Int) := by omega
    have j1 : (k : Int) < (P.E.length : Int) := by omega
    have hwk : IntKind.i64.wrap ((k : Int) + 1) = (k : Int) + 1 := by rw [IntKind.wrap_i64]; omega
    have hkc : k ≤ vn := by omega
    have hkc1 : k + 1 ≤ vn := by omega
    have hkl1 : k + 1 ≤ P.E.length := by omega
    have htn : ((k : Int) + 1).toNat = k + 1 := by omega
    have jb1 : (0 : Int) ≤ (k : Int) + 1 := by omega
    have jb2 : (k : Int) + 1 ≤ (P.E.length : Int) := by omega
    have jb3 : (k : Int) ≤ (vn : Int) := by omega
    have hBb1 : ¬ w.heap.size + 1 = b := by omega
    have hBb : ¬ w.heap.size = b := by omega
    have hbB : ¬ b = w.heap.size := by omega
    have hbw1 : b < W1.heap.size := by omega
    have hgw1 : g < W1.heap.size := by omega
    have hlen1 : ([] : List Ml).length + (es.take k).length ≤ 1000000000 := by simp; omega
    have hlen2 : (es.take k).length + (es.drop (k + 1)).length ≤ 1000000000 := by simp; omega
    have HBD : Hid (∀ n w6, ((W1.drewN n).alloc (.cells #[] 58)).grownBy w6 (some W1.heap.size) → Below W1.heap.size W1 w6) := fun n w6 g1 => by
      have : Below W1.heap.size W1 ((W1.drewN n).alloc (.cells #[] 58)) := (below_drewN (Below.refl _ W1) n).alloc (Nat.le_refl _) _
      exact this.grown g1 (by simp) (fun k e => by cases e; exact Nat.le_refl _)
    have HB5 : Hid (∀ n, Below W1.heap.size W1 ((W1.drewN n).alloc (.cells #[] 58))) := fun n => (below_drewN (Below.refl _ W1) n).alloc (Nat.le_refl _) _
    have HLN : Hid (es.length = P.E.length) := hl
    clear h hm hm1 hat hl hv1 hv2 hv3 hx0 hx1 hB1 hW1 hz1 hN hrow hkl hmem he ha i0 i1 hb1 hvm
    generalize P.E.length = m at *
    go_enter Try.func30, Try.ntmps30
    go_wp2_with fail
    refine (HAT.out _).mono ?_
    rintro r w1 ⟨rfl, hw⟩
    subst w1
    go_wp2_with fail
    rw [HW1.out]
    clear HW1 HAT e0 e1 e2 e3 e4 c1
    go_region_law (first
      | (refine step_append_mls tyR rfl (.tmp 20) (.tmp 26) rfl W1.heap.size (W1.heap.size + 1) (.slice (some ⟨W1.heap.size, 0, none⟩) 0 0) (some ⟨g, 0, none⟩) vn [] (es.take k) (by simp [Act.eval, Act.put]) (own0 58 (W1.drewN 1)) (by rw [htl]; simp [Act.eval, Act.put]) (by have h9 := (HM1.out _ (HB5.out 1)).1; rw [World.size_alloc] at h9; exact h9) hlen1 (by simp) ?_; intro v1 w6 q1 q2 q3; simp only [List.length_nil, Nat.zero_add, mlCells, List.nil_append] at q1; have q2' : ((W1.drewN 1).alloc (.cells #[] 58)).grownBy w6 (some W1.heap.size) := q2; have hB6 := HBD.out 1 w6 q2'; have hsl6 := (HM1.out w6 hB6).2; have hN6 := hB6.size; have f1 := (hB6.cell (p := ⟨b, 1, none⟩) hbw1).trans d1; clear q2 q3)
      | (refine step_append_mls tyR rfl (.tmp 27) (.tmp 34) rfl W1.heap.size w6.heap.size v1 A (vn - (k + 1)) (es.take k) (es.drop (k + 1)) (by simp [Act.eval, Act.put]) q1 (by rw [hdl]; simp [Act.eval, Act.put]; try exact hA) hsl6 hlen2 hN6 ?_; intro v2 w7 p1 p2 p3; obtain ⟨⟨n1, nf, nb, nw, nx, ny, sa, sl, sc, hsh⟩, -⟩ := HF.out w6 w7 v1 v2 1 w7 q1 q2' p1 p2; have HFF : Hid (∀ W9, _ → _) := fun W9 => (HF.out w6 w7 v1 v2 1 W9 q1 q2' p1 p2).2; clear p1 p2 p3; subst hsh)
      | fail)
    all_goals
      obtain ⟨⟨x0, x1, x2, x3, x4⟩, xf⟩ := cells5 nx
      obtain ⟨⟨y0, y1, y2, y3, y4⟩, -⟩ := cells5 ny
      have HNX : Hid (w7.heap[w.heap.size]? = _) := nx
      clear nx ny
      go_wp2_with fail
      have hx9 : (w7.setCell ⟨b, 1, none⟩ (.slice sa sl sc)).heap[w.heap.size]? = some (.cells #[.int .i64 0, .int .i64 0, .int .i64 0, .slice none 0 0, .bool false] 58 (0, 0)) := (Below.heap_setCell _ _ _ _ hBb).trans HNX.out
      refine bodyPost_ret (results_Mb (.inr rfl) rfl _ _ w.heap.size rfl rfl (set5 hx9 _ _ _ _ _)) rfl ?_
      exact HFF.out _ ((((((Out.refl (fun j => j = w.heap.size) _).put rfl).put rfl).put rfl).put rfl).put rfl)
  · have ha' : P.at i = false := by simpa using ha
    have htk : P.take i = P := by unfold PN.take; rw [if_neg ha]
    have HF : Hid (∀ W, Out (fun j => j = w.heap.size) (w.alloc (.cells #[.int .i64 0, .int .i64 0, .int .i64 0, .slice none 0 0, .bool false] 58)) W → RTakeR N S w b P C i (.returned (.tuple #[.agg #[.int .i64 0, .int .i64 0, .int .i64 0, .slice none 0 0, .bool false], .bool false])) W) := fun W hO => by
      refine .inl ⟨ha', rfl, ?_⟩
      rw [htk]
      exact h.th hN ((HB0.out _).trans (hO.below (by simp) (fun j hj => by omega)))
    rw [ha'] at HAT
    clear h ha ha' htk
    go_enter Try.func30, Try.ntmps30
    go_wp2_with fail
    refine (HAT.out _).mono ?_
    rintro r w1 ⟨rfl, hw⟩
    subst w1
    have hx := heap_alloc_new w (.cells #[.int .i64 0, .int .i64 0, .int .i64 0, .slice none 0 0, .bool false] 58)
    go_wp2
    refine bodyPost_ret (results_Mb (.inr rfl) rfl _ _ w.heap.size rfl rfl hx) rfl ?_
    exact HF.out _ (Out.refl _ _)
end Go.Proofs.Ytefbfjlmhfmiiaa
