/-
  Take, Drop.
-/
import Derived.Test.YtefbfjlmhfmiiaaDe
namespace Go.Proofs.Ytefbfjlmhfmiiaa
open Go.RowKit
set_option linter.unusedVariables false

/-- Behind Take. -/
def PN.take (P : PN) (i : Int) : PN := if P.at i = true then { P with E := P.E.eraseIdx i.toNat } else P
theorem PN.take_ok {P : PN} (h : P.Ok) (i : Int) : (P.take i).Ok := by
  unfold PN.take
  split
  · exact ⟨h.n1, h.n7, h.len, h.sym, by have := h.row; show (P.E.eraseIdx i.toNat).length ≤ 2000; rw [List.length_eraseIdx]; split <;> omega, h.k0, fun e he => h.dl e (List.mem_of_mem_eraseIdx he)⟩
  · exact h
theorem PN.at_of {P : PN} {i : Int} (h : P.at i = true) : 0 ≤ i ∧ i.toNat < P.E.length ∧ ((i.toNat : Nat) : Int) = i := by
  simp [PN.at] at h
  omega

/-- Blocks that a network doesn't look at. -/
def Free (N : Nat) (S : Nat → Prop) (w : World) (b : Nat) (P : PN) (g : Nat) : Prop := ∀ W, Out (fun j => j = g) w W → Nt N S W b P
theorem Nt.free {N : Nat} {S : Nat → Prop} {w : World} {b : Nat} {P : PN} {v : Value} {es : List Ml} {g : Nat} (hm : NtM w b P v es) (h1 : ∀ g, v.ownBlock = some g → S g) (h2 : ∀ e ∈ es, ∀ g, e.x.ownBlock = some g → S g) (h : Nt N S w b P) (gb : g ≠ b) (gv : v.ownBlock ≠ some g) (ge : ∀ e ∈ es, e.x.ownBlock ≠ some g) : Free N S w b P g := fun W hO =>
  ⟨⟨v, es, ⟨(hO.block b (h.inn _ h.Sb) (fun e => gb e.symm)).trans hm.blk, hm.row.out hO (by rintro k hk rfl; exact gv hk) (by rintro e he k hk rfl; exact ge e he hk), hm.says, hm.apt⟩, h1, h2⟩, h.ok, h.Sb, fun i hi => Nat.lt_of_lt_of_le (h.inn i hi) hO.size, h.fr⟩

/-- What Take answers. -/
def TakeR (N : Nat) (S : Nat → Prop) (w : World) (b : Nat) (P : PN) (i : Int) (r : Ending) (w' : World) : Prop :=
  (P.at i = false ∧ r = .returned (.tuple #[.agg #[.int .i64 0, .int .i64 0, .int .i64 0, .slice none 0 0, .bool false], .bool false]) ∧ NTh N S w w' b (P.take i)) ∨
  (P.at i = true ∧ ∃ e : Ml, r = .returned (.tuple #[.agg #[.int .i64 e.n, .int .i64 e.f, .int .i64 e.t, .slice e.a e.d.length e.c, .bool e.s], .bool true]) ∧ e.says = P.E.getD i.toNat nilMa ∧ NTh N S w w' b (P.take i) ∧ Ow 0 w' e.x e.d ∧ (∀ g, e.x.ownBlock = some g → S g ∧ Free N (grew S w w') w' b (P.take i) g) ∧ ∃ (g0 vc : Nat) (es' : List Ml), NtM w' b (P.take i) (.slice (some ⟨g0, 0, none⟩) es'.length vc) es' ∧ es'.length + 1 ≤ vc ∧ vc ≤ maxLen ∧ S g0 ∧ (∀ f ∈ es', ∀ g, f.x.ownBlock = some g → S g) ∧ ∀ f ∈ es', Apt e f)

theorem eraseIdx_map {es : List Ml} {E : List Ma} (hs : es.map Ml.says = E) (i : Nat) : (es.eraseIdx i).map Ml.says = E.eraseIdx i := by
  rw [← hs]
  induction es generalizing i E with
  | nil => simp
  | cons e r ih =>
    cases i with
    | zero => simp
    | succ i => simp [ih rfl]

theorem pairwise_at {es : List Ml} (h : es.Pairwise Apt) {i : Nat} (hi : i < es.length) : ∀ f ∈ es.eraseIdx i, Apt (es.getD i nilMl) f := by
  induction es generalizing i with
  | nil => simp at hi
  | cons e r ih =>
    rw [List.pairwise_cons] at h
    cases i with
    | zero => intro f hf; simpa using h.1 f (by simpa using hf)
    | succ i =>
      intro f hf
      have hi' : i < r.length := by simpa using hi
      simp only [List.eraseIdx_cons_succ, List.mem_cons] at hf
      rw [List.getD_cons_succ]
      rcases hf with rfl | hf
      · exact (h.1 _ (getD_mem' hi')).symm
      · exact ih h.2 hi' f hf

set_option maxRecDepth 100000 in
set_option maxHeartbeats 4000000 in
/-- Take. -/
theorem Take_any {N : Nat} {S : Nat → Prop} {w : World} {b : Nat} {P : PN} (h : Nt N S w b P) (hN : N ≤ w.heap.size) (i : Int) :
    Calls Try.prog 18 #[.pointer (some ⟨b, 0, none⟩), .int .i64 i] w fun r w' => TakeR N S w b P i r w' := by
  have hbw := h.inn _ h.Sb
  have HB0 : Hid (∀ o, Below w.heap.size w (w.alloc o)) := fun o => (Below.refl _ w).alloc (Nat.le_refl _) _
  have HAT : Hid (∀ o, Calls _ _ _ (w.alloc o) _) := fun o => at_any (h.below (HB0.out o)) i
  by_cases ha : P.at i = true
  · obtain ⟨i0, i1, i2⟩ := PN.at_of ha
    obtain ⟨k, rfl⟩ : ∃ k : Nat, i = (k : Int) := ⟨i.toNat, i2.symm⟩
    simp only [Int.toNat_natCast] at i1
    clear i2
    obtain ⟨va, vc, es, hm, hl, hvc, hvm, hv1, hv2⟩ := h.cells
    have hkl : k < es.length := by omega
    have hrow := h.ok.row
    obtain ⟨e, he⟩ : ∃ e, es.getD k nilMl = e := ⟨_, rfl⟩
    have hmem : e ∈ es := by rw [← he]; exact getD_mem' hkl
    have hat := MlsOw.at (es := es) (by rw [hl]; exact hm.row)
    obtain ⟨g, off, rfl, hg, hcs⟩ := hat.at hkl
    rw [he] at hcs
    obtain ⟨g', cur', hge, -⟩ := MlsOw.open (es := es) (by rw [hl]; exact hm.row) (by omega)
    cases hge
    rw [Nat.zero_add] at hcs
    obtain ⟨W1, hW1⟩ : ∃ W1, (w.alloc (.cells #[.int .i64 0, .int .i64 0, .int .i64 0, .slice none 0 0, .bool false] 41)).alloc (.cells #[.int .i64 e.n, .int .i64 e.f, .int .i64 e.t, .slice e.a e.d.length e.c, .bool e.s] 41) = W1 := ⟨_, rfl⟩
    have HW1 : Hid ((w.alloc (.cells #[.int .i64 0, .int .i64 0, .int .i64 0, .slice none 0 0, .bool false] 41)).alloc (.cells #[.int .i64 e.n, .int .i64 e.f, .int .i64 e.t, .slice e.a e.d.length e.c, .bool e.s] 41) = W1) := hW1
    have hz1 : W1.heap.size = w.heap.size + 2 := by rw [← hW1]; simp
    have hB1 : Below w.heap.size w W1 := by rw [← hW1]; exact ((Below.refl _ w).alloc (by simp) _).alloc (by simp) _
    have hx0 : W1.heap[w.heap.size]? = some (.cells #[.int .i64 0, .int .i64 0, .int .i64 0, .slice none 0 0, .bool false] 41 (0, 0)) := by
      rw [← hW1]
      exact (heap_alloc_old _ _ (by simp)).trans (heap_alloc_new w _)
    have hx1 : W1.heap[w.heap.size + 1]? = some (.cells #[.int .i64 e.n, .int .i64 e.f, .int .i64 e.t, .slice e.a e.d.length e.c, .bool e.s] 41 (0, 0)) := by
      rw [← hW1]
      have := heap_alloc_new (w.alloc (.cells #[.int .i64 0, .int .i64 0, .int .i64 0, .slice none 0 0, .bool false] 41)) (.cells #[.int .i64 e.n, .int .i64 e.f, .int .i64 e.t, .slice e.a e.d.length e.c, .bool e.s] 41)
      rw [World.size_alloc] at this
      exact this
    have hm1 := hm.row.below hB1
    have hdel := delete_any (some ⟨g, 0, none⟩) vc k es W1 (by rw [hl]; exact hm1) hkl (by omega)
    rw [hl] at hdel
    have HDEL : Hid (Calls _ _ _ _ _) := hdel
    have hgS : S g := hv1 g rfl
    have hgb' : g ≠ b := by rintro rfl; exact hm.row.not_at hm.blk (by decide) rfl
    have hSlt := h.inn
    have HC : Hid (∀ w2, Out (fun j => some (⟨g, 0, none⟩ : Addr) = some ⟨j, 0, none⟩) W1 w2 → (w2.heap[b]? = some (.cells (netCells P.n P.L (.slice (some ⟨g, 0, none⟩) P.E.length vc) P.k) 57 (0, 0)) ∧ w2.heap[w.heap.size]? = some (.cells #[.int .i64 0, .int .i64 0, .int .i64 0, .slice none 0 0, .bool false] 41 (0, 0)) ∧ w2.heap[w.heap.size + 1]? = some (.cells #[.int .i64 e.n, .int .i64 e.f, .int .i64 e.t, .slice e.a e.d.length e.c, .bool e.s] 41 (0, 0)))) := fun w2 hO => by
      have hgw := hSlt g hgS
      refine ⟨(hO.block b (by omega) (fun e => by cases e; exact hgb' rfl)).trans ((hB1.block b hbw).trans hm.blk), (hO.block _ (by omega) (fun e => by cases e; omega)).trans hx0, (hO.block _ (by omega) (fun e => by cases e; omega)).trans hx1⟩
    have HF : Hid (∀ (w2 W3 : World), MlsOw 41 0 w2 (.slice (some ⟨g, 0, none⟩) (P.E.length - 1) vc) (es.eraseIdx k) → Out (fun j => some (⟨g, 0, none⟩ : Addr) = some ⟨j, 0, none⟩) W1 w2 → w2.heap.size = W1.heap.size → Out (fun j => j = w.heap.size) (w2.setCell ⟨b, 65, none⟩ (.slice (some ⟨g, 0, none⟩) (P.E.length - 1) vc)) W3 → TakeR N S w b P (k : Int) (.returned (.tuple #[.agg #[.int .i64 e.n, .int .i64 e.f, .int .i64 e.t, .slice e.a e.d.length e.c, .bool e.s], .bool true])) W3) := fun w2 W3 hr2 hO2 hz2 hO3 => by
      have hgw := hSlt g hgS
      obtain ⟨hb2, -, -⟩ := HC.out w2 hO2
      have hOw2 : Out S w w2 := (Out.of_below hB1).trans hO2 (fun j hj _ => by cases hj; exact hgS)
      have hb3 := heap_set hb2 65 (.slice (some ⟨g, 0, none⟩) (P.E.length - 1) vc)
      rw [netCells_setRow _ _ _ _ _ h.ok.len] at hb3
      have hb4 := (hO3.block b (by rw [size_set]; omega) (fun e9 => by have e8 : b = w.heap.size := e9; omega)).trans hb3
      have hdd : ∀ f ∈ es, Ow 0 W3 f.x f.d := fun f hf => by
        have d2 : Ow 0 w2 f.x f.d := ((hm1.dat f hf).out hO2 (by
          intro j hj hjg
          cases hjg
          have h3 := (hm1.dat f hf)
          obtain ⟨g9, cur9, hg9, hh9, -⟩ := MlsOw.open (es := es) (by rw [hl]; exact hm1) (by omega)
          cases hg9
          exact h3.not_at hh9 (by decide) hj))
        have d3 : Ow 0 (w2.setCell ⟨b, 65, none⟩ (.slice (some ⟨g, 0, none⟩) (P.E.length - 1) vc)) f.x f.d := d2.out (X := fun j => j = b) (Out.set rfl) (by rintro j hj rfl; exact d2.not_at hb2 (by decide) hj)
        exact d3.out hO3 (by rintro j hj rfl; have := hSlt _ (hv2 f hf _ hj); omega)
      have hr4 : MlsOw 41 0 W3 (.slice (some ⟨g, 0, none⟩) (P.E.length - 1) vc) (es.eraseIdx k) := by
        have d3 := hr2.out (X := fun j => j = b) (w' := w2.setCell ⟨b, 65, none⟩ (.slice (some ⟨g, 0, none⟩) (P.E.length - 1) vc)) (Out.set rfl) (by rintro j hj rfl; cases hj; exact hgb' rfl) (by rintro f hf j hj rfl; exact (hr2.dat f hf).not_at hb2 (by decide) hj)
        exact d3.out hO3 (fun j hj e9 => by have e8 : j = w.heap.size := e9; have e7 : g = j := (by simpa [Value.ownBlock] using hj); omega) (by rintro f hf j hj rfl; have := hSlt _ (hv2 f (List.mem_of_mem_eraseIdx hf) _ hj); omega)
      have htk : P.take (k : Int) = { P with E := P.E.eraseIdx k } := by unfold PN.take; rw [if_pos ha]; rfl
      have hO4 : Out S w W3 := (hOw2.put h.Sb).trans (Y := fun j => j = w.heap.size) hO3 (fun j hj hlt => by omega)
      have hM : NtM W3 b (P.take (k : Int)) (.slice (some ⟨g, 0, none⟩) (P.E.length - 1) vc) (es.eraseIdx k) := by
        refine ⟨by rw [htk]; exact hb4, hr4, by rw [htk]; exact eraseIdx_map hm.says k, hm.apt.sublist (List.eraseIdx_sublist _ _)⟩
      have hv1' : ∀ j, (Value.slice (some ⟨g, 0, none⟩) (P.E.length - 1) vc).ownBlock = some j → grew S w W3 j := fun j hj => by cases hj; exact .inl hgS
      have hv2' : ∀ f ∈ es.eraseIdx k, ∀ j, f.x.ownBlock = some j → grew S w W3 j := fun f hf j hj => .inl (hv2 f (List.mem_of_mem_eraseIdx hf) j hj)
      have hT := h.turn hN hO4 _ _ hM hv1' hv2' (PN.take_ok h.ok _)
      refine .inr ⟨ha, e, rfl, ?_, hT, hdd e hmem, fun j hj => ⟨hv2 e hmem j hj, Nt.free hM hv1' hv2' hT.q ?_ ?_ ?_⟩, g, vc, es.eraseIdx k, ?_, ?_, hvm, hgS, fun f hf j hj => hv2 f (List.mem_of_mem_eraseIdx hf) j hj, fun f hf => ?_⟩
      · rw [Int.toNat_natCast, ml_says hm.says k, he]
      · rintro rfl; exact (hm.row.dat e hmem).not_at hm.blk (by decide) hj
      · intro e'
        cases e'
        obtain ⟨g9, cur9, hg9, hh9, -⟩ := MlsOw.open (es := es) (by rw [hl]; exact hm.row) (by omega)
        cases hg9
        exact (hm.row.dat e hmem).not_at hh9 (by decide) hj
      · intro f hf
        have := pairwise_at hm.apt hkl f hf
        rw [he] at this
        exact this j hj
      · rw [erase_len hkl, hl]; exact hM
      · rw [erase_len hkl]; omega
      · have := pairwise_at hm.apt hkl f hf
        rw [he] at this
        exact this
    obtain ⟨-, -, c65, -⟩ := cell_net hm.blk h.ok.len
    have HLEN : Hid (P.L.length = 64) := h.ok.len
    obtain ⟨e0, e1, e2, e3, e4, -⟩ := hcs
    unfold Ml.x at e3
    rw [ha] at HAT
    have j0 : (0 : Int) ≤ (k : Int) := by omega
    have j1 : (k : Int) < (P.E.length : Int) := by omega
    have hwk : IntKind.i64.wrap ((k : Int) + 1) = (k : Int) + 1 := by rw [IntKind.wrap_i64]; omega
    have hgw := hSlt g hgS
    have hbB : ¬ b = w.heap.size := by omega
    have hBb : ¬ w.heap.size = b := by omega
    have hbB1 : ¬ b = w.heap.size + 1 := by omega
    have hBb1 : ¬ w.heap.size + 1 = b := by omega
    clear h hm hdel hm1 hat hl hv1 hv2 hx0 hx1 hB1 hW1 hz1 hN hrow hkl hmem he ha i0 i1 hSlt hvc hvm
    generalize P.E.length = m at *
    go_enter Try.func18, Try.ntmps18
    go_wp2_with fail
    refine (HAT.out _).mono ?_
    rintro r w1 ⟨rfl, hw⟩
    subst w1
    go_wp2_with fail
    rw [HW1.out]
    refine HDEL.out.mono ?_
    rintro r w2 ⟨rfl, hr2, hO2, hz2⟩
    obtain ⟨hb2, hx2, hy2⟩ := HC.out w2 hO2
    have HFF : Hid (∀ W3, _ → _) := HF.out w2
    have HR2 : Hid (MlsOw _ _ _ _ _) := hr2
    have HO2 : Hid (Out _ _ _) := hO2
    have HZ2 : Hid (w2.heap.size = W1.heap.size) := hz2
    obtain ⟨-, -, p65, -, pf⟩ := cell_net hb2 HLEN.out
    obtain ⟨⟨x0, x1, x2, x3, x4⟩, xf⟩ := cells5 hx2
    obtain ⟨⟨y0, y1, y2, y3, y4⟩, yf⟩ := cells5 hy2
    have HX2 : Hid (w2.heap[w.heap.size]? = _) := hx2
    clear hr2 hO2 hz2 hb2 hx2 hy2 HC HDEL HF HAT
    go_wp2_with fail
    have hx9 : (w2.setCell ⟨b, 65, none⟩ (.slice (some ⟨g, 0, none⟩) (m - 1) vc)).heap[w.heap.size]? = some (.cells #[.int .i64 0, .int .i64 0, .int .i64 0, .slice none 0 0, .bool false] 41 (0, 0)) := (Below.heap_setCell _ _ _ _ hBb).trans HX2.out
    refine bodyPost_ret (results_Mb (.inl rfl) rfl _ _ w.heap.size rfl rfl (set5 hx9 _ _ _ _ _)) rfl ?_
    refine HFF.out _ HR2.out HO2.out HZ2.out ?_
    exact ((((((Out.refl (fun j => j = w.heap.size) _).put rfl).put rfl).put rfl).put rfl).put rfl)
  · have ha' : P.at i = false := by simpa using ha
    have htk : P.take i = P := by unfold PN.take; rw [if_neg ha]
    have HF : Hid (∀ W, Out (fun j => j = w.heap.size) (w.alloc (.cells #[.int .i64 0, .int .i64 0, .int .i64 0, .slice none 0 0, .bool false] 41)) W → TakeR N S w b P i (.returned (.tuple #[.agg #[.int .i64 0, .int .i64 0, .int .i64 0, .slice none 0 0, .bool false], .bool false])) W) := fun W hO => by
      refine .inl ⟨ha', rfl, ?_⟩
      rw [htk]
      exact h.th hN ((HB0.out _).trans (hO.below (by simp) (fun j hj => by omega)))
    rw [ha'] at HAT
    clear h ha ha' htk
    go_enter Try.func18, Try.ntmps18
    go_wp2_with fail
    refine (HAT.out _).mono ?_
    rintro r w1 ⟨rfl, hw⟩
    subst w1
    have hx := heap_alloc_new w (.cells #[.int .i64 0, .int .i64 0, .int .i64 0, .slice none 0 0, .bool false] 41)
    go_wp2
    refine bodyPost_ret (results_Mb (.inl rfl) rfl _ _ w.heap.size rfl rfl hx) rfl ?_
    exact HF.out _ (Out.refl _ _)

theorem first_th {N : Nat} {S : Nat → Prop} {w w1 w2 : World} {b : Nat} {P : PN} (h : NTh N S w w1 b P) (hB : Below w1.heap.size w1 w2) : NTh N S w w2 b P := by
  refine ⟨?_, h.out.trans (Y := fun _ => False) (Out.of_below hB) (fun _ hf _ => hf.elim)⟩
  have h1 := h.q.below hB
  obtain ⟨v, es, hm, q1, q2⟩ := h1.at_
  exact ⟨⟨v, es, hm, fun g hg => grew_mono hB.size (q1 g hg), fun e he g hg => grew_mono hB.size (q2 e he g hg)⟩, h1.ok, grew_mono hB.size h.q.Sb, fun i hi => hi.elim (fun h' => h1.inn i (.inl h')) (fun h' => h'.2), fun i hi => hi.elim (fun h' => h1.fr i (.inl h')) (fun h' => by
      by_cases hl : i < w1.heap.size
      · exact h1.fr i (.inr ⟨h'.1, hl⟩)
      · have := h1.fr b h.q.Sb
        have := h.q.inn b h.q.Sb
        omega)⟩
set_option maxRecDepth 100000 in
set_option maxHeartbeats 4000000 in
/-- Drop. -/
theorem Drop_any {N : Nat} {S : Nat → Prop} {w : World} {b : Nat} {P : PN} (h : Nt N S w b P) (hN : N ≤ w.heap.size) (i : Int) :
    Calls Try.prog 19 #[.pointer (some ⟨b, 0, none⟩), .int .i64 i] w fun r w' => r = .returned (.bool (P.at i)) ∧ NTh N S w w' b (P.take i) := by
  have HT : Hid (Calls _ _ _ _ _) := Take_any h hN i
  obtain ⟨u, hu⟩ : ∃ u, P.at i = u := ⟨_, rfl⟩
  have HU : Hid (P.at i = u) := hu
  rw [hu]
  clear h hu
  go_enter Try.func19, Try.ntmps19
  go_wp2_with fail
  refine HT.out.mono ?_
  rintro r w1 (⟨ha, rfl, hT⟩ | ⟨ha, e, rfl, -, hT, -, -⟩)
  · obtain rfl := HU.out.symm.trans ha
    have HQ : Hid (NTh _ _ _ _ _ _) := hT
    have HB : Hid (∀ o, Below w1.heap.size w1 (w1.alloc o)) := fun o => (Below.refl _ w1).alloc (Nat.le_refl _) _
    clear hT ha HT HU
    go_wp2
    go_ret
    exact ⟨rfl, first_th HQ.out (by first | exact HB.out _ | exact Below.refl _ _)⟩
  · obtain rfl := HU.out.symm.trans ha
    have HQ : Hid (NTh _ _ _ _ _ _) := hT
    have HB : Hid (∀ o, Below w1.heap.size w1 (w1.alloc o)) := fun o => (Below.refl _ w1).alloc (Nat.le_refl _) _
    clear hT ha HT HU
    go_wp2
    go_ret
    exact ⟨rfl, first_th HQ.out (by first | exact HB.out _ | exact Below.refl _ _)⟩
end Go.Proofs.Ytefbfjlmhfmiiaa
