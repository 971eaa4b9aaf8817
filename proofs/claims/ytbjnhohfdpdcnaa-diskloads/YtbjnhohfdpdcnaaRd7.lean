/-
  The document's disk: its blocks lie in a set; what is written into the row of its files.
-/
import Derived.Test.YtbjnhohfdpdcnaaJc
namespace Go.Proofs.Ytbjnhohfdpdcnaa
open Go.RowKit Go.Shelf
set_option linter.unusedVariables false

/-- The document's disk, its blocks in S. -/
structure Rdo (S : Nat → Prop) (w : World) (B : Nat) (p : PD) (v : Value) (fs : List Fl) (l : List UInt8) : Prop where
  rd : RD 0 w B p v fs l
  SB : S B
  Sv : ∀ g, v.ownBlock = some g → S g
  Sf : ∀ f ∈ fs, ∀ g, f.x.ownBlock = some g → S g
  inn : ∀ i, S i → i < w.heap.size
  lt0 : l = [] ∨ ∃ f ∈ p.fs, f.nm = l
def RDs (S : Nat → Prop) (w : World) (B : Nat) (p : PD) : Prop := ∃ v fs l, Rdo S w B p v fs l
/-- What holds of every disk. -/
structure Good (p : PD) : Prop where
  rise : p.fs.Pairwise (fun f g => bytesBefore f.nm g.nm = true)
  nms : NamesOk p.fs
  syn : ∀ f ∈ p.fs, f.syn ≤ f.dat.length
  arm : p.arm ≤ 9223372036854775807

theorem RD.out {N : Nat} {X : Nat → Prop} {w w' : World} {B : Nat} {p : PD} {v : Value} {fs : List Fl} {l : List UInt8} (h : RD N w B p v fs l) (hO : Out X w w') (hB : ¬ X B) (hv : ∀ g, v.ownBlock = some g → ¬ X g) (hf : ∀ f ∈ fs, ∀ g, f.x.ownBlock = some g → ¬ X g) : RD N w' B p v fs l :=
  ⟨h.le, (hO.block B h.lt hB).trans h.hd, ⟨row_out h.fi.row hO hv, fun f hf' => (h.fi.own f hf').out hO (hf f hf')⟩, h.sy, h.fw, h.sm, h.la⟩
theorem Rdo.out {S X : Nat → Prop} {w w' : World} {B : Nat} {p : PD} {v : Value} {fs : List Fl} {l : List UInt8} (h : Rdo S w B p v fs l) (hO : Out X w w') (hx : ∀ i, S i → ¬ X i) : Rdo S w' B p v fs l :=
  ⟨h.rd.out hO (hx _ h.SB) (fun g hg => hx _ (h.Sv g hg)) (fun f hf g hg => hx _ (h.Sf f hf g hg)), h.SB, h.Sv, h.Sf, fun i hi => Nat.lt_of_lt_of_le (h.inn i hi) hO.size, h.lt0⟩
theorem RDs.out {S X : Nat → Prop} {w w' : World} {B : Nat} {p : PD} (h : RDs S w B p) (hO : Out X w w') (hx : ∀ i, S i → ¬ X i) : RDs S w' B p := by
  obtain ⟨v, fs, l, h⟩ := h
  exact ⟨v, fs, l, h.out hO hx⟩
theorem RDs.inn {S : Nat → Prop} {w : World} {B : Nat} {p : PD} (h : RDs S w B p) : ∀ i, S i → i < w.heap.size := by
  obtain ⟨v, fs, l, h⟩ := h
  exact h.inn
theorem Rdo.step {S : Nat → Prop} {w w' : World} {B : Nat} {p p' : PD} {v v' : Value} {fs fs' : List Fl} {l l' : List UInt8} (h : Rdo S w B p v fs l) (hO : Out S w w') (rd' : RD 0 w' B p' v' fs' l') (hv : ∀ g, v'.ownBlock = some g → S g ∨ w.heap.size ≤ g) (hf : ∀ f ∈ fs', f ∈ fs ∨ ∀ g, f.x.ownBlock = some g → S g ∨ w.heap.size ≤ g) (hl : l' = [] ∨ ∃ f ∈ p'.fs, f.nm = l') : Rdo (grew S w w') w' B p' v' fs' l' := by
  refine ⟨rd', .inl h.SB, fun g hg => ?_, fun f hf' g hg => ?_, fun i hi => ?_, hl⟩
  · rcases hv g hg with h1 | h1
    · exact .inl h1
    · exact .inr ⟨h1, (rd'.fi.row.lt g hg).2⟩
  · rcases hf f hf' with h1 | h1
    · exact .inl (h.Sf f h1 g hg)
    · rcases h1 g hg with h1 | h1
      · exact .inl h1
      · exact .inr ⟨h1, (World.ownsRow.lt (rd'.fi.own f hf') g hg).2⟩
  · rcases hi with hi | hi
    · exact Nat.lt_of_lt_of_le (h.inn i hi) hO.size
    · exact hi.2
/-- What an operation answers and leaves. -/
def RDone (S : Nat → Prop) (w : World) (B : Nat) (x : Nat × PD) (r : Ending) (w' : World) : Prop := r = .returned (.int .i64 (x.1 : Int)) ∧ Out S w w' ∧ RDs (grew S w w') w' B x.2
theorem RDone.mk {S : Nat → Prop} {w w' : World} {B : Nat} {x : Nat × PD} {r : Ending} {e : Nat} {p : PD} {v : Value} {fs : List Fl} {l : List UInt8} (he : x = (e, p)) (hr : r = .returned (.int .i64 (e : Int))) (hO : Out S w w') (h : Rdo (grew S w w') w' B p v fs l) : RDone S w B x r w' := by
  subst he
  exact ⟨hr, hO, v, fs, l, h⟩
theorem Rdo.grew {S : Nat → Prop} {w : World} {B : Nat} {p : PD} {v : Value} {fs : List Fl} {l : List UInt8} (h : Rdo S w B p v fs l) : Rdo (grew S w w) w B p v fs l :=
  h.step (Out.refl _ _) h.rd (fun g hg => .inl (h.Sv g hg)) (fun f hf => .inl hf) h.lt0

theorem RD.at {N : Nat} {w : World} {B : Nat} {p : PD} {v : Value} {fs : List Fl} {l : List UInt8} (h : RD N w B p v fs l) {j : Nat} (hj : j < fs.length) : ∃ g cap, v = .slice (some ⟨g, 0, none⟩) fs.length cap ∧ fs.length ≤ cap ∧ cap ≤ maxLen ∧ g ≠ B ∧ FlAt w.heap.size w g (j * 3) (fs.getD j nilFl) ∧ (∀ i, w.frozen? ⟨g, i, none⟩ = false) ∧ (∃ cs, w.heap[g]? = some (.cells cs 37 (0, 0))) := by
  obtain ⟨a, c, hv, h1, h2, hF⟩ := h.fi.at
  obtain ⟨g, cap, hv2, -⟩ := row_some h.fi.row (by omega)
  rw [hv] at hv2
  cases hv2
  obtain ⟨b, off, e, hb, hc⟩ := hF.resolve_left (by rintro rfl; simp at hj)
  cases e
  have hrow := h.fi.row
  rw [hv] at hrow
  have hcs : ∃ cs, w.heap[g]? = some (.cells cs 37 (0, 0)) := by
    rcases hrow.2 with ⟨hv0, _⟩ | ⟨g', cap', cur, hv0, _, hb, _⟩
    · cases hv0
    · cases hv0; exact ⟨_, hb⟩
  refine ⟨g, c, hv, h1, h2, ?_, by have := hc j hj; rwa [Nat.zero_add] at this, fun i => hrow.frozenAt i, hcs⟩
  rintro rfl
  obtain ⟨cs, hcs⟩ := hcs
  rw [h.hd] at hcs
  simp at hcs

theorem cellsOf_set : ∀ (fs : List Fl) (j : Nat) (f : Fl), j < fs.length → cellsOf (fs.set j f) = (((cellsOf fs).set (j * 3) (.string ⟨f.nm.toArray⟩)).set (j * 3 + 1) f.x).set (j * 3 + 2) (.int .i64 f.syn)
  | [], j, f, h => by simp at h
  | y :: r, 0, f, _ => by simp [cellsOf, Fl.cells]
  | y :: r, j + 1, f, h => by
    have ih := cellsOf_set r j f (by simpa using h)
    simp only [cellsOf, List.map_cons, List.flatten_cons, List.set_cons_succ] at *
    rw [ih]
    have e : (j + 1) * 3 = j * 3 + 3 := by omega
    rw [e]
    simp [Fl.cells, List.set_cons_succ]
theorem set_same {l : List Value} {j : Nat} {u : Value} (h : l[j]? = some u) : l.set j u = l := by
  refine List.ext_getElem? fun i => ?_
  rw [List.getElem?_set]
  split
  · rename_i e
    subst e
    split
    · rw [h]
    · rename_i hlt
      rw [List.getElem?_eq_none (by omega)] at h
      cases h
  · rfl
theorem cells_at {fs : List Fl} {j : Nat} (hj : j < fs.length) : (cellsOf fs)[j * 3]? = some (.string ⟨(fs.getD j nilFl).nm.toArray⟩) ∧ (cellsOf fs)[j * 3 + 1]? = some (fs.getD j nilFl).x ∧ (cellsOf fs)[j * 3 + 2]? = some (.int .i64 (fs.getD j nilFl).syn) :=
  ⟨(cellsOf_at fs j 0 hj (by omega)).trans rfl, (cellsOf_at fs j 1 hj (by omega)).trans rfl, (cellsOf_at fs j 2 hj (by omega)).trans rfl⟩
theorem cellsOf_set1 {fs : List Fl} {j : Nat} (hj : j < fs.length) (a : Option Addr) (c : Nat) (dat : List UInt8) : cellsOf (fs.set j ⟨(fs.getD j nilFl).nm, a, c, dat, (fs.getD j nilFl).syn⟩) = (cellsOf fs).set (j * 3 + 1) (.slice a dat.length c) := by
  obtain ⟨h0, h1, h2⟩ := cells_at hj
  rw [cellsOf_set _ _ _ hj]
  show (((cellsOf fs).set (j * 3) (.string ⟨(fs.getD j nilFl).nm.toArray⟩)).set (j * 3 + 1) (.slice a dat.length c)).set (j * 3 + 2) (.int .i64 (fs.getD j nilFl).syn) = _
  rw [set_same h0]
  exact set_same (by rw [List.getElem?_set_ne (by omega)]; exact h2)
theorem cellsOf_set2 {fs : List Fl} {j : Nat} (hj : j < fs.length) (s : Int) : cellsOf (fs.set j { fs.getD j nilFl with syn := s }) = (cellsOf fs).set (j * 3 + 2) (.int .i64 s) := by
  obtain ⟨h0, h1, h2⟩ := cells_at hj
  rw [cellsOf_set _ _ _ hj]
  show (((cellsOf fs).set (j * 3) (.string ⟨(fs.getD j nilFl).nm.toArray⟩)).set (j * 3 + 1) (fs.getD j nilFl).x).set (j * 3 + 2) (.int .i64 s) = _
  rw [set_same h0, set_same h1]

theorem mem_set_fl {fs : List Fl} {j : Nat} {f x : Fl} (h : x ∈ fs.set j f) : x = f ∨ x ∈ fs := (List.mem_or_eq_of_mem_set h).symm
/-- A file's bytes are others. -/
theorem FilesIn.set1 {N : Nat} {w : World} {g cap : Nat} {fs : List Fl} (h : FilesIn N w (.slice (some ⟨g, 0, none⟩) fs.length cap) fs) {j : Nat} (hj : j < fs.length) {a : Option Addr} {c : Nat} {dat : List UInt8} (hO : Ow N w (.slice a dat.length c) dat) :
    FilesIn N (w.setCell ⟨g, j * 3 + 1, none⟩ (.slice a dat.length c)) (.slice (some ⟨g, 0, none⟩) fs.length cap) (fs.set j ⟨(fs.getD j nilFl).nm, a, c, dat, (fs.getD j nilFl).syn⟩) := by
  have hs := h.row.stored (j * 3 + 1) (.slice a dat.length c)
  refine ⟨by rw [cellsOf_set1 hj, List.length_set]; exact hs.1, fun f hf => ?_⟩
  have hw : Ow N w f.x f.dat := by
    rcases mem_set_fl hf with rfl | hf
    · exact hO
    · exact h.own f hf
  exact hw.kept hs.2 (rows_apart h.row hw)
/-- How many of a file's bytes are durable is another number. -/
theorem FilesIn.set2 {N : Nat} {w : World} {g cap : Nat} {fs : List Fl} (h : FilesIn N w (.slice (some ⟨g, 0, none⟩) fs.length cap) fs) {j : Nat} (hj : j < fs.length) (s : Int) :
    FilesIn N (w.setCell ⟨g, j * 3 + 2, none⟩ (.int .i64 s)) (.slice (some ⟨g, 0, none⟩) fs.length cap) (fs.set j { fs.getD j nilFl with syn := s }) := by
  have hs := h.row.stored (j * 3 + 2) (.int .i64 s)
  refine ⟨by rw [cellsOf_set2 hj, List.length_set]; exact hs.1, fun f hf => ?_⟩
  have hw : Ow N w f.x f.dat := by
    rcases mem_set_fl hf with rfl | hf
    · refine h.own (fs.getD j nilFl) ?_
      rw [List.getD_eq_getElem?_getD, List.getElem?_eq_getElem hj]; exact List.getElem_mem hj
    · exact h.own f hf
  exact hw.kept hs.2 (rows_apart h.row hw)

theorem getD_mem {fs : List Fl} {j : Nat} (hj : j < fs.length) : fs.getD j nilFl ∈ fs := by
  rw [List.getD_eq_getElem?_getD, List.getElem?_eq_getElem hj]; exact List.getElem_mem hj
theorem rise_ne {ps : List PF} (h : ps.Pairwise (fun f g => bytesBefore f.nm g.nm = true)) : ps.Pairwise (fun f g => f.nm ≠ g.nm) := h.imp (fun hab => before_ne hab)
/-- One file is turned, here and there. -/
theorem says_set : ∀ {fs : List Fl} {ps : List PF} {j : Nat} {f' : Fl} {nm : List UInt8} (G : PF → PF), fs.map Fl.says = ps.map PF.says → ps.Pairwise (fun f g => f.nm ≠ g.nm) → j < fs.length → (fs.getD j nilFl).nm = nm → (∀ q, q.nm ≠ nm → (G q).says = q.says) → (∀ q ∈ ps, q.says = (fs.getD j nilFl).says → f'.says = (G q).says) → (fs.set j f').map Fl.says = (ps.map G).map PF.says
  | [], _, j, _, _, _, _, _, h, _, _, _ => by simp at h
  | _ :: _, [], _, _, _, _, h, _, _, _, _, _ => by simp at h
  | f :: r, q :: s, 0, f', nm, G, h, hp, hj, hn, hG, hf => by
    simp only [List.map_cons, List.cons.injEq] at h
    obtain ⟨h1, h2⟩ := List.pairwise_cons.1 hp
    simp only [List.getD_cons_zero] at hn hf
    have hq : q.nm = nm := by have := h.1; simp only [Fl.says, PF.says, Prod.mk.injEq] at this; rw [← this.1]; exact hn
    simp only [List.set_cons_zero, List.map_cons, List.cons.injEq]
    refine ⟨hf q (by simp) h.1.symm, ?_⟩
    rw [h.2, List.map_map]
    refine List.map_congr_left fun x hx => ?_
    exact (hG x (fun e => h1 x hx (by rw [hq, e]))).symm
  | f :: r, q :: s, j + 1, f', nm, G, h, hp, hj, hn, hG, hf => by
    simp only [List.map_cons, List.cons.injEq] at h
    obtain ⟨h1, h2⟩ := List.pairwise_cons.1 hp
    have hj' : j < r.length := by simpa using hj
    simp only [List.getD_cons_succ] at hn hf
    have ih := says_set G h.2 h2 hj' hn hG (fun x hx => hf x (by simp [hx]))
    simp only [List.set_cons_succ, List.map_cons, List.cons.injEq]
    refine ⟨?_, ih⟩
    rw [h.1]
    refine (hG q (fun e => ?_)).symm
    obtain ⟨x, hx, hx2⟩ : ∃ x ∈ s, x.nm = nm := by
      have hm := getD_mem hj'
      have : (r.getD j nilFl).says ∈ s.map PF.says := by rw [← h.2]; exact List.mem_map_of_mem hm
      obtain ⟨x, hx, e2⟩ := List.mem_map.1 this
      refine ⟨x, hx, ?_⟩
      simp only [Fl.says, PF.says, Prod.mk.injEq] at e2
      rw [e2.1, hn]
    exact h1 x hx (by rw [e, hx2])
theorem sumF_set : ∀ {fs : List Fl} {j : Nat} {f' : Fl}, j < fs.length → sumF (fs.set j f') + (fs.getD j nilFl).dat.length = sumF fs + f'.dat.length
  | [], j, _, h => by simp at h
  | f :: r, 0, f', _ => by simp [sumF]; omega
  | f :: r, j + 1, f', h => by
    have := sumF_set (fs := r) (j := j) (f' := f') (by simpa using h)
    simp only [sumF, List.set_cons_succ, List.map_cons, List.sum_cons, List.getD_cons_succ] at *
    omega
/-- The file that is looked for. -/
theorem look_at {fs : List Fl} {ps : List PF} (h : fs.map Fl.says = ps.map PF.says) {j : Nat} (hj : j < fs.length) (hp : ps.Pairwise (fun f g => f.nm ≠ g.nm)) : ∃ q, lookP (fs.getD j nilFl).nm ps = some q ∧ q ∈ ps ∧ q.says = (fs.getD j nilFl).says := by
  have : (fs.getD j nilFl).says ∈ ps.map PF.says := by rw [← h]; exact List.mem_map_of_mem (getD_mem hj)
  obtain ⟨q, hq, e⟩ := List.mem_map.1 this
  refine ⟨q, ?_, hq, e⟩
  have hn : q.nm = (fs.getD j nilFl).nm := by simp only [Fl.says, PF.says, Prod.mk.injEq] at e; exact e.1
  cases hl : lookP (fs.getD j nilFl).nm ps with
  | none => exact absurd (List.find?_eq_none.1 hl q hq) (by simp [hn])
  | some x =>
    have hx := List.mem_of_find?_eq_some hl
    have hxn : x.nm = (fs.getD j nilFl).nm := by simpa using List.find?_some hl
    have := pairwise_any (R := fun (a b : PF) => a.nm ≠ b.nm) (fun a b hab e => hab e.symm) hp x hx q hq
    rw [this.resolve_right (fun hne => hne (by rw [hxn, hn]))]
theorem sumF_mem {fs : List Fl} {j : Nat} (hj : j < fs.length) : (fs.getD j nilFl).dat.length ≤ sumF fs := by
  have h1 := sumF_set (f' := nilFl) hj
  have h2 : nilFl.dat.length = 0 := rfl
  omega
end Go.Proofs.Ytbjnhohfdpdcnaa
