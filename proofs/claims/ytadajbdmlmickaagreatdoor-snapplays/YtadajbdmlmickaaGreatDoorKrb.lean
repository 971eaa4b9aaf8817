/-
  The document's disk: its blocks lie in a set; what is written into the row of its files. The document's disk: Create. The document's disk: Append. The document's disk: Sync.
-/
import Derived.Test.YtadajbdmlmickaaGreatDoorKra
import Derived.Deep.RegionHeld3
namespace Go.Proofs.YtadajbdmlmickaaGreatDoor
open Go.RowKit Go.Shelf
set_option linter.unusedVariables false

/-- The document's disk, its blocks in S. -/
structure Rdo (S : Nat → Prop) (w : World) (B : Nat) (p : PD) (v : Value) (fs : List Fl) (l : List UInt8) : Prop where
  rd : RD 0 w B p v fs l
  SB : S B
  Sv : ∀ g, v.ownBlock = some g → S g
  Sf : ∀ f ∈ fs, ∀ g, f.x.ownBlock = some g → S g
  inn : ∀ i, S i → i < w.heap.size
  lt0 : l = [] ∨ ∃ f ∈ p.fs, f.nm = l
def RDs (S : Nat → Prop) (w : World) (B : Nat) (p : PD) : Prop := ∃ v fs l, Rdo S w B p v fs l
/-- What holds of every disk. -/
structure Good (p : PD) : Prop where
  rise : p.fs.Pairwise (fun f g => bytesBefore f.nm g.nm = true)
  nms : NamesOk p.fs
  syn : ∀ f ∈ p.fs, f.syn ≤ f.dat.length
  arm : p.arm ≤ 9223372036854775807

theorem RD.out {N : Nat} {X : Nat → Prop} {w w' : World} {B : Nat} {p : PD} {v : Value} {fs : List Fl} {l : List UInt8} (h : RD N w B p v fs l) (hO : Out X w w') (hB : ¬ X B) (hv : ∀ g, v.ownBlock = some g → ¬ X g) (hf : ∀ f ∈ fs, ∀ g, f.x.ownBlock = some g → ¬ X g) : RD N w' B p v fs l :=
  ⟨h.le, (hO.block B h.lt hB).trans h.hd, ⟨row_out h.fi.row hO hv, fun f hf' => (h.fi.own f hf').out hO (hf f hf')⟩, h.sy, h.fw, h.sm, h.la⟩
theorem Rdo.out {S X : Nat → Prop} {w w' : World} {B : Nat} {p : PD} {v : Value} {fs : List Fl} {l : List UInt8} (h : Rdo S w B p v fs l) (hO : Out X w w') (hx : ∀ i, S i → ¬ X i) : Rdo S w' B p v fs l :=
  ⟨h.rd.out hO (hx _ h.SB) (fun g hg => hx _ (h.Sv g hg)) (fun f hf g hg => hx _ (h.Sf f hf g hg)), h.SB, h.Sv, h.Sf, fun i hi => Nat.lt_of_lt_of_le (h.inn i hi) hO.size, h.lt0⟩
theorem RDs.out {S X : Nat → Prop} {w w' : World} {B : Nat} {p : PD} (h : RDs S w B p) (hO : Out X w w') (hx : ∀ i, S i → ¬ X i) : RDs S w' B p := by
  obtain ⟨v, fs, l, h⟩ := h
  exact ⟨v, fs, l, h.out hO hx⟩
theorem RDs.inn {S : Nat → Prop} {w : World} {B : Nat} {p : PD} (h : RDs S w B p) : ∀ i, S i → i < w.heap.size := by
  obtain ⟨v, fs, l, h⟩ := h
  exact h.inn
theorem Rdo.step {S : Nat → Prop} {w w' : World} {B : Nat} {p p' : PD} {v v' : Value} {fs fs' : List Fl} {l l' : List UInt8} (h : Rdo S w B p v fs l) (hO : Out S w w') (rd' : RD 0 w' B p' v' fs' l') (hv : ∀ g, v'.ownBlock = some g → S g ∨ w.heap.size ≤ g) (hf : ∀ f ∈ fs', f ∈ fs ∨ ∀ g, f.x.ownBlock = some g → S g ∨ w.heap.size ≤ g) (hl : l' = [] ∨ ∃ f ∈ p'.fs, f.nm = l') : Rdo (grew S w w') w' B p' v' fs' l' := by
  refine ⟨rd', .inl h.SB, fun g hg => ?_, fun f hf' g hg => ?_, fun i hi => ?_, hl⟩
  · rcases hv g hg with h1 | h1
    · exact .inl h1
    · exact .inr ⟨h1, (rd'.fi.row.lt g hg).2⟩
  · rcases hf f hf' with h1 | h1
    · exact .inl (h.Sf f h1 g hg)
    · rcases h1 g hg with h1 | h1
      · exact .inl h1
      · exact .inr ⟨h1, (World.ownsRow.lt (rd'.fi.own f hf') g hg).2⟩
  · rcases hi with hi | hi
    · exact Nat.lt_of_lt_of_le (h.inn i hi) hO.size
    · exact hi.2
/-- What an operation answers and leaves. -/
def RDone (S : Nat → Prop) (w : World) (B : Nat) (x : Nat × PD) (r : Ending) (w' : World) : Prop := r = .returned (.int .i64 (x.1 : Int)) ∧ Out S w w' ∧ RDs (grew S w w') w' B x.2
theorem RDone.mk {S : Nat → Prop} {w w' : World} {B : Nat} {x : Nat × PD} {r : Ending} {e : Nat} {p : PD} {v : Value} {fs : List Fl} {l : List UInt8} (he : x = (e, p)) (hr : r = .returned (.int .i64 (e : Int))) (hO : Out S w w') (h : Rdo (grew S w w') w' B p v fs l) : RDone S w B x r w' := by
  subst he
  exact ⟨hr, hO, v, fs, l, h⟩
theorem Rdo.grew {S : Nat → Prop} {w : World} {B : Nat} {p : PD} {v : Value} {fs : List Fl} {l : List UInt8} (h : Rdo S w B p v fs l) : Rdo (grew S w w) w B p v fs l :=
  h.step (Out.refl _ _) h.rd (fun g hg => .inl (h.Sv g hg)) (fun f hf => .inl hf) h.lt0

theorem RD.at {N : Nat} {w : World} {B : Nat} {p : PD} {v : Value} {fs : List Fl} {l : List UInt8} (h : RD N w B p v fs l) {j : Nat} (hj : j < fs.length) : ∃ g cap, v = .slice (some ⟨g, 0, none⟩) fs.length cap ∧ fs.length ≤ cap ∧ cap ≤ maxLen ∧ g ≠ B ∧ FlAt w.heap.size w g (j * 3) (fs.getD j nilFl) ∧ (∀ i, w.frozen? ⟨g, i, none⟩ = false) ∧ (∃ cs, w.heap[g]? = some (.cells cs 71 (0, 0))) := by
  obtain ⟨a, c, hv, h1, h2, hF⟩ := h.fi.at
  obtain ⟨g, cap, hv2, -⟩ := row_some h.fi.row (by omega)
  rw [hv] at hv2
  cases hv2
  obtain ⟨b, off, e, hb, hc⟩ := hF.resolve_left (by rintro rfl; simp at hj)
  cases e
  have hrow := h.fi.row
  rw [hv] at hrow
  have hcs : ∃ cs, w.heap[g]? = some (.cells cs 71 (0, 0)) := by
    rcases hrow.2 with ⟨hv0, _⟩ | ⟨g', cap', cur, hv0, _, hb, _⟩
    · cases hv0
    · cases hv0; exact ⟨_, hb⟩
  refine ⟨g, c, hv, h1, h2, ?_, by have := hc j hj; rwa [Nat.zero_add] at this, fun i => hrow.frozenAt i, hcs⟩
  rintro rfl
  obtain ⟨cs, hcs⟩ := hcs
  rw [h.hd] at hcs
  simp at hcs

theorem cellsOf_set : ∀ (fs : List Fl) (j : Nat) (f : Fl), j < fs.length → cellsOf (fs.set j f) = (((cellsOf fs).set (j * 3) (.string ⟨f.nm.toArray⟩)).set (j * 3 + 1) f.x).set (j * 3 + 2) (.int .i64 f.syn)
  | [], j, f, h => by simp at h
  | y :: r, 0, f, _ => by simp [cellsOf, Fl.cells]
  | y :: r, j + 1, f, h => by
    have ih := cellsOf_set r j f (by simpa using h)
    simp only [cellsOf, List.map_cons, List.flatten_cons, List.set_cons_succ] at *
    rw [ih]
    have e : (j + 1) * 3 = j * 3 + 3 := by omega
    rw [e]
    simp [Fl.cells, List.set_cons_succ]
theorem set_same {l : List Value} {j : Nat} {u : Value} (h : l[j]? = some u) : l.set j u = l := by
  refine List.ext_getElem? fun i => ?_
  rw [List.getElem?_set]
  split
  · rename_i e
    subst e
    split
    · rw [h]
    · rename_i hlt
      rw [List.getElem?_eq_none (by omega)] at h
      cases h
  · rfl
theorem cells_at {fs : List Fl} {j : Nat} (hj : j < fs.length) : (cellsOf fs)[j * 3]? = some (.string ⟨(fs.getD j nilFl).nm.toArray⟩) ∧ (cellsOf fs)[j * 3 + 1]? = some (fs.getD j nilFl).x ∧ (cellsOf fs)[j * 3 + 2]? = some (.int .i64 (fs.getD j nilFl).syn) :=
  ⟨(cellsOf_at fs j 0 hj (by omega)).trans rfl, (cellsOf_at fs j 1 hj (by omega)).trans rfl, (cellsOf_at fs j 2 hj (by omega)).trans rfl⟩
theorem cellsOf_set1 {fs : List Fl} {j : Nat} (hj : j < fs.length) (a : Option Addr) (c : Nat) (dat : List UInt8) : cellsOf (fs.set j ⟨(fs.getD j nilFl).nm, a, c, dat, (fs.getD j nilFl).syn⟩) = (cellsOf fs).set (j * 3 + 1) (.slice a dat.length c) := by
  obtain ⟨h0, h1, h2⟩ := cells_at hj
  rw [cellsOf_set _ _ _ hj]
  show (((cellsOf fs).set (j * 3) (.string ⟨(fs.getD j nilFl).nm.toArray⟩)).set (j * 3 + 1) (.slice a dat.length c)).set (j * 3 + 2) (.int .i64 (fs.getD j nilFl).syn) = _
  rw [set_same h0]
  exact set_same (by rw [List.getElem?_set_ne (by omega)]; exact h2)
theorem cellsOf_set2 {fs : List Fl} {j : Nat} (hj : j < fs.length) (s : Int) : cellsOf (fs.set j { fs.getD j nilFl with syn := s }) = (cellsOf fs).set (j * 3 + 2) (.int .i64 s) := by
  obtain ⟨h0, h1, h2⟩ := cells_at hj
  rw [cellsOf_set _ _ _ hj]
  show (((cellsOf fs).set (j * 3) (.string ⟨(fs.getD j nilFl).nm.toArray⟩)).set (j * 3 + 1) (fs.getD j nilFl).x).set (j * 3 + 2) (.int .i64 s) = _
  rw [set_same h0, set_same h1]

theorem mem_set_fl {fs : List Fl} {j : Nat} {f x : Fl} (h : x ∈ fs.set j f) : x = f ∨ x ∈ fs := (List.mem_or_eq_of_mem_set h).symm
/-- A file's bytes are others. -/
theorem FilesIn.set1 {N : Nat} {w : World} {g cap : Nat} {fs : List Fl} (h : FilesIn N w (.slice (some ⟨g, 0, none⟩) fs.length cap) fs) {j : Nat} (hj : j < fs.length) {a : Option Addr} {c : Nat} {dat : List UInt8} (hO : Ow N w (.slice a dat.length c) dat) :
    FilesIn N (w.setCell ⟨g, j * 3 + 1, none⟩ (.slice a dat.length c)) (.slice (some ⟨g, 0, none⟩) fs.length cap) (fs.set j ⟨(fs.getD j nilFl).nm, a, c, dat, (fs.getD j nilFl).syn⟩) := by
  have hs := h.row.stored (j * 3 + 1) (.slice a dat.length c)
  refine ⟨by rw [cellsOf_set1 hj, List.length_set]; exact hs.1, fun f hf => ?_⟩
  have hw : Ow N w f.x f.dat := by
    rcases mem_set_fl hf with rfl | hf
    · exact hO
    · exact h.own f hf
  exact hw.kept hs.2 (rows_apart h.row hw)
/-- How many of a file's bytes are durable is another number. -/
theorem FilesIn.set2 {N : Nat} {w : World} {g cap : Nat} {fs : List Fl} (h : FilesIn N w (.slice (some ⟨g, 0, none⟩) fs.length cap) fs) {j : Nat} (hj : j < fs.length) (s : Int) :
    FilesIn N (w.setCell ⟨g, j * 3 + 2, none⟩ (.int .i64 s)) (.slice (some ⟨g, 0, none⟩) fs.length cap) (fs.set j { fs.getD j nilFl with syn := s }) := by
  have hs := h.row.stored (j * 3 + 2) (.int .i64 s)
  refine ⟨by rw [cellsOf_set2 hj, List.length_set]; exact hs.1, fun f hf => ?_⟩
  have hw : Ow N w f.x f.dat := by
    rcases mem_set_fl hf with rfl | hf
    · refine h.own (fs.getD j nilFl) ?_
      rw [List.getD_eq_getElem?_getD, List.getElem?_eq_getElem hj]; exact List.getElem_mem hj
    · exact h.own f hf
  exact hw.kept hs.2 (rows_apart h.row hw)

theorem getD_mem {fs : List Fl} {j : Nat} (hj : j < fs.length) : fs.getD j nilFl ∈ fs := by
  rw [List.getD_eq_getElem?_getD, List.getElem?_eq_getElem hj]; exact List.getElem_mem hj
theorem rise_ne {ps : List PF} (h : ps.Pairwise (fun f g => bytesBefore f.nm g.nm = true)) : ps.Pairwise (fun f g => f.nm ≠ g.nm) := h.imp (fun hab => before_ne hab)
/-- One file is turned, here and there. -/
theorem says_set : ∀ {fs : List Fl} {ps : List PF} {j : Nat} {f' : Fl} {nm : List UInt8} (G : PF → PF), fs.map Fl.says = ps.map PF.says → ps.Pairwise (fun f g => f.nm ≠ g.nm) → j < fs.length → (fs.getD j nilFl).nm = nm → (∀ q, q.nm ≠ nm → (G q).says = q.says) → (∀ q ∈ ps, q.says = (fs.getD j nilFl).says → f'.says = (G q).says) → (fs.set j f').map Fl.says = (ps.map G).map PF.says
  | [], _, j, _, _, _, _, _, h, _, _, _ => by simp at h
  | _ :: _, [], _, _, _, _, h, _, _, _, _, _ => by simp at h
  | f :: r, q :: s, 0, f', nm, G, h, hp, hj, hn, hG, hf => by
    simp only [List.map_cons, List.cons.injEq] at h
    obtain ⟨h1, h2⟩ := List.pairwise_cons.1 hp
    simp only [List.getD_cons_zero] at hn hf
    have hq : q.nm = nm := by have := h.1; simp only [Fl.says, PF.says, Prod.mk.injEq] at this; rw [← this.1]; exact hn
    simp only [List.set_cons_zero, List.map_cons, List.cons.injEq]
    refine ⟨hf q (by simp) h.1.symm, ?_⟩
    rw [h.2, List.map_map]
    refine List.map_congr_left fun x hx => ?_
    exact (hG x (fun e => h1 x hx (by rw [hq, e]))).symm
  | f :: r, q :: s, j + 1, f', nm, G, h, hp, hj, hn, hG, hf => by
    simp only [List.map_cons, List.cons.injEq] at h
    obtain ⟨h1, h2⟩ := List.pairwise_cons.1 hp
    have hj' : j < r.length := by simpa using hj
    simp only [List.getD_cons_succ] at hn hf
    have ih := says_set G h.2 h2 hj' hn hG (fun x hx => hf x (by simp [hx]))
    simp only [List.set_cons_succ, List.map_cons, List.cons.injEq]
    refine ⟨?_, ih⟩
    rw [h.1]
    refine (hG q (fun e => ?_)).symm
    obtain ⟨x, hx, hx2⟩ : ∃ x ∈ s, x.nm = nm := by
      have hm := getD_mem hj'
      have : (r.getD j nilFl).says ∈ s.map PF.says := by rw [← h.2]; exact List.mem_map_of_mem hm
      obtain ⟨x, hx, e2⟩ := List.mem_map.1 this
      refine ⟨x, hx, ?_⟩
      simp only [Fl.says, PF.says, Prod.mk.injEq] at e2
      rw [e2.1, hn]
    exact h1 x hx (by rw [e, hx2])
theorem sumF_set : ∀ {fs : List Fl} {j : Nat} {f' : Fl}, j < fs.length → sumF (fs.set j f') + (fs.getD j nilFl).dat.length = sumF fs + f'.dat.length
  | [], j, _, h => by simp at h
  | f :: r, 0, f', _ => by simp [sumF]; omega
  | f :: r, j + 1, f', h => by
    have := sumF_set (fs := r) (j := j) (f' := f') (by simpa using h)
    simp only [sumF, List.set_cons_succ, List.map_cons, List.sum_cons, List.getD_cons_succ] at *
    omega
/-- The file that is looked for. -/
theorem look_at {fs : List Fl} {ps : List PF} (h : fs.map Fl.says = ps.map PF.says) {j : Nat} (hj : j < fs.length) (hp : ps.Pairwise (fun f g => f.nm ≠ g.nm)) : ∃ q, lookP (fs.getD j nilFl).nm ps = some q ∧ q ∈ ps ∧ q.says = (fs.getD j nilFl).says := by
  have : (fs.getD j nilFl).says ∈ ps.map PF.says := by rw [← h]; exact List.mem_map_of_mem (getD_mem hj)
  obtain ⟨q, hq, e⟩ := List.mem_map.1 this
  refine ⟨q, ?_, hq, e⟩
  have hn : q.nm = (fs.getD j nilFl).nm := by simp only [Fl.says, PF.says, Prod.mk.injEq] at e; exact e.1
  cases hl : lookP (fs.getD j nilFl).nm ps with
  | none => exact absurd (List.find?_eq_none.1 hl q hq) (by simp [hn])
  | some x =>
    have hx := List.mem_of_find?_eq_some hl
    have hxn : x.nm = (fs.getD j nilFl).nm := by simpa using List.find?_some hl
    have := pairwise_any (R := fun (a b : PF) => a.nm ≠ b.nm) (fun a b hab e => hab e.symm) hp x hx q hq
    rw [this.resolve_right (fun hne => hne (by rw [hxn, hn]))]
theorem sumF_mem {fs : List Fl} {j : Nat} (hj : j < fs.length) : (fs.getD j nilFl).dat.length ≤ sumF fs := by
  have h1 := sumF_set (f' := nilFl) hj
  have h2 : nilFl.dat.length = 0 := rfl
  omega
end Go.Proofs.YtadajbdmlmickaaGreatDoor
namespace Go.Proofs.YtadajbdmlmickaaGreatDoor
open Go.RowKit Go.Shelf
set_option linter.unusedVariables false

theorem delP_none {nm : List UInt8} {ps : List PF} (h : ∀ q ∈ ps, q.nm ≠ nm) : delP nm ps = ps := by
  unfold delP
  rw [List.filter_eq_self]
  intro q hq
  simpa using h q hq
theorem Out.fit {X S : Nat → Prop} {B : Nat} {w w' : World} (h : Out (· = B) w w') (hS : S B) : Out S w w' := h.mono (fun i hi => by rw [hi]; exact hS)
theorem says_no {fs : List Fl} {ps : List PF} (h : fs.map Fl.says = ps.map PF.says) {nm : List UInt8} (hn : ∀ f ∈ fs, f.nm ≠ nm) : ∀ q ∈ ps, q.nm ≠ nm := fun q hq e => by
  have : (lookP nm ps).isSome = true := by
    unfold lookP
    rw [List.find?_isSome]
    exact ⟨q, hq, by simpa using e⟩
  obtain ⟨f, hf, e2⟩ := (says_nm h nm).2 this
  exact hn f hf e2
theorem isNm_ne {nm : List UInt8} (h : isNm nm = true) : nm ≠ [] := by
  rintro rfl
  exact absurd h (by decide)
theorem at_neg {fs : List Fl} {nm : List UInt8} {i : Int} (hi : (i = -1 ∧ ∀ f ∈ fs, f.nm ≠ nm) ∨ ∃ j : Nat, i = (j : Int) ∧ j < fs.length ∧ (fs.getD j nilFl).nm = nm) (h : ∀ f ∈ fs, f.nm ≠ nm) : i < 0 := by
  rcases hi with ⟨rfl, -⟩ | ⟨j, rfl, hj, e⟩
  · omega
  · exact absurd e (h _ (getD_mem hj))
theorem at_pos {fs : List Fl} {nm : List UInt8} {i : Int} (hi : (i = -1 ∧ ∀ f ∈ fs, f.nm ≠ nm) ∨ ∃ j : Nat, i = (j : Int) ∧ j < fs.length ∧ (fs.getD j nilFl).nm = nm) (h : ∃ f ∈ fs, f.nm = nm) : ∃ j : Nat, i = (j : Int) ∧ j < fs.length ∧ (fs.getD j nilFl).nm = nm := by
  rcases hi with ⟨rfl, h2⟩ | h2
  · obtain ⟨f, hf, e⟩ := h
    exact absurd e (h2 f hf)
  · exact h2
theorem refPut {w : World} {B : Nat} {p : PD} {v : Value} {fs : List Fl} {l : List UInt8} (h : RD 0 w B p v fs l) (fn : List UInt8) (fa : Option Addr) (fc : Nat) (fd : List UInt8) (fy : Int) (hx : Ow 0 w (.slice fa fd.length fc) fd) (hfw : fs.length < 256) :
    Calls Tryz.prog 108 #[.pointer (some ⟨B, 0, none⟩), .agg #[.string ⟨fn.toArray⟩, .slice fa fd.length fc, .int .i64 fy]] w fun r w' => r = .returned (.tuple #[]) ∧ ∃ v', w'.heap[B]? = some (.cells #[v', .int .i64 (p.arm : Int), .bool p.dn, .string ⟨l.toArray⟩] 30 (0, 0)) ∧ FilesIn 0 w' v' (insF ⟨fn, fa, fc, fd, fy⟩ fs) ∧ Out (· = B) w w' ∧ ∀ g, v'.ownBlock = some g → w.heap.size ≤ g := by
  rcases h.fi.row.2 with ⟨hv0, h0⟩ | ⟨g, cap, cur, hv0, _⟩
  · have hfs : fs = [] := List.length_eq_zero_iff.1 h0
    subst hfs hv0
    exact refPutNil_any h fn fa fc fd fy hx (Nat.zero_le _)
  · exact refPut_any h fn fa fc fd fy hx hfw (Nat.zero_le _) g cap hv0
theorem mem_insF {f x : Fl} {fs : List Fl} (h : x ∈ insF f fs) : x = f ∨ x ∈ fs := by
  rw [insF_spot] at h
  rcases List.mem_append.1 h with h | h
  · rcases List.mem_append.1 h with h | h
    · exact .inr (List.mem_of_mem_take h)
    · exact .inl (List.mem_singleton.1 h)
  · exact .inr (List.mem_of_mem_drop h)

set_option maxRecDepth 100000 in
set_option maxHeartbeats 4000000 in
theorem refCreate {S : Nat → Prop} {w : World} {B : Nat} {p : PD} (h : RDs S w B p) (hg : Good p) (nm : List UInt8) (hn : nm.length ≤ maxLen) :
    Calls Tryz.prog 74 #[.pointer (some ⟨B, 0, none⟩), .string ⟨nm.toArray⟩] w fun r w' => RDone S w B (doCreate p nm) r w' := by
  obtain ⟨v, fs, l, h⟩ := h
  obtain ⟨k0, k1, k2, k3, -⟩ := h.rd.cells
  have HH : Hid (Rdo S w B p v fs l) := h
  have hlen := h.rd.len
  have HS := says_nm h.rd.sy nm
  obtain ⟨a, c, hv⟩ := row_shape h.rd.fi.row
  subst hv
  cases hd : p.dn with
  | true =>
    have HE : Hid (doCreate p nm = (11, p)) := by show doCreate p nm = _; simp [doCreate, hd]
    rw [hd] at k2
    clear h HS hlen hd
    go_enter Tryz.func74, Tryz.ntmps74
    go_wp2
    go_ret
    exact RDone.mk HE.out rfl (Out.refl _ _) HH.out.grew
  | false =>
  rw [hd] at k2
  by_cases h1 : isNm nm = false
  · have HE : Hid (doCreate p nm = (7, p)) := by show doCreate p nm = _; simp [doCreate, h1, hd]
    have HI : Hid (isNm nm = false) := h1
    clear h h1 HS hlen hd
    go_enter Tryz.func74, Tryz.ntmps74
    go_wp2_with (first
      | (go_at_call 107; refine (refName_any nm _ hn).mono ?_; rintro r w' ⟨rfl, hw⟩; subst w'; rw [HI.out])
      | fail)
    go_ret
    exact RDone.mk HE.out rfl (Out.refl _ _) HH.out.grew
  have HI : Hid (isNm nm = true) := by show isNm nm = true; simpa using h1
  have hat := refAt_any h.rd nm
  by_cases h2 : (lookP nm p.fs).isSome = true
  · have HE : Hid (doCreate p nm = (9, p)) := by show doCreate p nm = _; simp [doCreate, HI.out, h2, hd]
    have HX : Hid (∃ f ∈ fs, f.nm = nm) := HS.2 h2
    clear h h1 h2 HS hlen hd
    go_enter Tryz.func74, Tryz.ntmps74
    go_wp2_with (first
      | (go_at_call 107; refine (refName_any nm _ hn).mono ?_; rintro r w' ⟨rfl, hw⟩; subst w'; rw [HI.out])
      | (go_at_call 82; refine hat.mono ?_; rintro r w' ⟨i, rfl, hi, hw⟩; subst w'; have hi0 : (0 : Int) ≤ i := (by obtain ⟨j, rfl, -⟩ := at_pos hi HX.out; omega); clear hi)
      | fail)
    go_ret
    exact RDone.mk HE.out rfl (Out.refl _ _) HH.out.grew
  have HX : Hid (∀ f ∈ fs, f.nm ≠ nm) := fun f hf e => h2 (HS.1 ⟨f, hf, e⟩)
  by_cases h3 : 256 ≤ fs.length
  · have HE : Hid (doCreate p nm = (10, p)) := by show doCreate p nm = _; rw [hlen] at h3; simp only [doCreate, HI.out, hd]; rw [if_neg (by simp), if_neg (by simp), if_neg h2, if_pos h3]
    clear h h1 h2 HS hlen hd
    go_enter Tryz.func74, Tryz.ntmps74
    go_wp2_with (first
      | (go_at_call 107; refine (refName_any nm _ hn).mono ?_; rintro r w' ⟨rfl, hw⟩; subst w'; rw [HI.out])
      | (go_at_call 82; refine hat.mono ?_; rintro r w' ⟨i, rfl, hi, hw⟩; subst w'; have hi0 : i < (0 : Int) := at_neg hi HX.out; clear hi)
      | fail)
    go_ret
    exact RDone.mk HE.out rfl (Out.refl _ _) HH.out.grew
  have HN : Hid (∀ q ∈ p.fs, q.nm ≠ nm) := says_no h.rd.sy HX.out
  have HE : Hid (doCreate p nm = if p.fell then (11, p.fail) else (0, { p.fail with fs := insP ⟨nm, [], 0, false⟩ p.fs })) := by
    show doCreate p nm = _
    rw [hlen] at h3
    simp only [doCreate, HI.out, hd]
    rw [if_neg (by simp), if_neg (by simp), if_neg h2, if_neg h3, delP_none HN.out]
  have hfl := refFails_any h.rd hg.arm
  have HL : Hid (fs.length < 256) := by show fs.length < 256; omega
  have HLT : Hid ((nm == l) = false) := by
    show (nm == l) = false
    rcases h.lt0 with e | ⟨f, hf, e⟩
    · subst e; simpa using isNm_ne HI.out
    · have := HN.out f hf; rw [e] at this; simpa using fun e2 : nm = l => this e2.symm
  have HP : Hid (p.fail.fs = p.fs) := pd_fail_fs p
  cases hfe : p.fell with
  | true =>
    rw [hfe] at hfl
    have HFE : Hid (p.fell = true) := hfe
    clear h h1 h2 HS hlen hd hfe
    go_enter Tryz.func74, Tryz.ntmps74
    go_wp2_with (first
      | (go_at_call 107; refine (refName_any nm _ hn).mono ?_; rintro r w' ⟨rfl, hw⟩; subst w'; rw [HI.out])
      | (go_at_call 82; refine hat.mono ?_; rintro r w' ⟨i, rfl, hi, hw⟩; subst w'; have hi0 : i < (0 : Int) := at_neg hi HX.out; clear hi)
      | (go_at_call 105; refine hfl.mono ?_; rintro r w1 ⟨rfl, hR1, hO1⟩)
      | fail)
    go_ret
    exact RDone.mk (by rw [HE.out, HFE.out]; rfl) rfl (hO1.fit (X := S) HH.out.SB) (HH.out.step (hO1.fit (X := S) HH.out.SB) hR1 (fun g hg => .inl (HH.out.Sv g hg)) (fun f hf => .inl hf) (by rw [HP.out]; exact HH.out.lt0))
  | false =>
    rw [hfe] at hfl
    have HFE : Hid (p.fell = false) := hfe
    clear h h1 h2 HS hlen hd hfe
    go_enter Tryz.func74, Tryz.ntmps74
    go_wp2_with (first
      | (go_at_call 107; refine (refName_any nm _ hn).mono ?_; rintro r w' ⟨rfl, hw⟩; subst w'; rw [HI.out])
      | (go_at_call 82; refine hat.mono ?_; rintro r w' ⟨i, rfl, hi, hw⟩; subst w'; have hi0 : i < (0 : Int) := at_neg hi HX.out; clear hi)
      | (go_at_call 105; refine hfl.mono ?_; rintro r w1 ⟨rfl, hR1, hO1⟩; have hput := refPut hR1 nm none 0 [] 0 (Ow.nil _ _) HL.out)
      | (go_at_call 108; refine hput.mono ?_; rintro r w5 ⟨rfl, v5, hb5, hf5, ho5, hn5⟩)
      | fail)
    go_ret
    have hO5 : Out S w w5 := (hO1.fit (X := S) HH.out.SB).trans ho5 (fun i hi _ => by rw [hi]; exact HH.out.SB)
    have hR5 := create_rd hR1 HLT.out HX.out HL.out hb5 hf5
    rw [HP.out] at hR5
    refine RDone.mk (by rw [HE.out, HFE.out]; rfl) rfl hO5 (HH.out.step hO5 hR5 (fun g hg => .inr (Nat.le_trans hO1.size (hn5 g hg))) (fun f hf => ?_) ?_)
    · rcases mem_insF hf with rfl | hf
      · exact .inr (fun g hg => by simp [Fl.x, Value.ownBlock] at hg)
      · exact .inl hf
    · rcases HH.out.lt0 with e | ⟨f, hf, e⟩
      · exact .inl e
      · exact .inr ⟨f, mem_insP.2 (.inr hf), e⟩
end Go.Proofs.YtadajbdmlmickaaGreatDoor
namespace Go.Proofs.YtadajbdmlmickaaGreatDoor
open Go.RowKit Go.Shelf
set_option linter.unusedVariables false

theorem RD.put1 {w : World} {B g cap j : Nat} {p : PD} {fs : List Fl} {l nm dat : List UInt8} {a : Option Addr} {c : Nat} (h : RD 0 w B p (.slice (some ⟨g, 0, none⟩) fs.length cap) fs l) (hgB : g ≠ B) (hr : p.fs.Pairwise (fun f g => f.nm ≠ g.nm)) (hj : j < fs.length) (hnm : (fs.getD j nilFl).nm = nm) (hO : Ow 0 w (.slice a dat.length c) dat)
    (G : PF → PF) (hG : ∀ q, q.nm ≠ nm → (G q).says = q.says) (hG2 : ∀ q ∈ p.fs, q.says = (fs.getD j nilFl).says → (G q).says = (nm, dat, (fs.getD j nilFl).syn)) (hGl : ∀ q, (G q).nm = q.nm ∧ (G q).late = q.late) (hsum : sumF fs + dat.length ≤ 16777216 + (fs.getD j nilFl).dat.length) :
    RD 0 (w.setCell ⟨g, j * 3 + 1, none⟩ (.slice a dat.length c)) B { p with fs := p.fs.map G } (.slice (some ⟨g, 0, none⟩) fs.length cap) (fs.set j ⟨(fs.getD j nilFl).nm, a, c, dat, (fs.getD j nilFl).syn⟩) l := by
  have hsy := says_set (f' := ⟨(fs.getD j nilFl).nm, a, c, dat, (fs.getD j nilFl).syn⟩) G h.sy hr hj hnm hG (fun q hq e => by rw [hG2 q hq e]; simp [Fl.says]; exact hnm)
  refine ⟨Nat.zero_le _, (Out.set (X := (· = g)) rfl).block B h.lt (fun e => hgB e.symm) |>.trans h.hd, FilesIn.set1 h.fi hj hO, hsy, by rw [List.length_set]; exact h.fw, ?_, ?_⟩
  · have h1 := sum_says hsy
    have h2 := sumF_set (f' := ⟨(fs.getD j nilFl).nm, a, c, dat, (fs.getD j nilFl).syn⟩) hj
    show sumP (p.fs.map G) ≤ _
    simp only at h2
    omega
  · intro f hf
    obtain ⟨q, hq, rfl⟩ := List.mem_map.1 hf
    rw [(hGl q).1, (hGl q).2]
    exact h.la q hq
theorem RD.put2 {w : World} {B g cap j : Nat} {p : PD} {fs : List Fl} {l nm : List UInt8} {s : Int} (h : RD 0 w B p (.slice (some ⟨g, 0, none⟩) fs.length cap) fs l) (hgB : g ≠ B) (hr : p.fs.Pairwise (fun f g => f.nm ≠ g.nm)) (hj : j < fs.length) (hnm : (fs.getD j nilFl).nm = nm)
    (G : PF → PF) (hG : ∀ q, q.nm ≠ nm → (G q).says = q.says) (hG2 : ∀ q ∈ p.fs, q.says = (fs.getD j nilFl).says → (G q).says = (nm, (fs.getD j nilFl).dat, s)) (hGl : ∀ q, (G q).nm = q.nm ∧ (G q).late = q.late) :
    RD 0 (w.setCell ⟨g, j * 3 + 2, none⟩ (.int .i64 s)) B { p with fs := p.fs.map G } (.slice (some ⟨g, 0, none⟩) fs.length cap) (fs.set j { fs.getD j nilFl with syn := s }) l := by
  have hsy := says_set (f' := { fs.getD j nilFl with syn := s }) G h.sy hr hj hnm hG (fun q hq e => by rw [hG2 q hq e]; simp [Fl.says]; exact hnm)
  refine ⟨Nat.zero_le _, (Out.set (X := (· = g)) rfl).block B h.lt (fun e => hgB e.symm) |>.trans h.hd, FilesIn.set2 h.fi hj s, hsy, by rw [List.length_set]; exact h.fw, ?_, ?_⟩
  · obtain ⟨f', hf'⟩ : ∃ f', f' = ({ fs.getD j nilFl with syn := s } : Fl) := ⟨_, rfl⟩
    have hdat : f'.dat.length = (fs.getD j nilFl).dat.length := by rw [hf']
    rw [← hf'] at hsy
    have h1 := sum_says hsy
    have h2 := sumF_set (f' := f') hj
    have h3 := sum_says h.sy
    have h4 := h.sm
    show sumP (p.fs.map G) ≤ _
    omega
  · intro f hf
    obtain ⟨q, hq, rfl⟩ := List.mem_map.1 hf
    rw [(hGl q).1, (hGl q).2]
    exact h.la q hq
theorem RD.late {N : Nat} {w : World} {B : Nat} {p : PD} {v : Value} {fs : List Fl} {l : List UInt8} (h : RD N w B p v fs l) (nm : List UInt8) : RD N (w.setCell ⟨B, 3, none⟩ (.string ⟨nm.toArray⟩)) B { p with fs := p.fs.map (appP nm []) } v fs nm := by
  have hset : Out (· = B) w (w.setCell ⟨B, 3, none⟩ (.string ⟨nm.toArray⟩)) := Out.set rfl
  have hs : (p.fs.map (appP nm [])).map PF.says = p.fs.map PF.says := by
    rw [List.map_map]
    refine List.map_congr_left fun q _ => ?_
    show (appP nm [] q).says = q.says
    unfold appP PF.says
    split <;> simp
  refine ⟨h.le, by simpa using heap_set h.hd 3 (.string ⟨nm.toArray⟩), ⟨row_out h.fi.row hset (fun g hg e => ?_), fun f hf => (h.fi.own f hf).out hset (fun g hg e => (h.fi.own f hf).not_at h.hd (by decide) (by rw [hg, e]))⟩, by rw [h.sy, hs], h.fw, ?_, ?_⟩
  · rcases h.fi.row.2 with ⟨rfl, _⟩ | ⟨g', cap, cur, rfl, _, hgb, _⟩
    · simp [Value.ownBlock] at hg
    · simp [Value.ownBlock] at hg
      subst hg e
      rw [h.hd] at hgb
      cases hgb
  · have h1 := sum_says (h.sy.trans hs.symm)
    have h2 := sum_says h.sy
    have := h.sm
    show sumP (p.fs.map (appP nm [])) ≤ _
    omega
  · intro f hf
    obtain ⟨q, hq, rfl⟩ := List.mem_map.1 hf
    unfold appP
    split
    · rename_i e; exact e.symm
    · rename_i e; simpa using e
def behP (nm b : List UInt8) (q : PF) : PF := if q.nm == nm then { q with dat := q.dat ++ b } else q
theorem app_eq (p : PD) (nm b : List UInt8) : ({ ({ p with fs := p.fs.map (appP nm []) } : PD).fail with fs := ({ p with fs := p.fs.map (appP nm []) } : PD).fail.fs.map (behP nm b) } : PD) = { p.fail with fs := p.fs.map (appP nm b) } := by
  have e : ∀ q, behP nm b (appP nm [] q) = appP nm b q := fun q => by
    unfold behP appP
    by_cases h : (q.nm == nm) = true
    · simp [h]
    · simp [h]
  have e2 : (p.fs.map (appP nm [])).map (behP nm b) = p.fs.map (appP nm b) := by
    rw [List.map_map]
    exact List.map_congr_left fun q _ => e q
  rw [pd_fail_fs]
  unfold PD.fail
  by_cases h : p.arm = 0
  · simp only [h, if_true]; rw [e2]
  · simp only [h, if_false]; rw [e2]
theorem app_ne (nm b : List UInt8) {ps : List PF} (h : ps.Pairwise (fun f g => f.nm ≠ g.nm)) : (ps.map (appP nm b)).Pairwise (fun f g => f.nm ≠ g.nm) := by
  rw [List.pairwise_map]
  refine h.imp fun {f g} hne => ?_
  have e : ∀ q, (appP nm b q).nm = q.nm := fun q => by unfold appP; split <;> rfl
  rw [e, e]; exact hne
theorem frozen_below {N : Nat} {w w' : World} (hB : Below N w w') {b o : Nat} (hb : b < N) : w'.frozen? ⟨b, o, none⟩ = w.frozen? ⟨b, o, none⟩ := by
  simp only [World.frozen?, hB.block b hb]
/-- Behind the writing of a file's bytes. -/
theorem app_done {S : Nat → Prop} {w w2 w4 : World} {B g cap j : Nat} {p : PD} {fs : List Fl} {l nm b dat : List UInt8} {a : Option Addr} {c : Nat} (h : Rdo S w B p (.slice (some ⟨g, 0, none⟩) fs.length cap) fs l) (hg : Good p) (hj : j < fs.length) (hnm : (fs.getD j nilFl).nm = nm) (hgB : g ≠ B)
    (hR2 : RD 0 w2 B ({ p with fs := p.fs.map (appP nm []) } : PD).fail (.slice (some ⟨g, 0, none⟩) fs.length cap) fs nm) (hO2 : Out S w w2) (hB4 : Below w2.heap.size w2 w4) (hO : Ow w2.heap.size w4 (.slice a dat.length c) dat) (hd : dat = (fs.getD j nilFl).dat ++ b) (hsum : b.length + sumP p.fs ≤ 16777216) :
    Out S w (w4.setCell ⟨g, j * 3 + 1, none⟩ (.slice a dat.length c)) ∧ Rdo (grew S w (w4.setCell ⟨g, j * 3 + 1, none⟩ (.slice a dat.length c))) (w4.setCell ⟨g, j * 3 + 1, none⟩ (.slice a dat.length c)) B { p.fail with fs := p.fs.map (appP nm b) } (.slice (some ⟨g, 0, none⟩) fs.length cap) (fs.set j ⟨(fs.getD j nilFl).nm, a, c, dat, (fs.getD j nilFl).syn⟩) nm := by
  have hR4 := hR2.out (X := fun _ => False) (Out.of_below hB4) (fun h => h) (fun _ _ h => h) (fun _ _ _ _ h => h)
  have hSg : S g := h.Sv g rfl
  have hOS : Out S w (w4.setCell ⟨g, j * 3 + 1, none⟩ (.slice a dat.length c)) := (hO2.trans (Out.of_below (X := S) hB4) (fun i hi _ => hi)).trans (Out.set (X := S) hSg) (fun i hi _ => hi)
  refine ⟨hOS, ?_⟩
  have e0 := app_eq p nm b
  have hne : ({ p with fs := p.fs.map (appP nm []) } : PD).fail.fs.Pairwise (fun f g => f.nm ≠ g.nm) := by rw [pd_fail_fs]; exact app_ne nm [] (rise_ne hg.rise)
  have hR5 := RD.put1 (nm := nm) (dat := dat) (a := a) (c := c) hR4 hgB hne hj hnm (hO.base (Nat.zero_le _)) (behP nm b) (fun q hq => by unfold behP; rw [if_neg (by simpa using hq)]) (fun q hq e => ?_) (fun q => by unfold behP; split <;> exact ⟨rfl, rfl⟩) (by have h1 := sum_says h.rd.sy; rw [hd, List.length_append]; omega)
  · rw [e0] at hR5
    refine h.step hOS hR5 (fun g' hg' => .inl (h.Sv g' hg')) (fun f hf => ?_) (.inr ?_)
    · rcases mem_set_fl hf with rfl | hf
      · refine .inr (fun g' hg' => .inr ?_)
        have h1 := (World.ownsRow.lt hO g' hg').1
        have := hO2.size
        omega
      · exact .inl hf
    · obtain ⟨q, hq1, hq2, hq3⟩ := look_at h.rd.sy hj (rise_ne hg.rise)
      refine ⟨appP nm b q, List.mem_map_of_mem hq2, ?_⟩
      have : q.nm = nm := by simp only [Fl.says, PF.says, Prod.mk.injEq] at hq3; rw [hq3.1, hnm]
      unfold appP
      split <;> exact this
  · have hq1 : q.nm = nm := by simp only [Fl.says, PF.says, Prod.mk.injEq] at e; rw [e.1, hnm]
    simp only [Fl.says, PF.says, Prod.mk.injEq] at e
    unfold behP
    rw [if_pos (by simpa using hq1)]
    simp [PF.says, hq1, e.2.1, e.2.2, hd]

set_option maxRecDepth 100000 in
set_option maxHeartbeats 8000000 in
theorem refAppend {S : Nat → Prop} {w : World} {B : Nat} {p : PD} (h : RDs S w B p) (hg : Good p) (nm : List UInt8) (a : Option Addr) (cap : Nat) (b : List UInt8) (hx : SlX S w (.slice a b.length cap) b) :
    Calls Tryz.prog 75 #[.pointer (some ⟨B, 0, none⟩), .string ⟨nm.toArray⟩, .slice a b.length cap] w fun r w' => RDone S w B (doAppend p nm b) r w' := by
  obtain ⟨v, fs, l, h⟩ := h
  obtain ⟨k0, k1, k2, k3, f0, f1, f2, f3⟩ := h.rd.cells
  have HH : Hid (Rdo S w B p v fs l) := h
  have HS := says_nm h.rd.sy nm
  obtain ⟨va, vc, hv⟩ := row_shape h.rd.fi.row
  have hcm : b.length ≤ cap ∧ cap ≤ 9223372036854775807 := by
    obtain ⟨a1, cap1, e, q1, q2, _⟩ := hx
    cases e
    unfold maxLen at q2
    omega
  obtain ⟨hcl, hcm⟩ := hcm
  have hat := refAt_any h.rd nm
  have hsz := refSize_any h.rd
  have hsm := h.rd.sm
  cases hd : p.dn with
  | true =>
    have HE : Hid (doAppend p nm b = (11, p)) := by show doAppend p nm b = _; simp [doAppend, hd]
    rw [hd] at k2
    clear h HS hd hx
    subst hv
    go_enter Tryz.func75, Tryz.ntmps75
    go_wp2
    go_ret
    exact RDone.mk HE.out rfl (Out.refl _ _) HH.out.grew
  | false =>
  rw [hd] at k2
  by_cases h2 : (lookP nm p.fs).isSome = true
  case neg =>
    have HE : Hid (doAppend p nm b = (8, p)) := by show doAppend p nm b = _; simp only [doAppend, hd]; rw [if_neg (by simp), if_pos (by simpa using h2)]
    have HX : Hid (∀ f ∈ fs, f.nm ≠ nm) := fun f hf e => h2 (HS.1 ⟨f, hf, e⟩)
    clear h h2 HS hd hx
    subst hv
    go_enter Tryz.func75, Tryz.ntmps75
    go_wp2_with (first
      | (go_at_call 82; refine hat.mono ?_; rintro r w' ⟨i, rfl, hi, hw⟩; subst w'; have hi0 : i < (0 : Int) := at_neg hi HX.out; clear hi)
      | fail)
    go_ret
    exact RDone.mk HE.out rfl (Out.refl _ _) HH.out.grew
  have HX : Hid (∃ f ∈ fs, f.nm = nm) := HS.2 h2
  by_cases h3 : 16777216 < b.length + sumP p.fs
  · have HE : Hid (doAppend p nm b = (10, p)) := by show doAppend p nm b = _; simp only [doAppend, hd]; rw [if_neg (by simp), if_neg (by simp [h2]), if_pos h3]
    have hs0 : (0 : Int) ≤ (sumP p.fs : Int) := by omega
    clear h h2 HS hd hx
    subst hv
    go_enter Tryz.func75, Tryz.ntmps75
    go_wp2_with (first
      | (go_at_call 82; refine hat.mono ?_; rintro r w' ⟨i, rfl, hi, hw⟩; subst w'; have hi0 : (0 : Int) ≤ i := (by obtain ⟨j, rfl, -⟩ := at_pos hi HX.out; omega); clear hi)
      | (go_at_call 51; refine hsz.mono ?_; rintro r w' ⟨rfl, hw⟩; subst w')
      | fail)
    go_ret
    exact RDone.mk HE.out rfl (Out.refl _ _) HH.out.grew
  have HB : Hid (b.length + sumP p.fs ≤ 16777216) := by show _ ≤ _; omega
  have hb3 : b.length + sumP p.fs ≤ 16777216 := HB.out
  have HE : Hid (doAppend p nm b = if p.fell then (11, { p.fail with fs := p.fs.map (appP nm (b.take (b.length / 2))) }) else (0, { p.fail with fs := p.fs.map (appP nm b) })) := by
    show doAppend p nm b = _
    simp only [doAppend, hd]
    rw [if_neg (by simp), if_neg (by simp [h2]), if_neg h3]
  have HG : Hid (Good p) := hg
  have HX2 : Hid (SlX S w (.slice a b.length cap) b) := hx
  have hfl := refFails_any (h.rd.late nm) hg.arm
  have HO1 : Hid (Out S w (w.setCell ⟨B, 3, none⟩ (.string ⟨nm.toArray⟩))) := Out.set h.SB
  have hs0 : (0 : Int) ≤ (sumP p.fs : Int) := by omega
  clear h2 h3 HS hd hx
  cases hfe : p.fell with
  | true =>
    obtain ⟨hh, hhe⟩ : ∃ hh : Nat, b.length / 2 = hh := ⟨_, rfl⟩
    have HQ : Hid (b.length / 2 = hh) := hhe
    have hq : IntKind.i64.wrap ((b.length : Int) / 2) = (hh : Int) := by rw [IntKind.wrap_i64]; omega
    have hq2 : (hh : Int) ≤ (cap : Int) := by omega
    have hql : hh ≤ b.length := by omega
    have hq3 : (0 : Int) ≤ (hh : Int) := by omega
    clear hhe
    have e1 : ({ p with fs := p.fs.map (appP nm []) } : PD).fell = true := hfe
    rw [e1] at hfl
    have HFE : Hid (p.fell = true) := hfe
    clear h hfe e1
    subst hv
    go_enter Tryz.func75, Tryz.ntmps75
    go_wp2_with (first
      | (go_at_call 82; refine hat.mono ?_; rintro r w' ⟨i, rfl, hi, hw⟩; subst w'; obtain ⟨j, rfl, hj, hjn⟩ := at_pos hi HX.out; have hi0 : (0 : Int) ≤ (j : Int) := (by omega); clear hi)
      | (go_at_call 51; refine hsz.mono ?_; rintro r w' ⟨rfl, hw⟩; subst w')
      | (go_at_call 105; refine hfl.mono ?_; rintro r w2 ⟨rfl, hR2, hO2⟩)
      | fail)
    obtain ⟨f, hf⟩ : ∃ f, fs.getD j nilFl = f := ⟨_, rfl⟩
    have HF : Hid (fs.getD j nilFl = f) := hf
    have HJN : Hid ((fs.getD j nilFl).nm = nm) := hjn
    have hBlt := hR2.lt
    obtain ⟨g, gc, hv2, hg1, hg2, hgB, hat2, hfz, ⟨cs, hcs⟩⟩ := hR2.at hj
    have hglt : g < w2.heap.size := (Array.getElem?_eq_some_iff.1 hcs).1
    cases hv2
    rw [hf] at hat2
    obtain ⟨c0, c1, c2, csl⟩ := hat2
    unfold Fl.x at c1 csl
    obtain ⟨m0, -⟩ := hR2.cells
    have hfd : f.dat.length ≤ sumP p.fs := by have h1 := sumF_mem hj; have h2 := sum_says HH.out.rd.sy; rw [hf] at h1; omega
    have hby := bytes_any w2.heap.size (.slice f.a f.dat.length f.c) f.dat w2.drew (csl.below ⟨rfl, rfl, rfl, Nat.le_refl _, fun _ _ => rfl⟩) (Nat.le_refl _) (by omega)
    have hO2S : Out S w w2 := HO1.out.trans hO2 (fun i hi _ => by rw [hi]; exact HH.out.SB)
    have hsl2 : Sl w2.heap.size w2 (.slice a hh cap) (b.take hh) := (HX2.out.out hO2S).sl.front hh hql
    have hi1 : (j : Int) < (fs.length : Int) := by omega
    have hlen : f.dat.length + (b.take hh).length ≤ 1099511627776 := by simp only [List.length_take]; omega
    clear hf hjn hcs hat hsz hfl f0 f1 f2 f3 k0 k1 k2 k3
    go_region_law (first
        | (refine step_append_ow rfl (.tmp 42) (.tmp 47) rfl w2.heap.size w2.heap.size (.slice ba f.dat.length bc) (.slice a hh cap) f.dat (b.take hh) (by simp [Act.eval]) hO3x (by simp [Act.eval]) (hsl2.below hB3x) hlen hB3x.size ?_; intro v4 w4 q1 q2 q3; obtain ⟨da, dc, rfl, -, -⟩ := q1.shape; have hB4 : Below w2.heap.size w2 w4 := hB3x.grown q2 hB3x.size (fun j e => (World.ownsRow.lt hO3x j e).1); have n2 := (hB4.cell (p := ⟨B, 0, none⟩) hBlt).trans m0; have n3 := (hB4.cell (p := ⟨g, j * 3 + 1, none⟩) hglt).trans c1; have n4 : w4.frozen? ⟨g, j * 3 + 1, none⟩ = false := (frozen_below hB4 hglt).trans (hfz _))
        | (go_simp; go_at_call 69; refine hby.mono ?_; rintro e w3 ⟨v3, rfl, hO3, hB3⟩; obtain ⟨ba, bc, rfl, -, -⟩ := hO3.shape; have hO3x : Ow w2.heap.size w3 (.slice ba f.dat.length bc) f.dat := hO3; have hB3x : Below w2.heap.size w2 w3 := ⟨hB3.os, hB3.tape, hB3.output, hB3.size, hB3.block⟩; have n0 := (hB3x.cell (p := ⟨B, 0, none⟩) hBlt).trans m0; have n1 := (hB3x.cell (p := ⟨g, j * 3 + 1, none⟩) hglt).trans c1)
        | fail)
    all_goals (go_wp2; go_ret; obtain ⟨hO5, hR5⟩ := app_done (b := b.take hh) (dat := f.dat ++ b.take hh) HH.out HG.out hj HJN.out hgB hR2 hO2S hB4 q1 (by rw [HF.out]) (by have := HB.out; simp only [List.length_take]; omega); have elen : (f.dat ++ b.take hh).length = f.dat.length + hh := (by simp; omega); rw [elen] at hO5 hR5; exact RDone.mk (by rw [HE.out, HFE.out, HQ.out]; rfl) rfl hO5 hR5)
  | false =>
    have e1 : ({ p with fs := p.fs.map (appP nm []) } : PD).fell = false := hfe
    rw [e1] at hfl
    have HFE : Hid (p.fell = false) := hfe
    clear h hfe e1
    subst hv
    go_enter Tryz.func75, Tryz.ntmps75
    go_wp2_with (first
      | (go_at_call 82; refine hat.mono ?_; rintro r w' ⟨i, rfl, hi, hw⟩; subst w'; obtain ⟨j, rfl, hj, hjn⟩ := at_pos hi HX.out; have hi0 : (0 : Int) ≤ (j : Int) := (by omega); clear hi)
      | (go_at_call 51; refine hsz.mono ?_; rintro r w' ⟨rfl, hw⟩; subst w')
      | (go_at_call 105; refine hfl.mono ?_; rintro r w2 ⟨rfl, hR2, hO2⟩)
      | fail)
    obtain ⟨f, hf⟩ : ∃ f, fs.getD j nilFl = f := ⟨_, rfl⟩
    have HF : Hid (fs.getD j nilFl = f) := hf
    have HJN : Hid ((fs.getD j nilFl).nm = nm) := hjn
    have hBlt := hR2.lt
    obtain ⟨g, gc, hv2, hg1, hg2, hgB, hat2, hfz, ⟨cs, hcs⟩⟩ := hR2.at hj
    have hglt : g < w2.heap.size := (Array.getElem?_eq_some_iff.1 hcs).1
    cases hv2
    rw [hf] at hat2
    obtain ⟨c0, c1, c2, csl⟩ := hat2
    unfold Fl.x at c1 csl
    obtain ⟨m0, -⟩ := hR2.cells
    have hfd : f.dat.length ≤ sumP p.fs := by have h1 := sumF_mem hj; have h2 := sum_says HH.out.rd.sy; rw [hf] at h1; omega
    have hby := bytes_any w2.heap.size (.slice f.a f.dat.length f.c) f.dat w2.drew (csl.below ⟨rfl, rfl, rfl, Nat.le_refl _, fun _ _ => rfl⟩) (Nat.le_refl _) (by omega)
    have hO2S : Out S w w2 := HO1.out.trans hO2 (fun i hi _ => by rw [hi]; exact HH.out.SB)
    have hsl2 : Sl w2.heap.size w2 (.slice a b.length cap) b := (HX2.out.out hO2S).sl
    have hi1 : (j : Int) < (fs.length : Int) := by omega
    have hlen : f.dat.length + b.length ≤ 1099511627776 := by omega
    clear hf hjn hcs hat hsz hfl f0 f1 f2 f3 k0 k1 k2 k3
    go_region_law (first
        | (refine step_append_ow rfl (.tmp 64) (.tmp 65) rfl w2.heap.size w2.heap.size (.slice ba f.dat.length bc) (.slice a b.length cap) f.dat b (by simp [Act.eval]) hO3x (by simp [Act.eval]) (hsl2.below hB3x) hlen hB3x.size ?_; intro v4 w4 q1 q2 q3; obtain ⟨da, dc, rfl, -, -⟩ := q1.shape; have hB4 : Below w2.heap.size w2 w4 := hB3x.grown q2 hB3x.size (fun j e => (World.ownsRow.lt hO3x j e).1); have n2 := (hB4.cell (p := ⟨B, 0, none⟩) hBlt).trans m0; have n3 := (hB4.cell (p := ⟨g, j * 3 + 1, none⟩) hglt).trans c1; have n4 : w4.frozen? ⟨g, j * 3 + 1, none⟩ = false := (frozen_below hB4 hglt).trans (hfz _))
        | (go_simp; go_at_call 69; refine hby.mono ?_; rintro e w3 ⟨v3, rfl, hO3, hB3⟩; obtain ⟨ba, bc, rfl, -, -⟩ := hO3.shape; have hO3x : Ow w2.heap.size w3 (.slice ba f.dat.length bc) f.dat := hO3; have hB3x : Below w2.heap.size w2 w3 := ⟨hB3.os, hB3.tape, hB3.output, hB3.size, hB3.block⟩; have n0 := (hB3x.cell (p := ⟨B, 0, none⟩) hBlt).trans m0; have n1 := (hB3x.cell (p := ⟨g, j * 3 + 1, none⟩) hglt).trans c1)
        | fail)
    all_goals (go_wp2; go_ret; obtain ⟨hO5, hR5⟩ := app_done (b := b) (dat := f.dat ++ b) HH.out HG.out hj HJN.out hgB hR2 hO2S hB4 q1 (by rw [HF.out]) HB.out; rw [List.length_append] at hO5 hR5; exact RDone.mk (by rw [HE.out, HFE.out]; rfl) rfl hO5 hR5)
end Go.Proofs.YtadajbdmlmickaaGreatDoor
namespace Go.Proofs.YtadajbdmlmickaaGreatDoor
open Go.RowKit Go.Shelf
set_option linter.unusedVariables false

theorem RD.drew {N : Nat} {w : World} {B : Nat} {p : PD} {v : Value} {fs : List Fl} {l : List UInt8} (h : RD N w B p v fs l) : RD N w.drew B p v fs l :=
  h.out (X := fun _ => False) (Out.of_below ⟨rfl, rfl, rfl, Nat.le_refl _, fun _ _ => rfl⟩) (fun h => h) (fun _ _ h => h) (fun _ _ _ _ h => h)
/-- Behind a write into the row of files: the files' slices are old, or new. -/
theorem Rdo.row {S : Nat → Prop} {w w' : World} {B g cap : Nat} {p p' : PD} {fs fs' : List Fl} {l : List UInt8} (h : Rdo S w B p (.slice (some ⟨g, 0, none⟩) fs.length cap) fs l) (hO : Out S w w') (rd' : RD 0 w' B p' (.slice (some ⟨g, 0, none⟩) fs.length cap) fs' l) (hf : ∀ f ∈ fs', f ∈ fs ∨ ∀ g, f.x.ownBlock = some g → S g ∨ w.heap.size ≤ g) (hn : p'.fs.map PF.nm = p.fs.map PF.nm) : Rdo (YtadajbdmlmickaaGreatDoor.grew S w w') w' B p' (.slice (some ⟨g, 0, none⟩) fs.length cap) fs' l := by
  refine h.step hO rd' (fun g' hg' => .inl (h.Sv g' hg')) hf ?_
  rcases h.lt0 with e | ⟨f, hf, e⟩
  · exact .inl e
  · right
    have : l ∈ p'.fs.map PF.nm := by rw [hn, ← e]; exact List.mem_map_of_mem hf
    obtain ⟨q, hq, e2⟩ := List.mem_map.1 this
    exact ⟨q, hq, e2⟩
theorem map_nm {G : PF → PF} (h : ∀ q, (G q).nm = q.nm) (ps : List PF) : (ps.map G).map PF.nm = ps.map PF.nm := by
  rw [List.map_map]
  exact List.map_congr_left fun q _ => h q

set_option maxRecDepth 100000 in
set_option maxHeartbeats 8000000 in
theorem refSync {S : Nat → Prop} {w : World} {B : Nat} {p : PD} (h : RDs S w B p) (hg : Good p) (nm : List UInt8) :
    Calls Tryz.prog 76 #[.pointer (some ⟨B, 0, none⟩), .string ⟨nm.toArray⟩] w fun r w' => RDone S w B (doSync p nm) r w' := by
  obtain ⟨v, fs, l, h⟩ := h
  obtain ⟨k0, k1, k2, k3, f0, f1, f2, f3⟩ := h.rd.cells
  have HH : Hid (Rdo S w B p v fs l) := h
  have HS := says_nm h.rd.sy nm
  obtain ⟨va, vc, hv⟩ := row_shape h.rd.fi.row
  have hat := refAt_any h.rd nm
  have hsm := h.rd.sm
  cases hd : p.dn with
  | true =>
    have HE : Hid (doSync p nm = (11, p)) := by show doSync p nm = _; simp [doSync, hd]
    rw [hd] at k2
    clear h HS hd
    subst hv
    go_enter Tryz.func76, Tryz.ntmps76
    go_wp2
    go_ret
    exact RDone.mk HE.out rfl (Out.refl _ _) HH.out.grew
  | false =>
  rw [hd] at k2
  by_cases h2 : (lookP nm p.fs).isSome = true
  case neg =>
    have hnone : lookP nm p.fs = none := by simpa using h2
    have HE : Hid (doSync p nm = (8, p)) := by show doSync p nm = _; simp [doSync, hd, hnone]
    have HX : Hid (∀ f ∈ fs, f.nm ≠ nm) := fun f hf e => h2 (HS.1 ⟨f, hf, e⟩)
    clear h h2 HS hd hnone
    subst hv
    go_enter Tryz.func76, Tryz.ntmps76
    go_wp2_with (first
      | (go_at_call 82; refine hat.mono ?_; rintro r w' ⟨i, rfl, hi, hw⟩; subst w'; have hi0 : i < (0 : Int) := at_neg hi HX.out; clear hi)
      | fail)
    go_ret
    exact RDone.mk HE.out rfl (Out.refl _ _) HH.out.grew
  have HX : Hid (∃ f ∈ fs, f.nm = nm) := HS.2 h2
  have HE : Hid (doSync p nm = if p.fell then (11, p.fail) else (0, { p.fail with fs := p.fs.map (syncP nm) })) := by
    show doSync p nm = _
    simp only [doSync, hd]
    rw [if_neg (by simp), if_neg (by simp [h2])]
  have HG : Hid (Good p) := hg
  have hfl := refFails_any h.rd hg.arm
  have HP : Hid (p.fail.fs = p.fs) := pd_fail_fs p
  clear h2 HS hd
  cases hfe : p.fell with
  | true =>
    rw [hfe] at hfl
    have HFE : Hid (p.fell = true) := hfe
    clear h hfe
    subst hv
    go_enter Tryz.func76, Tryz.ntmps76
    go_wp2_with (first
      | (go_at_call 82; refine hat.mono ?_; rintro r w' ⟨i, rfl, hi, hw⟩; subst w'; obtain ⟨j, rfl, hj, hjn⟩ := at_pos hi HX.out; have hi0 : (0 : Int) ≤ (j : Int) := (by omega); have hi1 : (j : Int) < (fs.length : Int) := (by omega); clear hi)
      | (go_at_call 105; refine hfl.mono ?_; rintro r w1 ⟨rfl, hR1, hO1⟩)
      | fail)
    go_ret
    exact RDone.mk (by rw [HE.out, HFE.out]; rfl) rfl (hO1.fit (X := S) HH.out.SB) (HH.out.step (hO1.fit (X := S) HH.out.SB) hR1 (fun g hg => .inl (HH.out.Sv g hg)) (fun f hf => .inl hf) (by rw [HP.out]; exact HH.out.lt0))
  | false =>
    rw [hfe] at hfl
    have HFE : Hid (p.fell = false) := hfe
    clear h hfe
    subst hv
    go_enter Tryz.func76, Tryz.ntmps76
    go_wp2_with (first
      | (go_at_call 82; refine hat.mono ?_; rintro r w' ⟨i, rfl, hi, hw⟩; subst w'; obtain ⟨j, rfl, hj, hjn⟩ := at_pos hi HX.out; have hi0 : (0 : Int) ≤ (j : Int) := (by omega); have hi1 : (j : Int) < (fs.length : Int) := (by omega); clear hi)
      | (go_at_call 105; refine hfl.mono ?_; rintro r w1 ⟨rfl, hR1, hO1⟩)
      | fail)
    obtain ⟨f, hf⟩ : ∃ f, fs.getD j nilFl = f := ⟨_, rfl⟩
    have HF : Hid (fs.getD j nilFl = f) := hf
    have HJN : Hid ((fs.getD j nilFl).nm = nm) := hjn
    obtain ⟨g, gc, hv2, hg1, hg2, hgB, hat2, hfz, ⟨cs, hcs⟩⟩ := hR1.at hj
    cases hv2
    rw [hf] at hat2
    obtain ⟨c0, c1, c2, csl⟩ := hat2
    unfold Fl.x at c1 csl
    obtain ⟨m0, -⟩ := hR1.cells
    have z2 := hfz (j * 3 + 2)
    have hA : (⟨g, j * 3 + 1, none⟩ : Addr) ≠ ⟨g, j * 3 + 2, none⟩ := by simp
    have hA2 : ¬ (j * 3 + 1 = j * 3 + 2) := by omega
    have hA3 : ¬ (j * 3 + 2 = j * 3 + 1) := by omega
    clear hf hjn hcs hat hfl f0 f1 f2 f3 k0 k1 k2 k3
    go_region
    go_wp2
    go_ret
    have hne : p.fail.fs.Pairwise (fun f g => f.nm ≠ g.nm) := by rw [HP.out]; exact rise_ne HG.out.rise
    have hR5 := RD.put2 (nm := nm) (s := (f.dat.length : Int)) hR1.drew hgB hne hj HJN.out (syncP nm) (fun q hq => by unfold syncP; rw [if_neg (by simpa using hq)]) (fun q hq e => by
      have hq1 : q.nm = nm := by simp only [Fl.says, PF.says, Prod.mk.injEq] at e; rw [e.1, HJN.out]
      simp only [Fl.says, PF.says, Prod.mk.injEq] at e
      unfold syncP
      rw [if_pos (by simpa using hq1)]
      simp only [PF.says, Prod.mk.injEq]
      rw [e.2.1, HF.out]
      exact ⟨hq1, rfl, rfl⟩) (fun q => by unfold syncP; split <;> exact ⟨rfl, rfl⟩)
    rw [HP.out] at hR5
    have hO5 : Out S w (w1.drew.setCell ⟨g, j * 3 + 2, none⟩ (.int .i64 (f.dat.length : Int))) := ((hO1.fit (X := S) HH.out.SB).trans (Out.of_below (X := S) (b := w1.drew) ⟨rfl, rfl, rfl, Nat.le_refl _, fun _ _ => rfl⟩) (fun i hi _ => hi)).trans (Out.set (X := S) (HH.out.Sv g rfl)) (fun i hi _ => hi)
    refine RDone.mk (by rw [HE.out, HFE.out]; rfl) rfl hO5 (HH.out.row hO5 hR5 (fun x hx => ?_) (map_nm (fun q => by unfold syncP; split <;> rfl) _))
    rcases mem_set_fl hx with rfl | hx
    · exact .inr (fun g' hg' => .inl (HH.out.Sf _ (getD_mem hj) g' hg'))
    · exact .inl hx
end Go.Proofs.YtadajbdmlmickaaGreatDoor
