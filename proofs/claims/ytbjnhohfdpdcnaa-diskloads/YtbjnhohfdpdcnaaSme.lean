/-
  Same: what was answered is written over; nothing of the disks' turns.
-/
import Derived.Test.YtbjnhohfdpdcnaaRe8
namespace Go.Proofs.Ytbjnhohfdpdcnaa
open Go.RowKit Go.Shelf
set_option linter.unusedVariables false

theorem row_blk {w : World} {N s n : Nat} {e : TypeId} {v : Value} {xs : List Value} (h : w.ownsRow N e s v n xs) {g : Nat} (hg : v.ownBlock = some g) : ∃ cs, w.heap[g]? = some (.cells cs e (0, 0)) := by
  rcases h.2 with ⟨rfl, _⟩ | ⟨g', cap, cur, rfl, _, hb, _⟩
  · simp [Value.ownBlock] at hg
  · simp [Value.ownBlock] at hg
    subst hg
    exact ⟨_, hb⟩
theorem row_ty {w : World} {N M s s' n n' : Nat} {e t : TypeId} {v u : Value} {xs ys : List Value} (h : w.ownsRow N e s v n xs) (h' : w.ownsRow M t s' u n' ys) (ht : e ≠ t) : ∀ g, v.ownBlock = some g → u.ownBlock ≠ some g := fun g hg hu => by
  obtain ⟨cs, h1⟩ := row_blk h hg
  obtain ⟨cs', h2⟩ := row_blk h' hu
  rw [h1] at h2
  simp at h2
  exact ht h2.2
structure LI (N : Nat) (w0 w : World) (va : Option Addr) (n vc : Nat) (tv : Value) (fl : List Fl) (ts : List (List UInt8)) : Prop where
  fi : FilesIn N w (.slice va n vc) fl
  pw : fl.Pairwise ApF
  ln : fl.length = n
  tx : TextsIn N w tv ts
  tn : ts.length = n
  be : Below N w0 w
  hN : N ≤ w0.heap.size
theorem LI.sz {N : Nat} {w0 w : World} {va : Option Addr} {n vc : Nat} {tv : Value} {fl : List Fl} {ts : List (List UInt8)} (h : LI N w0 w va n vc tv fl ts) : N ≤ w.heap.size := Nat.le_trans h.hN h.be.size
theorem mem_set_ne {fl : List Fl} {i : Nat} {f x : Fl} (h : x ∈ fl.set i f) : x = f ∨ ∃ j, j ≠ i ∧ fl[j]? = some x := by
  obtain ⟨j, hj⟩ := List.mem_iff_getElem?.1 h
  rw [List.getElem?_set] at hj
  split at hj
  · rename_i e
    split at hj
    · simp at hj; exact .inl hj.symm
    · cases hj
  · rename_i e
    exact .inr ⟨j, fun e2 => e e2.symm, hj⟩
theorem ap_at {fl : List Fl} (h : fl.Pairwise ApF) {i j : Nat} (hne : j ≠ i) {f x : Fl} (hf : fl[i]? = some f) (hx : fl[j]? = some x) : ∀ b, x.x.ownBlock = some b → f.x.ownBlock ≠ some b := by
  rw [List.pairwise_iff_getElem] at h
  obtain ⟨hi, e1⟩ := List.getElem?_eq_some_iff.1 hf
  obtain ⟨hj, e2⟩ := List.getElem?_eq_some_iff.1 hx
  intro b hb he
  rcases Nat.lt_or_ge i j with hl | hl
  · have := h i j hi hj hl
    rw [e1, e2] at this
    exact this b he hb
  · have := h j i hj hi (by omega)
    rw [e1, e2] at this
    exact this b hb he
theorem getD_some {fl : List Fl} {i : Nat} (hi : i < fl.length) : fl[i]? = some (fl.getD i nilFl) := by
  rw [List.getD_eq_getElem?_getD, List.getElem?_eq_getElem hi]; rfl
theorem ap_set {fl : List Fl} (h : fl.Pairwise ApF) {i : Nat} (hi : i < fl.length) (f : Fl) (hf : ∀ b, f.x.ownBlock = some b → (fl.getD i nilFl).x.ownBlock = some b ∨ ∀ x ∈ fl, x.x.ownBlock ≠ some b) : (fl.set i f).Pairwise ApF := by
  rw [List.pairwise_iff_getElem]
  intro a c ha hc hac
  simp only [List.length_set] at ha hc
  have hgi := getD_some hi
  rw [List.getElem_set, List.getElem_set]
  by_cases e1 : i = a
  · have e2 : i ≠ c := by omega
    rw [if_pos e1, if_neg e2]
    intro b hb hcb
    rcases hf b hb with h9 | h9
    · exact ap_at h (fun e => e2 e.symm) hgi (List.getElem?_eq_getElem hc) b hcb h9
    · exact h9 _ (List.getElem_mem hc) hcb
  · rw [if_neg e1]
    by_cases e2 : i = c
    · rw [if_pos e2]
      intro b hb hcb
      rcases hf b hcb with h9 | h9
      · exact ap_at h (fun e => e1 e.symm) hgi (List.getElem?_eq_getElem ha) b hb h9
      · exact h9 _ (List.getElem_mem ha) hb
    · rw [if_neg e2]
      exact (List.pairwise_iff_getElem.1 h) a c ha hc hac
theorem LI.below {N : Nat} {w0 w w' : World} {va : Option Addr} {n vc : Nat} {tv : Value} {fl : List Fl} {ts : List (List UInt8)} (h : LI N w0 w va n vc tv fl ts) (hB : Below w.heap.size w w') : LI N w0 w' va n vc tv fl ts :=
  ⟨⟨row_below h.fi.row hB, fun f hf => (h.fi.own f hf).below hB (Nat.le_refl _)⟩, h.pw, h.ln, row_below h.tx hB, h.tn, h.be.trans (hB.mono h.sz), h.hN⟩
/-- A byte of a file's is written over. -/
theorem LI.poke {N : Nat} {w0 w : World} {va : Option Addr} {n vc i k b : Nat} {tv : Value} {fl : List Fl} {ts : List (List UInt8)} {f : Fl} (h : LI N w0 w va n vc tv fl ts) (hi : i < n) (hf : fl.getD i nilFl = f) (ha : f.a = some ⟨b, 0, none⟩) : LI N w0 (w.setCell ⟨b, k, none⟩ (.int .u8 97)) va n vc tv (fl.set i ⟨f.nm, f.a, f.c, f.dat.set k 97, f.syn⟩) ts := by
  have hil : i < fl.length := by rw [h.ln]; exact hi
  have hgi := getD_some hil
  rw [hf] at hgi
  have hfm : f ∈ fl := List.mem_of_getElem? hgi
  have hO := h.fi.own f hfm
  have hfb : f.x.ownBlock = some b := by unfold Fl.x; rw [ha]; rfl
  have hO' : w.ownsRow N 5 1 (.slice (some ⟨b, 0, none⟩) f.dat.length f.c) f.dat.length (f.dat.map encB) := by have h9 := hO; unfold Fl.x at h9; rw [ha] at h9; exact h9
  have hs := World.ownsRow.stored hO' k (.int .u8 97)
  have hbN := (World.ownsRow.lt hO b hfb).1
  refine ⟨⟨?_, fun x hx => ?_⟩, ap_set h.pw hil _ (fun b' hb' => .inl ?_), by rw [List.length_set]; exact h.ln, ?_, h.tn, h.be.grown hs.2 h.sz (fun j hj => by cases hj; exact hbN), h.hN⟩
  · have e : cellsOf (fl.set i ⟨f.nm, f.a, f.c, f.dat.set k 97, f.syn⟩) = cellsOf fl := by
      have hx : (⟨f.nm, f.a, f.c, f.dat.set k 97, f.syn⟩ : Fl).cells = f.cells := by simp [Fl.cells, Fl.x]
      have e2 : (fl.set i ⟨f.nm, f.a, f.c, f.dat.set k 97, f.syn⟩).map Fl.cells = fl.map Fl.cells := by
        rw [List.map_set, hx]
        refine List.ext_getElem? fun j => ?_
        rw [List.getElem?_set]
        split
        · rename_i e3
          subst e3
          split
          · rw [List.getElem?_map, hgi]; rfl
          · rename_i hlt; simp at hlt; omega
        · rfl
      unfold cellsOf
      rw [e2]
    rw [e, List.length_set]
    exact World.ownsRow.kept h.fi.row hs.2 (by
      cases hv : (Value.slice va n vc).ownBlock with
      | none => exact .inl rfl
      | some j => exact .inr (fun e => row_ty h.fi.row hO (by decide) j hv (by rw [hfb, ← e])))
  · rcases mem_set_ne hx with rfl | ⟨j, hj, hxj⟩
    · show World.ownsRow _ _ _ _ _ _ _
      unfold Fl.x
      simp only [List.length_set]
      rw [ha, List.map_set]
      exact hs.1
    · have hxm := List.mem_of_getElem? hxj
      refine (h.fi.own x hxm).kept hs.2 ?_
      cases hv : x.x.ownBlock with
      | none => exact .inl rfl
      | some j' => exact .inr (fun e => ap_at h.pw hj hgi hxj j' hv (by rw [hfb, ← e]))
  · rw [hf]
    unfold Fl.x at hb' ⊢
    rw [ha] at hb' ⊢
    exact hb'
  · refine World.ownsRow.kept h.tx hs.2 ?_
    cases hv : tv.ownBlock with
    | none => exact .inl rfl
    | some j => exact .inr (fun e => row_ty h.tx hO (by decide) j hv (by rw [hfb, ← e]))
/-- A file's bytes are others, behind an append. -/
theorem LI.app {N : Nat} {w0 w w5 : World} {n vc i g : Nat} {tv : Value} {fl : List Fl} {ts : List (List UInt8)} {f : Fl} {a5 : Option Addr} {c5 : Nat} {dat : List UInt8} (h : LI N w0 w (some ⟨g, 0, none⟩) n vc tv fl ts) (hi : i < n) (hf : fl.getD i nilFl = f) (hO5 : Ow N w5 (.slice a5 dat.length c5) dat) (hg5 : w.grownBy w5 f.x.ownBlock) (hv5 : (Value.slice a5 dat.length c5).ownBlock = f.x.ownBlock ∨ (Value.slice a5 dat.length c5).ownBlock = some w.heap.size) :
    LI N w0 (w5.setCell ⟨g, i * 3 + 1, none⟩ (.slice a5 dat.length c5)) (some ⟨g, 0, none⟩) n vc tv (fl.set i ⟨f.nm, a5, c5, dat, f.syn⟩) ts := by
  have hil : i < fl.length := by rw [h.ln]; exact hi
  have hgi := getD_some hil
  rw [hf] at hgi
  have hfm : f ∈ fl := List.mem_of_getElem? hgi
  have hO := h.fi.own f hfm
  have hrow := h.fi.row
  have hrow5 : w5.ownsRow N 37 3 (.slice (some ⟨g, 0, none⟩) n vc) fl.length (cellsOf fl) := World.ownsRow.kept hrow hg5 (by
    cases hv : f.x.ownBlock with
    | none => exact .inr (by simp [Value.ownBlock])
    | some j => exact .inr (fun e => row_ty hrow hO (by decide) j e hv))
  rw [h.ln] at hrow5
  have hs := World.ownsRow.stored hrow5 (i * 3 + 1) (.slice a5 dat.length c5)
  have hgN : N ≤ g := (World.ownsRow.lt hrow5 g rfl).1
  refine ⟨⟨?_, fun x hx => ?_⟩, ap_set h.pw hil _ (fun b' hb' => ?_), by rw [List.length_set]; exact h.ln, ?_, h.tn, ?_, h.hN⟩
  · have e := cellsOf_set1 (j := i) hil a5 c5 dat
    rw [hf] at e
    rw [e, List.length_set, h.ln]
    exact hs.1
  · have hx5 : Ow N w5 x.x x.dat := by
      rcases mem_set_ne hx with rfl | ⟨j, hj, hxj⟩
      · exact hO5
      · have hxm := List.mem_of_getElem? hxj
        refine (h.fi.own x hxm).kept hg5 ?_
        cases hv : x.x.ownBlock with
        | none => exact .inl rfl
        | some j' => exact .inr (fun e => ap_at h.pw hj hgi hxj j' hv e.symm)
    refine hx5.kept hs.2 ?_
    cases hv : x.x.ownBlock with
    | none => exact .inl rfl
    | some j' => exact .inr (fun e => row_ty hx5 hrow5 (by decide) j' hv (by show some g = some j'; rw [← e]))
  · rcases hv5 with e | e
    · rw [hf]; exact .inl (by rw [← e]; exact hb')
    · refine .inr (fun x hx hxb => ?_)
      have h1 : some w.heap.size = some b' := by rw [← e]; exact hb'
      cases h1
      have := (World.ownsRow.lt (h.fi.own x hx) _ hxb).2
      omega
  · have ht5 : w5.ownsRow N 9 1 tv ts.length (ts.map encStr) := World.ownsRow.kept h.tx hg5 (by
      cases hv : tv.ownBlock with
      | none => exact .inl rfl
      | some j => exact .inr (fun e => row_ty h.tx hO (by decide) j hv e.symm))
    refine World.ownsRow.kept ht5 hs.2 ?_
    cases hv : tv.ownBlock with
    | none => exact .inl rfl
    | some j => exact .inr (fun e => row_ty ht5 hrow5 (by decide) j hv (by show some g = some j; rw [← e]))
  · exact (h.be.grown hg5 h.sz (fun j hj => (World.ownsRow.lt hO j hj).1)).grown hs.2 (Nat.le_trans h.sz hg5.size) (fun j hj => by cases hj; exact hgN)
/-- A name is written over. -/
theorem LI.over {N : Nat} {w0 w : World} {va : Option Addr} {n vc i tb tc : Nat} {fl : List Fl} {ts : List (List UInt8)} (h : LI N w0 w va n vc (.slice (some ⟨tb, 0, none⟩) n tc) fl ts) (x : List UInt8) : LI N w0 (w.setCell ⟨tb, i, none⟩ (.string ⟨x.toArray⟩)) va n vc (.slice (some ⟨tb, 0, none⟩) n tc) fl (ts.set i x) := by
  have htx : w.ownsRow N 9 1 (.slice (some ⟨tb, 0, none⟩) n tc) n (ts.map encStr) := by have h9 := h.tx; unfold TextsIn at h9; rw [h.tn] at h9; exact h9
  have hs := World.ownsRow.stored htx i (.string ⟨x.toArray⟩)
  refine ⟨⟨World.ownsRow.kept h.fi.row hs.2 ?_, fun f hf => (h.fi.own f hf).kept hs.2 ?_⟩, h.pw, h.ln, ?_, by rw [List.length_set]; exact h.tn, h.be.grown hs.2 h.sz (fun j hj => by cases hj; exact (World.ownsRow.lt htx tb rfl).1), h.hN⟩
  · cases hv : (Value.slice va n vc).ownBlock with
    | none => exact .inl rfl
    | some j => exact .inr (fun e => row_ty h.fi.row htx (by decide) j hv (by show some tb = some j; rw [← e]))
  · cases hv : f.x.ownBlock with
    | none => exact .inl rfl
    | some j => exact .inr (fun e => row_ty (h.fi.own f hf) htx (by decide) j hv (by show some tb = some j; rw [← e]))
  · unfold TextsIn
    rw [List.length_set, h.tn, List.map_set]
    exact hs.1
end Go.Proofs.Ytbjnhohfdpdcnaa
