/-
  The document's reader, beside other things: which block its calls turn; count and form.
-/
import Derived.Test.YtglhjgfaelfleaaGreatRf
import Derived.Test.YtglhjgfaelfleaaGreatSd
import Derived.Test.YtglhjgfaelfleaaGreatDe0
namespace Go.Proofs.YtglhjgfaelfleaaGreat
open Go.RowKit Go.Shelf
set_option linter.unusedVariables false

/-- What a call of the document's reader leaves. -/
def RqR (w0 W : World) (Q : Nat) (v : Value) (l : Bs) (u : Value) (s : Nat × Nat) (e : Ending) (w' : World) : Prop := e = .returned u ∧ Rq w0 w' Q v l s.1 s.2 ∧ Out (fun i => i = Q) W w'

theorem rxInt_any {w0 w : World} {Q : Nat} {v : Value} {l : Bs} {s : Nat × Nat} (h : Rq w0 w Q v l s.1 s.2) :
    Calls Tryz.prog 27 #[.pointer (some ⟨Q, 0, none⟩)] w fun r w' => RqR w0 w Q v l (.int .i64 ((rdN l s).1 : Int)) (rdN l s).2 r w' := by
  have hle := rdN_le l s h.le
  refine (qInt_any _ Q v l s.1 s.2 w h.rrd h.len h.le).mono ?_
  rintro r w' ⟨rfl, h', hg⟩
  exact ⟨rfl, h.turn h' hg hle, Out.grown hg (fun j e => by cases e; rfl)⟩
theorem rxText_any {w0 w : World} {Q : Nat} {v : Value} {l : Bs} {s : Nat × Nat} (h : Rq w0 w Q v l s.1 s.2) (most : Int) :
    Calls Tryz.prog 25 #[.pointer (some ⟨Q, 0, none⟩), .int .i64 most] w fun r w' => RqR w0 w Q v l (.string ⟨(rdB l most s).1.toArray⟩) (rdB l most s).2 r w' := by
  have hle := rdB_le l most s h.le
  refine (qText_any _ Q v l s.1 s.2 most w h.rrd h.len h.le).mono ?_
  rintro r w' ⟨rfl, h', hg⟩
  exact ⟨rfl, h.turn h' hg hle, Out.grown hg (fun j e => by cases e; rfl)⟩
theorem rxDone_any {w0 w : World} {Q : Nat} {v : Value} {l : Bs} {s : Nat × Nat} (h : Rq w0 w Q v l s.1 s.2) :
    Calls Tryz.prog 28 #[.pointer (some ⟨Q, 0, none⟩)] w fun r w' => r = .returned (.int .i64 (doneE l s.1 s.2 : Int)) ∧ Below w.heap.size w w' := rqDone_any h
theorem Rq.err {w0 w : World} {Q : Nat} {v : Value} {l : Bs} {p e : Nat} (h : Rq w0 w Q v l p e) (c : Nat) : Rq w0 (w.setCell ⟨Q, 2, none⟩ (.int .i64 (c : Int))) Q v l p c :=
  h.turn (h.rrd.err c) (grown_set _ _ _ _) h.le

set_option maxRecDepth 100000 in
set_option maxHeartbeats 800000 in
theorem rform_any {w0 w : World} {Q : Nat} {v : Value} {l : Bs} {s : Nat × Nat} (h : Rq w0 w Q v l s.1 s.2) (b : Bool) :
    Calls Tryz.prog 26 #[.pointer (some ⟨Q, 0, none⟩), .bool b] w fun r w' => RqR w0 w Q v l (.tuple #[]) (frmD b 4 s) r w' := by
  obtain ⟨k0, k1, k2, f1, f2⟩ := h.rrd.cells
  have H0 : Hid (Rq w0 w Q v l s.1 s.2) := h
  have H1 : Hid (Rq w0 (w.setCell ⟨Q, 2, none⟩ (.int .i64 ((4 : Nat) : Int))) Q v l s.1 4) := h.err 4
  clear h
  obtain ⟨p, e⟩ := s
  dsimp only at k1 k2 H0 H1
  by_cases he : e = 0
  · subst he
    cases b with
    | true =>
      go_enter Tryz.func26, Tryz.ntmps26
      go_wp2
      go_returns
      exact ⟨rfl, H0.out, Out.refl _ _⟩
    | false =>
      go_enter Tryz.func26, Tryz.ntmps26
      go_wp2
      go_returns
      exact ⟨rfl, H1.out, Out.set rfl⟩
  · have he' : ((e : Int) == 0) = false := by simpa using he
    have e2 : frmD b 4 (p, e) = (p, e) := frmD_err he
    rw [e2]
    go_enter Tryz.func26, Tryz.ntmps26
    go_wp2
    go_returns
    exact ⟨rfl, H0.out, Out.refl _ _⟩

set_option maxRecDepth 100000 in
set_option maxHeartbeats 800000 in
theorem rcount_any {w0 w : World} {Q : Nat} {v : Value} {l : Bs} {s : Nat × Nat} (h : Rq w0 w Q v l s.1 s.2) (most : Nat) :
    Calls Tryz.prog 24 #[.pointer (some ⟨Q, 0, none⟩), .int .i64 (most : Int)] w fun r w' => RqR w0 w Q v l (.int .i64 ((cntD l most s).1 : Int)) (cntD l most s).2 r w' := by
  have CI := rxInt_any h
  unfold cntD
  dsimp only
  generalize rdN l s = r at *
  obtain ⟨n, p, e⟩ := r
  dsimp only at CI ⊢
  clear h
  go_enter Tryz.func24, Tryz.ntmps24
  go_wp2_with fail
  refine CI.mono ?_
  rintro r w1 ⟨rfl, h1, hO1⟩
  clear CI
  obtain ⟨k0, k1, k2, f1, f2⟩ := h1.rrd.cells
  have H0 : Hid (Rq w0 w1 Q v l p e) := h1
  have H1 : Hid (Rq w0 (w1.setCell ⟨Q, 2, none⟩ (.int .i64 ((23 : Nat) : Int))) Q v l p 23) := h1.err 23
  have HO : Hid (Out (fun i => i = Q) w w1) := hO1
  clear h1 hO1
  dsimp only at k1 k2
  by_cases he : e = 0
  · subst he
    by_cases hn : n ≤ most
    · have hn' : decide ((most : Int) < (n : Int)) = false := by simp; omega
      have E2 : Hid (frmD (decide (n ≤ most)) 23 (p, 0) = (p, 0)) := by show frmD (decide (n ≤ most)) 23 (p, 0) = (p, 0); unfold frmD; rw [if_neg (by simp [hn])]
      go_wp2
      go_returns
      exact ⟨rfl, by rw [E2.out]; exact H0.out, HO.out⟩
    · have hn' : (most : Int) < (n : Int) := by omega
      have E2 : Hid (frmD (decide (n ≤ most)) 23 (p, 0) = (p, 23)) := by show frmD (decide (n ≤ most)) 23 (p, 0) = (p, 23); unfold frmD; rw [if_pos (by simp [hn])]
      go_wp2
      go_returns
      exact ⟨rfl, by rw [E2.out]; exact H1.out, HO.out.put rfl⟩
  · have he' : ((e : Int) == 0) = false := by simpa using he
    have E2 : Hid (frmD (decide (n ≤ most)) 23 (p, e) = (p, e)) := by show frmD (decide (n ≤ most)) 23 (p, e) = (p, e); exact frmD_err he
    go_wp2
    go_returns
    exact ⟨rfl, by rw [E2.out]; exact H0.out, HO.out⟩

theorem Rq.kept {w0 w w' : World} {Q : Nat} {v : Value} {l : Bs} {p e : Nat} {row : Option Nat} (h : Rq w0 w Q v l p e) (hg : w.grownBy w' row) (hne : row ≠ some Q) (hrow : ∀ k, row = some k → w0.heap.size ≤ k) : Rq w0 w' Q v l p e :=
  ⟨h.rrd.kept hg hne hrow, h.bel.grown hg h.bel.size hrow, h.len, h.le⟩

/-- The document's reader at Q, and at D the store that it fills. -/
structure Db (w0 W : World) (Q D : Nat) (v : Value) (l : Bs) (s : Nat × Nat) (vp vs : Value) (K : KV) : Prop where
  rq : Rq w0 W Q v l s.1 s.2
  hd : W.heap[D]? = some (.cells #[vp, vs] 63 (0, 0))
  rp : Ro RQ w0.heap.size W vp K.ps
  rs : Ro RT w0.heap.size W vs K.ss
  low : w0.heap.size ≤ D
theorem Db.lt {w0 W : World} {Q D : Nat} {v : Value} {l : Bs} {s : Nat × Nat} {vp vs : Value} {K : KV} (h : Db w0 W Q D v l s vp vs K) : D < W.heap.size := (Array.getElem?_eq_some_iff.1 h.hd).1
theorem Db.ne {w0 W : World} {Q D : Nat} {v : Value} {l : Bs} {s : Nat × Nat} {vp vs : Value} {K : KV} (h : Db w0 W Q D v l s vp vs K) : D ≠ Q := by
  intro e
  have h1 := h.hd
  have h2 := h.rq.rrd.at0
  rw [e, h2] at h1
  simp at h1
theorem Db.apP {w0 W : World} {Q D : Nat} {v : Value} {l : Bs} {s : Nat × Nat} {vp vs : Value} {K : KV} (h : Db w0 W Q D v l s vp vs K) : vp.ownBlock ≠ some Q ∧ vp.ownBlock ≠ some D := ⟨h.rp.apart h.rq.rrd.at0 (by decide), h.rp.apart h.hd (by decide)⟩
theorem Db.apS {w0 W : World} {Q D : Nat} {v : Value} {l : Bs} {s : Nat × Nat} {vp vs : Value} {K : KV} (h : Db w0 W Q D v l s vp vs K) : vs.ownBlock ≠ some Q ∧ vs.ownBlock ≠ some D := ⟨h.rs.apart h.rq.rrd.at0 (by decide), h.rs.apart h.hd (by decide)⟩
theorem Db.rows {w0 W : World} {Q D : Nat} {v : Value} {l : Bs} {s : Nat × Nat} {vp vs : Value} {K : KV} (h : Db w0 W Q D v l s vp vs K) {g : Nat} (hp : vp.ownBlock = some g) : vs.ownBlock ≠ some g := by
  rcases h.rp.2 with ⟨e, _⟩ | ⟨g', cap, cur, e, _, hgb, _⟩
  · rw [e] at hp; cases hp
  · rw [e] at hp
    cases hp
    exact h.rs.apart hgb (by decide)
theorem Db.go {w0 W W' : World} {Q D : Nat} {v : Value} {l : Bs} {s s' : Nat × Nat} {vp vs : Value} {K : KV} (h : Db w0 W Q D v l s vp vs K) (h' : Rq w0 W' Q v l s'.1 s'.2) (hO : Out (fun i => i = Q) W W') : Db w0 W' Q D v l s' vp vs K :=
  ⟨h', (hO.block D h.lt h.ne).trans h.hd, h.rp.out hO (fun g hg e => by subst e; exact h.apP.1 hg), h.rs.out hO (fun g hg e => by subst e; exact h.apS.1 hg), h.low⟩
theorem Db.below {w0 W W' : World} {Q D : Nat} {v : Value} {l : Bs} {s : Nat × Nat} {vp vs : Value} {K : KV} (h : Db w0 W Q D v l s vp vs K) (hB : Below W.heap.size W W') : Db w0 W' Q D v l s vp vs K :=
  h.go (h.rq.mono hB) (Out.of_below hB)
theorem Db.cells {w0 W : World} {Q D : Nat} {v : Value} {l : Bs} {s : Nat × Nat} {vp vs : Value} {K : KV} (h : Db w0 W Q D v l s vp vs K) : W.cell? ⟨D, 0, none⟩ = some vp ∧ W.cell? ⟨D, 1, none⟩ = some vs ∧ W.cell? ⟨Q, 2, none⟩ = some (.int .i64 (s.2 : Int)) ∧ W.frozen? ⟨D, 0, none⟩ = false ∧ W.frozen? ⟨D, 1, none⟩ = false := by
  refine ⟨?_, ?_, h.rq.rrd.cells.2.2.1, ?_, ?_⟩
  · simp only [World.cell?, h.hd]; rfl
  · simp only [World.cell?, h.hd]; rfl
  · simp [World.frozen?, h.hd]
  · simp [World.frozen?, h.hd]
/-- A pair more. -/
theorem Db.pushP {w0 W V W2 : World} {Q D : Nat} {v : Value} {l : Bs} {s : Nat × Nat} {vp vs vp' : Value} {K : KV} {x : Bs × Bs} (h : Db w0 W Q D v l s vp vs K) (hV : Below W.heap.size W V) (hg : V.grownBy W2 vp.ownBlock) (hR : Ro RQ w0.heap.size W2 vp' (K.ps ++ [x])) : Db w0 (W2.setCell ⟨D, 0, none⟩ vp') Q D v l s vp' vs ⟨K.ps ++ [x], K.ss⟩ := by
  have h1 := h.below hV
  have hrow : ∀ k, vp.ownBlock = some k → w0.heap.size ≤ k := fun k e => (h1.rp.lt e).1
  have hD2 : W2.heap[D]? = some (.cells #[vp, vs] 63 (0, 0)) := (hg.block D h1.lt (fun e => h1.apP.2 e.symm)).trans h1.hd
  have hDl : D < W2.heap.size := (Array.getElem?_eq_some_iff.1 hD2).1
  have hq2 := h1.rq.kept hg h1.apP.1 hrow
  refine ⟨hq2.kept (grown_set W2 D 0 vp') (by simpa using h1.ne) (fun k e => by cases e; exact h.low), ?_, hR.kept (grown_set W2 D 0 vp') (.inr (hR.apart hD2 (by decide))), ?_, h.low⟩
  · show (W2.heap.modify D _)[D]? = _
    rw [Array.getElem?_eq_getElem (by rw [Array.size_modify]; exact hDl), Array.getElem_modify_self, (Array.getElem?_eq_some_iff.1 hD2).2]
    rfl
  · have hs2 : Ro RT w0.heap.size W2 vs K.ss := h1.rs.kept hg (by
      cases q : vp.ownBlock with
      | none => cases vs.ownBlock <;> simp
      | some g => exact .inr (h1.rows q))
    exact hs2.kept (grown_set W2 D 0 vp') (.inr (hs2.apart hD2 (by decide)))
/-- A session more. -/
theorem Db.pushS {w0 W V W2 : World} {Q D : Nat} {v : Value} {l : Bs} {s : Nat × Nat} {vp vs vs' : Value} {K : KV} {x : Se} (h : Db w0 W Q D v l s vp vs K) (hV : Below W.heap.size W V) (hg : V.grownBy W2 vs.ownBlock) (hR : Ro RT w0.heap.size W2 vs' (K.ss ++ [x])) : Db w0 (W2.setCell ⟨D, 1, none⟩ vs') Q D v l s vp vs' ⟨K.ps, K.ss ++ [x]⟩ := by
  have h1 := h.below hV
  have hrow : ∀ k, vs.ownBlock = some k → w0.heap.size ≤ k := fun k e => (h1.rs.lt e).1
  have hD2 : W2.heap[D]? = some (.cells #[vp, vs] 63 (0, 0)) := (hg.block D h1.lt (fun e => h1.apS.2 e.symm)).trans h1.hd
  have hDl : D < W2.heap.size := (Array.getElem?_eq_some_iff.1 hD2).1
  have hq2 := h1.rq.kept hg h1.apS.1 hrow
  refine ⟨hq2.kept (grown_set W2 D 1 vs') (by simpa using h1.ne) (fun k e => by cases e; exact h.low), ?_, ?_, hR.kept (grown_set W2 D 1 vs') (.inr (hR.apart hD2 (by decide))), h.low⟩
  · show (W2.heap.modify D _)[D]? = _
    rw [Array.getElem?_eq_getElem (by rw [Array.size_modify]; exact hDl), Array.getElem_modify_self, (Array.getElem?_eq_some_iff.1 hD2).2]
    rfl
  · have hs2 : Ro RQ w0.heap.size W2 vp K.ps := h1.rp.kept hg (by
      cases q : vp.ownBlock with
      | none => exact .inl rfl
      | some g => exact .inr (fun e => h1.rows q e.symm))
    exact hs2.kept (grown_set W2 D 1 vs') (.inr (hs2.apart hD2 (by decide)))
end Go.Proofs.YtglhjgfaelfleaaGreat
