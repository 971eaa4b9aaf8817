/-
  A reader of wire: what each of its calls answers and leaves.
-/
import Derived.Test.YtfnnbfgfmbiababMem
import Derived.Deep.RegionWith
namespace Go.Proofs.Ytfnnbfgfmbiabab
open Go.RowKit Go.Shelf

/-- Block R holds a reader of the bytes l (in memory of its own), at the place a, with the error e. -/
structure Rdr (N : Nat) (W : World) (R : Nat) (l : List UInt8) (a e : Nat) : Prop where
  le : N ≤ R
  ex : ∃ v, W.heap[R]? = some (.cells #[v, .int .i64 (a : Int), .int .i64 (e : Int)] 149 (0, 0)) ∧ Ow N W v l ∧ ∀ k, v.ownBlock = some k → k < R

theorem Ow.kept {N : Nat} {w w' : World} {v : Value} {l : List UInt8} {row : Option Nat} (h : Ow N w v l) (hg : w.grownBy w' row) (hne : v.ownBlock = none ∨ v.ownBlock ≠ row) : Ow N w' v l := World.ownsRow.kept h hg hne

theorem Ow.not_at {N : Nat} {w : World} {v : Value} {l : List UInt8} (h : Ow N w v l) {R : Nat} {cs : Array Value} {t : TypeId} {z : Nat × Nat} (hR : w.heap[R]? = some (.cells cs t z)) (ht : t ≠ 5) : v.ownBlock ≠ some R := by
  rcases h.2 with ⟨rfl, _⟩ | ⟨g, cap, cur, rfl, _, hgb, _⟩
  · simp [Value.ownBlock]
  · intro e'
    obtain rfl : g = R := by simpa [Value.ownBlock] using e'
    rw [hR] at hgb
    simp at hgb
    exact ht hgb.2.1

theorem Rdr.lt {N : Nat} {W : World} {R : Nat} {l : List UInt8} {a e : Nat} (h : Rdr N W R l a e) : R < W.heap.size := by
  obtain ⟨_, v, hR, _⟩ := h
  exact (Array.getElem?_eq_some_iff.1 hR).1

/-- A reader lies on, where neither its block nor its bytes are turned. -/
theorem Rdr.below {N B : Nat} {w w' : World} {R : Nat} {l : List UInt8} {a e : Nat} (h : Rdr N w R l a e) (hB : Below B w w') (hs : w.heap.size ≤ B) : Rdr N w' R l a e := by
  have hlt := h.lt
  obtain ⟨hle, v, hR, hO, hvR⟩ := h
  refine ⟨hle, v, (hB.block R (by omega)).trans hR, hO.kept (row := none) ⟨hB.os, hB.tape, hB.output, hB.size, fun k hk _ => hB.block k (by omega)⟩ ?_, hvR⟩
  cases v.ownBlock <;> simp

theorem Rdr.drewN {N : Nat} {w : World} {R : Nat} {l : List UInt8} {a e : Nat} (h : Rdr N w R l a e) (n : Nat) : Rdr N (w.drewN n) R l a e := by
  have hb : Below w.heap.size w (w.drewN n) := ⟨rfl, rfl, rfl, Nat.le_refl _, fun _ _ => rfl⟩
  exact h.below hb (Nat.le_refl _)

set_option maxRecDepth 100000 in
set_option maxHeartbeats 400000 in
theorem newReader_any (M : Nat) (v : Value) (l : List UInt8) (w : World) (hv : Sl M w v l) (hl : l.length ≤ 1099511627776) :
    Calls Try.prog 65 #[v] w fun e w' => ∃ R, e = .returned (.pointer (some ⟨R, 0, none⟩)) ∧ Rdr w.heap.size w' R l 0 0 ∧ Below w.heap.size w w' := by
  obtain ⟨a, cap, rfl, -⟩ := id hv
  go_enter Try.func65, Try.ntmps65
  go_wp2_with (go_at_call 77; refine (fresh_any M _ l _ hv hl).mono ?_; rintro e w1 ⟨v', rfl, hO, hB⟩; obtain ⟨a', cap', rfl, -, -⟩ := hO.shape)
  go_ret
  have hz := hB.size
  exact ⟨w1.heap.size, rfl, ⟨hz, _, World.alloc_heap_new w1 _, hO.kept (World.grownBy_alloc w1 _ none) (by cases a' <;> simp [Value.ownBlock]), fun k hk => (World.ownsRow.lt hO k hk).2⟩, hB.alloc hz _⟩

/-- A reader, one of whose cells is written. -/
theorem Rdr.err {N : Nat} {w : World} {R : Nat} {l : List UInt8} {a e : Nat} (h : Rdr N w R l a e) (e' : Nat) : Rdr N (w.setCell ⟨R, 2, none⟩ (.int .i64 (e' : Int))) R l a e' := by
  obtain ⟨hle, v, hR, hO, hvR⟩ := h
  have hlt := (Array.getElem?_eq_some_iff.1 hR).1
  refine ⟨hle, v, ?_, hO.kept (row := some R) ⟨rfl, rfl, rfl, by simp [World.setCell], fun k _ hk => Below.heap_setCell _ _ _ k (fun e => hk (by rw [e]))⟩ (.inr (hO.not_at hR (by decide))), hvR⟩
  show (w.heap.modify R _)[R]? = _
  rw [Array.getElem?_eq_getElem (by rw [Array.size_modify]; exact hlt), Array.getElem_modify_self, (Array.getElem?_eq_some_iff.1 hR).2]
  rfl

theorem Rdr.at' {N : Nat} {w : World} {R : Nat} {l : List UInt8} {a e : Nat} (h : Rdr N w R l a e) (a' : Nat) : Rdr N (w.setCell ⟨R, 1, none⟩ (.int .i64 (a' : Int))) R l a' e := by
  obtain ⟨hle, v, hR, hO, hvR⟩ := h
  have hlt := (Array.getElem?_eq_some_iff.1 hR).1
  refine ⟨hle, v, ?_, hO.kept (row := some R) ⟨rfl, rfl, rfl, by simp [World.setCell], fun k _ hk => Below.heap_setCell _ _ _ k (fun e => hk (by rw [e]))⟩ (.inr (hO.not_at hR (by decide))), hvR⟩
  show (w.heap.modify R _)[R]? = _
  rw [Array.getElem?_eq_getElem (by rw [Array.size_modify]; exact hlt), Array.getElem_modify_self, (Array.getElem?_eq_some_iff.1 hR).2]
  rfl

theorem Rdr.cells {N : Nat} {w : World} {R : Nat} {l : List UInt8} {a e : Nat} (h : Rdr N w R l a e) :
    ∃ b cap, Ow N w (.slice b l.length cap) l ∧ w.cell? ⟨R, 0, none⟩ = some (.slice b l.length cap) ∧ w.cell? ⟨R, 1, none⟩ = some (.int .i64 (a : Int)) ∧ w.cell? ⟨R, 2, none⟩ = some (.int .i64 (e : Int)) ∧ w.frozen? ⟨R, 1, none⟩ = false ∧ w.frozen? ⟨R, 2, none⟩ = false := by
  obtain ⟨hle, v, hR, hO, hvR⟩ := h
  obtain ⟨b, cap, rfl, -, -⟩ := hO.shape
  exact ⟨b, cap, hO, by simp [World.cell?, hR], by simp [World.cell?, hR], by simp [World.cell?, hR], by simp [World.frozen?, hR], by simp [World.frozen?, hR]⟩

theorem grown_set (w : World) (R o : Nat) (v : Value) : w.grownBy (w.setCell ⟨R, o, none⟩ v) (some R) :=
  ⟨rfl, rfl, rfl, by simp [World.setCell], fun k _ hk => Below.heap_setCell _ _ _ k (fun e => hk (by rw [e]))⟩

theorem Below.grownBy' {w w' : World} (h : Below w.heap.size w w') (row : Option Nat) : w.grownBy w' row := ⟨h.os, h.tape, h.output, h.size, fun k hk _ => h.block k hk⟩

set_option maxRecDepth 100000 in
set_option maxHeartbeats 1000000 in
/-- peek: the number at the place, and its bytes; its error is kept. -/
theorem peek_any (N R : Nat) (l : List UInt8) (a e : Nat) (w : World) (h : Rdr N w R l a e) :
    Calls Try.prog 96 #[.pointer (some ⟨R, 0, none⟩)] w fun r w' =>
      r = .returned (.tuple #[.int .i64 ((if e = 0 then (intAt l a).1 else 0 : Nat) : Int), .int .i64 ((if e = 0 then (intAt l a).2.1 else 0 : Nat) : Int)]) ∧
      Rdr N w' R l a (if e = 0 then (intAt l a).2.2 else e) ∧ w.grownBy w' (some R) := by
  obtain ⟨b, cap, hO, k0, k1, k2, f1, f2⟩ := h.cells
  have hlt := h.lt
  by_cases he : e = 0
  · subst he
    simp only [if_true]
    have hs : Sl w.heap.size w (.slice b l.length cap) l := hO.sl (Nat.le_refl _)
    have hsD : Sl w.heap.size w.drew (.slice b l.length cap) l := hs.below ⟨rfl, rfl, rfl, Nat.le_refl _, fun _ _ => rfl⟩
    go_enter Try.func96, Try.ntmps96
    go_wp2
    go_region_with (go_at_call 106; refine (wInt_any w.heap.size _ l _ _ (by simp) hsD).mono ?_; rintro r w1 ⟨rfl, hB1⟩; unfold tup3)
    all_goals
      have hB1' : Below w.heap.size w w1 := ⟨hB1.os, hB1.tape, hB1.output, hB1.size, hB1.block⟩
      have h1 := h.below hB1' (Nat.le_refl _)
      obtain ⟨_, _, _, _, _, k2', _, f2'⟩ := h1.cells
      have HF : Hid (Rdr N (w1.setCell ⟨R, 2, none⟩ (.int .i64 ((intAt l a).2.2 : Int))) R l a (intAt l a).2.2) := h1.err _
      have HG : Hid (w.grownBy (w1.setCell ⟨R, 2, none⟩ (.int .i64 ((intAt l a).2.2 : Int))) (some R)) := grown_trans (Below.grownBy' hB1' _) (grown_set _ _ _ _) (fun k e => .inl e)
      clear h1 hB1 hB1' hs hsD hO h k0 k1 k2 f1 f2
      go_wp2
      go_ret2
      exact ⟨rfl, HF.out, HG.out⟩
  · simp only [he, if_false]
    have he' : ((e : Int) != 0) = true := by simp; omega
    go_enter Try.func96, Try.ntmps96
    go_wp2
    go_ret2
    exact ⟨rfl, h, grown_refl w _⟩

/-- What peek finds: the number, its bytes, the error. -/
def pk (l : List UInt8) (a e : Nat) : Nat × Nat × Nat := if e = 0 then intAt l a else (0, 0, e)

theorem verdict_bd (p : List UInt8) : (verdict p).1 ≤ 4611686018427387904 ∧ (verdict p).2.1 ≤ p.length ∧ ((verdict p).2.2 ≠ 0 → (verdict p).1 = 0 ∧ (verdict p).2.1 = 0) := by
  unfold verdict
  split
  · simp
  · split
    · simp
    · split
      · simp
      · split
        · simp
        · simp; omega

theorem intAt_bd (l : List UInt8) (a : Nat) : (intAt l a).1 ≤ 4611686018427387904 ∧ (intAt l a).2.1 ≤ 9 ∧ (a ≤ l.length → a + (intAt l a).2.1 ≤ l.length) ∧ ((intAt l a).2.2 ≠ 0 → (intAt l a).1 = 0 ∧ (intAt l a).2.1 = 0) := by
  unfold intAt
  split
  · simp
  · have h := verdict_bd (ahead 9 (l.drop (a : Int).toNat))
    have h9 := ahead_len_le 9 (l.drop (a : Int).toNat)
    have hl := ahead_len_le' 9 (l.drop (a : Int).toNat)
    simp only [Int.toNat_natCast, List.length_drop] at *
    exact ⟨h.1, by omega, fun _ => by omega, h.2.2⟩

theorem pk_bd (l : List UInt8) (a e : Nat) : (pk l a e).1 ≤ 4611686018427387904 ∧ (pk l a e).2.1 ≤ 9 ∧ (a ≤ l.length → a + (pk l a e).2.1 ≤ l.length) ∧ ((pk l a e).2.2 ≠ 0 → (pk l a e).1 = 0 ∧ (pk l a e).2.1 = 0) := by
  unfold pk
  split
  · exact intAt_bd l a
  · simp

theorem peek_pk (N R : Nat) (l : List UInt8) (a e : Nat) (w : World) (h : Rdr N w R l a e) :
    Calls Try.prog 96 #[.pointer (some ⟨R, 0, none⟩)] w fun r w' =>
      r = .returned (.tuple #[.int .i64 ((pk l a e).1 : Int), .int .i64 ((pk l a e).2.1 : Int)]) ∧ Rdr N w' R l a (pk l a e).2.2 ∧ w.grownBy w' (some R) := by
  refine (peek_any N R l a e w h).mono ?_
  rintro r w' ⟨rfl, h2, h3⟩
  unfold pk
  by_cases he : e = 0
  · subst he; exact ⟨by simp, by simpa using h2, h3⟩
  · exact ⟨by simp [he], by simpa [he] using h2, h3⟩

set_option maxRecDepth 100000 in
set_option maxHeartbeats 1000000 in
theorem rInt_any (N R : Nat) (l : List UInt8) (a e : Nat) (w : World) (h : Rdr N w R l a e) (hl : l.length ≤ 1099511627776) (ha : a ≤ l.length) :
    Calls Try.prog 67 #[.pointer (some ⟨R, 0, none⟩)] w fun r w' =>
      r = .returned (.int .i64 ((pk l a e).1 : Int)) ∧ Rdr N w' R l (a + (pk l a e).2.1) (pk l a e).2.2 ∧ w.grownBy w' (some R) := by
  have hp := peek_pk N R l a e w h
  have hbd := pk_bd l a e
  generalize pk l a e = p at *
  obtain ⟨n, s, e'⟩ := p
  obtain ⟨b1, b2, b3, -⟩ := hbd
  simp only at hp b1 b2 b3 ⊢
  have b4 := b3 ha
  go_enter Try.func67, Try.ntmps67
  go_wp2_with (go_at_call 96; refine hp.mono ?_; rintro r w1 ⟨rfl, h1, hg⟩; obtain ⟨_, _, _, _, k1, _, f1, _⟩ := h1.cells)
  go_ret
  have := h1.at' (a + s)
  refine ⟨rfl, ?_, grown_trans hg (grown_set _ _ _ _) (fun k e => .inl e)⟩
  simpa using this

/-- What Bool answers and leaves. -/
def boolAt (l : List UInt8) (a e : Nat) : Bool × Nat × Nat := if 1 < (pk l a e).1 then (false, a, 4) else ((pk l a e).1 == 1, a + (pk l a e).2.1, (pk l a e).2.2)

set_option maxRecDepth 100000 in
set_option maxHeartbeats 1000000 in
theorem rBool_any (N R : Nat) (l : List UInt8) (a e : Nat) (w : World) (h : Rdr N w R l a e) (hl : l.length ≤ 1099511627776) (ha : a ≤ l.length) :
    Calls Try.prog 97 #[.pointer (some ⟨R, 0, none⟩)] w fun r w' =>
      r = .returned (.bool (boolAt l a e).1) ∧ Rdr N w' R l (boolAt l a e).2.1 (boolAt l a e).2.2 ∧ w.grownBy w' (some R) := by
  have hp := peek_pk N R l a e w h
  have hbd := pk_bd l a e
  unfold boolAt
  generalize pk l a e = p at *
  obtain ⟨n, s, e'⟩ := p
  obtain ⟨b1, b2, b3, -⟩ := hbd
  simp only at hp b1 b2 b3 ⊢
  have b4 := b3 ha
  by_cases hn : 1 < n
  · rw [if_pos hn]
    go_enter Try.func97, Try.ntmps97
    go_wp2_with (go_at_call 96; refine hp.mono ?_; rintro r w1 ⟨rfl, h1, hg⟩; obtain ⟨_, _, _, _, _, k2, _, f2⟩ := h1.cells)
    go_ret
    exact ⟨rfl, h1.err 4, grown_trans hg (grown_set _ _ _ _) (fun k e => .inl e)⟩
  · rw [if_neg hn]
    go_enter Try.func97, Try.ntmps97
    go_wp2_with (go_at_call 96; refine hp.mono ?_; rintro r w1 ⟨rfl, h1, hg⟩; obtain ⟨_, _, _, _, k1, _, f1, _⟩ := h1.cells)
    go_ret
    have := h1.at' (a + s)
    refine ⟨?_, by simpa using this, grown_trans hg (grown_set _ _ _ _) (fun k e => .inl e)⟩
    have e1 : ((n : Int) == 1) = (n == 1) := by rw [Bool.eq_iff_iff]; simp; omega
    rw [← e1]; rfl

set_option maxRecDepth 100000 in
set_option maxHeartbeats 1000000 in
theorem rAt_any (N R : Nat) (l : List UInt8) (a e : Nat) (w : World) (h : Rdr N w R l a e) :
    Calls Try.prog 94 #[.pointer (some ⟨R, 0, none⟩)] w fun r w' => r = .returned (.int .i64 (a : Int)) ∧ w' = w := by
  obtain ⟨b, cap, hO, k0, k1, k2, f1, f2⟩ := h.cells
  go_enter Try.func94, Try.ntmps94
  go_wp2
  go_ret
  exact ⟨rfl, rfl⟩

set_option maxRecDepth 100000 in
set_option maxHeartbeats 1000000 in
theorem rLeft_any (N R : Nat) (l : List UInt8) (a e : Nat) (w : World) (h : Rdr N w R l a e) (hl : l.length ≤ 1099511627776) (ha : a ≤ l.length) :
    Calls Try.prog 101 #[.pointer (some ⟨R, 0, none⟩)] w fun r w' => r = .returned (.int .i64 ((l.length : Int) - (a : Int))) ∧ ∃ n, w' = w.drewN n := by
  obtain ⟨b, cap, hO, k0, k1, k2, f1, f2⟩ := h.cells
  go_enter Try.func101, Try.ntmps101
  go_wp2
  go_quiet (fail)
  go_wp2
  go_ret
  exact ⟨rfl, _, rfl⟩

/-- What a reader's Done tells. -/
def doneE (l : List UInt8) (a e : Nat) : Nat := if e = 0 ∧ a < l.length then 3 else e

set_option maxRecDepth 100000 in
set_option maxHeartbeats 1000000 in
theorem rDone_any (N R : Nat) (l : List UInt8) (a e : Nat) (w : World) (h : Rdr N w R l a e) (hl : l.length ≤ 1099511627776) (ha : a ≤ l.length) :
    Calls Try.prog 72 #[.pointer (some ⟨R, 0, none⟩)] w fun r w' => r = .returned (.int .i64 (doneE l a e : Int)) ∧ ∃ n, w' = w.drewN n := by
  obtain ⟨b, cap, hO, k0, k1, k2, f1, f2⟩ := h.cells
  by_cases he : e = 0
  · subst he
    by_cases hlt : a < l.length
    · have HE : Hid (doneE l a 0 = 3) := by show doneE l a 0 = 3; simp [doneE, hlt]
      go_enter Try.func72, Try.ntmps72
      go_wp2_with (go_at_call 101; refine (rLeft_any N R l a 0 w h hl ha).mono ?_; rintro r w1 ⟨rfl, n, rfl⟩)
      go_ret
      exact ⟨by rw [HE.out]; rfl, _, rfl⟩
    · have HE : Hid (doneE l a 0 = 0) := by show doneE l a 0 = 0; simp [doneE, hlt]
      go_enter Try.func72, Try.ntmps72
      go_wp2_with (go_at_call 101; refine (rLeft_any N R l a 0 w h hl ha).mono ?_; rintro r w1 ⟨rfl, n, rfl⟩)
      go_ret
      exact ⟨by rw [HE.out]; rfl, _, rfl⟩
  · have HE : Hid (doneE l a e = e) := by show doneE l a e = e; simp [doneE, he]
    have he' : ((e : Int) == 0) = false := by simp; omega
    go_enter Try.func72, Try.ntmps72
    go_wp2
    go_ret
    exact ⟨by rw [HE.out]; rfl, 0, rfl⟩
end Go.Proofs.Ytfnnbfgfmbiabab
