/-
  Bytes in memory: what an append of bytes onto bytes of the call's own leaves; copies. A reader of wire: what each of its calls answers and leaves. A reader of wire: Bytes and Text. The numbers of which the document fixes all: 'first' is true. What is lent and kept: a copy with one more byte behind it; whether it is as it was. A writer of wire, and the document's: what each call leaves. A writer of wire: Bool, Bytes, Text, Done. Puts that came in: their bytes, and whether these are few. One form: a number's bytes, read again, are that number in just these bytes, whatever lies behind; no number's bytes begin another's; they never get fewer. What a writer has behind the first k puts, and that a reader finds it again.
-/
import Derived.Test.YtnahghldlkjleaaGreatDoorJCa
import Derived.Laws.AppendOwnNone
import Derived.Deep.RegionWith
import Derived.Laws.IdiomStrings
import Derived.Deep.RegionHeld3
namespace Go.Proofs.YtnahghldlkjleaaGreatDoor.Cd
open Go.RowKit Go.Shelf

theorem Ow.sl {N M : Nat} {w : World} {v : Value} {l : List UInt8} (h : Ow N w v l) (hM : w.heap.size ≤ M) : Sl M w v l := by
  obtain ⟨a, cap, rfl, h1, h2⟩ := h.shape
  refine ⟨a, cap, rfl, h1, h2, ?_⟩
  rcases h.2 with ⟨_, h0⟩ | ⟨g, cap', cur, hv, hg, hh, hc1, hc2, hc3, hc4⟩
  · exact .inl (List.length_eq_zero_iff.1 h0)
  · cases hv
    refine .inr ⟨g, 0, rfl, Nat.lt_of_lt_of_le (Array.getElem?_eq_some_iff.1 hh).1 hM, fun i hi => ?_⟩
    simp only [Nat.mul_one] at hc4
    have h5 : cur.toList[i]? = some (encB (l[i]?.getD 0)) := by
      have : (cur.toList.take l.length)[i]? = (l.map encB)[i]? := by rw [hc4]
      rw [List.getElem?_take, if_pos hi, List.getElem?_map] at this
      rw [this, List.getElem?_eq_getElem hi]; rfl
    simp only [World.cell?, hh, Nat.zero_add]
    simpa using h5

theorem Sl.mono {N M : Nat} {w : World} {v : Value} {l : List UInt8} (h : Sl N w v l) (hM : N ≤ M) : Sl M w v l := by
  obtain ⟨a, cap, rfl, h1, h2, h3⟩ := h
  refine ⟨a, cap, rfl, h1, h2, ?_⟩
  rcases h3 with h3 | ⟨b, off, e, hb, hc⟩
  · exact .inl h3
  · exact .inr ⟨b, off, e, by omega, hc⟩

theorem Sl.below {N : Nat} {w w' : World} {v : Value} {l : List UInt8} (h : Sl N w v l) (hB : Below N w w') : Sl N w' v l := by
  obtain ⟨a, cap, rfl, h1, h2, h3⟩ := h
  refine ⟨a, cap, rfl, h1, h2, ?_⟩
  rcases h3 with h3 | ⟨b, off, e, hb, hc⟩
  · exact .inl h3
  · exact .inr ⟨b, off, e, hb, fun i hi => (hB.cell (p := ⟨b, off + i, none⟩) hb).trans (hc i hi)⟩

theorem run_append_ow (ty : TypeId) (w : World) (N M : Nat) (v xv : Value) (l m : List UInt8) (hv : Ow N w v l) (hsl : Sl M w xv m) (hlen : l.length + m.length ≤ 1099511627776) (hN : N ≤ w.heap.size) :
    ∃ v' w', (Builtin.append_ #[55, 55] ty #[v, xv]).run Tryz.prog w = .ok v' w' ∧ Ow N w' v' (l ++ m) ∧ w.grownBy w' v.ownBlock ∧ (v'.ownBlock = v.ownBlock ∨ v'.ownBlock = some w.heap.size) := by
  obtain ⟨i0, hi, hz0, hz1, hz2⟩ := info_parts info5
  obtain ⟨a, cap, rfl, h1, h2, h3⟩ := hsl
  have key : ∀ ad : Addr, (∀ j u, (m.map encB)[j]? = some u → w.cell? (ad.add j) = some u) → ∃ v' w', (Builtin.append_ #[55, 55] ty #[v, .slice (some ad) m.length cap]).run Tryz.prog w = .ok v' w' ∧ Ow N w' v' (l ++ m) ∧ w.grownBy w' v.ownBlock ∧ (v'.ownBlock = v.ownBlock ∨ v'.ownBlock = some w.heap.size) := by
    intro ad had
    obtain ⟨v', w', r1, r2, r3, _, r5⟩ := run_append_own_at (P := Tryz.prog) w N 55 ty 5 i0 (.int .u8 0) 1 1 Tryz.underlying55 hi hz0 hz1 hz2 rfl (by decide) v l.length (l.map encB) hv ad m.length cap (m.map encB) (by simp) had (by intro u hu; obtain ⟨x, _, rfl⟩ := List.mem_map.1 hu; rfl) (by unfold maxLen; omega) (by omega) hN
    exact ⟨v', w', r1, by unfold Ow; simpa using r2, r3, r5⟩
  rcases h3 with rfl | ⟨b, off, rfl, hb, hc⟩
  · cases a with
    | none =>
      refine ⟨v, w, ?_, by simpa using hv, grown_refl w _, .inl rfl⟩
      rcases hv.2 with ⟨rfl, _⟩ | ⟨g, cap', cur, rfl, _, _, hnc, _⟩
      · simp [Builtin.append_, run_underlying Tryz.underlying55, sizeOf, typeInfo, hi, Builtin.lenOf, Builtin.firstCells]
      · simp [Builtin.append_, run_underlying Tryz.underlying55, sizeOf, typeInfo, hi, Builtin.lenOf, Builtin.firstCells, hnc, storeCells]
    | some ad => exact key ad (by simp)
  · refine key _ (fun j u hj => ?_)
    simp only [List.getElem?_map, Option.map_eq_some_iff] at hj
    obtain ⟨x, hx, rfl⟩ := hj
    have hlt := (List.getElem?_eq_some_iff.1 hx).1
    have := hc j hlt
    rw [hx] at this
    rw [Addr.add_lit]
    simpa using this

/-- An append of bytes onto bytes of the call's own, as a law of the walk. -/
theorem wpList_append_ow {ops : Array Oper} {rest : List Oper} {o : Oper} {a : Act} {Q : Exit → Act → World → Prop} {w : World} (hgd : o.guard = none) (s x : Operand)
    (ho : o.op = .call { callee := .builtin .append, args := #[s, x], argTypes := #[55, 55] })
    (N M : Nat) (v xv : Value) (l m : List UInt8) (hs : a.eval s = v) (hv : Ow N w v l) (hx : a.eval x = xv) (hsl : Sl M w xv m) (hlen : l.length + m.length ≤ 1099511627776) (hN : N ≤ w.heap.size)
    (h : ∀ v' w', Ow N w' v' (l ++ m) → w.grownBy w' v.ownBlock → (v'.ownBlock = v.ownBlock ∨ v'.ownBlock = some w.heap.size) → wpList Tryz.prog ops Q rest (a.put o.dst v') w') :
    wpList Tryz.prog ops Q (o :: rest) a w := by
  refine wpList_plain hgd fun K hK => ?_
  obtain ⟨v', w', hr, h2, h3, h4⟩ := run_append_ow o.type w N M v xv l m hv hsl hlen hN
  unfold Oper.wp execOp
  simp only [ho, resolve, invoke, builtin, Sem.run_bind, Sem.run_pure, Result.andThen_ok, List.map_toArray, List.map_cons, List.map_nil, hs, hx, hr]
  exact hK _ _ (h v' w' h2 h3 h4)

theorem Ow.nil (N : Nat) (w : World) : Ow N w (.slice none 0 0) [] := World.ownsRow_nil _ _ _ _

set_option maxRecDepth 100000 in
set_option maxHeartbeats 400000 in
/-- wire.fresh: a copy in new memory. -/
theorem fresh_any (M : Nat) (v : Value) (l : List UInt8) (w : World) (hv : Sl M w v l) (hl : l.length ≤ 1099511627776) :
    Calls Tryz.prog 256 #[v] w fun e w' => ∃ v', e = .returned v' ∧ Ow w.heap.size w' v' l ∧ Below w.heap.size w w' := by
  obtain ⟨a, cap, rfl, -⟩ := id hv
  go_enter Tryz.func256, Tryz.ntmps256
  go_wp2_with (at_builtin; refine wpList_append_ow rfl _ _ rfl w.heap.size M _ _ [] l rfl (Ow.nil _ _) rfl hv (by simpa using hl) (Nat.le_refl _) ?_; intro v' w1 hO hg _)
  go_ret
  exact ⟨v', rfl, hO, (Below.refl _ _).grown hg (Nat.le_refl _) (fun k e => by cases e)⟩

set_option maxRecDepth 100000 in
set_option maxHeartbeats 400000 in
/-- The document's Bytes: a copy in new memory. -/
theorem bytes_any (M : Nat) (v : Value) (l : List UInt8) (w : World) (hv : Sl M w v l) (hM : M ≤ w.heap.size) (hl : l.length ≤ 1099511627776) :
    Calls Tryz.prog 44 #[v] w fun e w' => ∃ v', e = .returned v' ∧ Ow w.heap.size w' v' l ∧ Below w.heap.size w w' := by
  obtain ⟨a, cap, rfl, -⟩ := id hv
  go_enter Tryz.func44, Tryz.ntmps44
  have hO0 : Ow w.heap.size (w.alloc (.cells #[] 5)) (.slice (some ⟨w.heap.size, 0, none⟩) 0 0) [] :=
    ⟨by simp, .inr ⟨w.heap.size, 0, #[], rfl, Nat.le_refl _, World.alloc_heap_new w _, by simp, by unfold maxLen; omega, by simp, by simp⟩⟩
  have hB0 : Below w.heap.size w (w.alloc (.cells #[] 5)) := (Below.refl _ w).alloc (Nat.le_refl _) _
  have hv1 := hv.below (hB0.mono hM)
  go_wp2_with (at_builtin; refine wpList_append_ow rfl _ _ rfl w.heap.size M _ _ [] l rfl hO0 rfl hv1 (by simpa using hl) (by simp) ?_; intro v' w1 hO hg _)
  go_ret
  exact ⟨v', rfl, hO, hB0.grown hg (by simp) (fun k e => by cases e; exact Nat.le_refl _)⟩
end Go.Proofs.YtnahghldlkjleaaGreatDoor.Cd
namespace Go.Proofs.YtnahghldlkjleaaGreatDoor.Cd
open Go.RowKit Go.Shelf

/-- Block R holds a reader of the bytes l (in memory of its own), at the place a, with the error e. -/
structure Rdr (N : Nat) (W : World) (R : Nat) (l : List UInt8) (a e : Nat) : Prop where
  le : N ≤ R
  ex : ∃ v, W.heap[R]? = some (.cells #[v, .int .i64 (a : Int), .int .i64 (e : Int)] 310 (0, 0)) ∧ Ow N W v l ∧ ∀ k, v.ownBlock = some k → k < R

theorem Ow.kept {N : Nat} {w w' : World} {v : Value} {l : List UInt8} {row : Option Nat} (h : Ow N w v l) (hg : w.grownBy w' row) (hne : v.ownBlock = none ∨ v.ownBlock ≠ row) : Ow N w' v l := World.ownsRow.kept h hg hne

theorem Ow.not_at {N : Nat} {w : World} {v : Value} {l : List UInt8} (h : Ow N w v l) {R : Nat} {cs : Array Value} {t : TypeId} {z : Nat × Nat} (hR : w.heap[R]? = some (.cells cs t z)) (ht : t ≠ 5) : v.ownBlock ≠ some R := by
  rcases h.2 with ⟨rfl, _⟩ | ⟨g, cap, cur, rfl, _, hgb, _⟩
  · simp [Value.ownBlock]
  · intro e'
    obtain rfl : g = R := by simpa [Value.ownBlock] using e'
    rw [hR] at hgb
    simp at hgb
    exact ht hgb.2.1

theorem Rdr.lt {N : Nat} {W : World} {R : Nat} {l : List UInt8} {a e : Nat} (h : Rdr N W R l a e) : R < W.heap.size := by
  obtain ⟨_, v, hR, _⟩ := h
  exact (Array.getElem?_eq_some_iff.1 hR).1

/-- A reader lies on, where neither its block nor its bytes are turned. -/
theorem Rdr.below {N B : Nat} {w w' : World} {R : Nat} {l : List UInt8} {a e : Nat} (h : Rdr N w R l a e) (hB : Below B w w') (hs : w.heap.size ≤ B) : Rdr N w' R l a e := by
  have hlt := h.lt
  obtain ⟨hle, v, hR, hO, hvR⟩ := h
  refine ⟨hle, v, (hB.block R (by omega)).trans hR, hO.kept (row := none) ⟨hB.os, hB.tape, hB.output, hB.size, fun k hk _ => hB.block k (by omega)⟩ ?_, hvR⟩
  cases v.ownBlock <;> simp

theorem Rdr.drewN {N : Nat} {w : World} {R : Nat} {l : List UInt8} {a e : Nat} (h : Rdr N w R l a e) (n : Nat) : Rdr N (w.drewN n) R l a e := by
  have hb : Below w.heap.size w (w.drewN n) := ⟨rfl, rfl, rfl, Nat.le_refl _, fun _ _ => rfl⟩
  exact h.below hb (Nat.le_refl _)

set_option maxRecDepth 100000 in
set_option maxHeartbeats 400000 in
theorem newReader_any (M : Nat) (v : Value) (l : List UInt8) (w : World) (hv : Sl M w v l) (hl : l.length ≤ 1099511627776) :
    Calls Tryz.prog 210 #[v] w fun e w' => ∃ R, e = .returned (.pointer (some ⟨R, 0, none⟩)) ∧ Rdr w.heap.size w' R l 0 0 ∧ Below w.heap.size w w' := by
  obtain ⟨a, cap, rfl, -⟩ := id hv
  go_enter Tryz.func210, Tryz.ntmps210
  go_wp2_with (go_at_call 256; refine (fresh_any M _ l _ hv hl).mono ?_; rintro e w1 ⟨v', rfl, hO, hB⟩; obtain ⟨a', cap', rfl, -, -⟩ := hO.shape)
  go_ret
  have hz := hB.size
  exact ⟨w1.heap.size, rfl, ⟨hz, _, World.alloc_heap_new w1 _, hO.kept (World.grownBy_alloc w1 _ none) (by cases a' <;> simp [Value.ownBlock]), fun k hk => (World.ownsRow.lt hO k hk).2⟩, hB.alloc hz _⟩

/-- A reader, one of whose cells is written. -/
theorem Rdr.err {N : Nat} {w : World} {R : Nat} {l : List UInt8} {a e : Nat} (h : Rdr N w R l a e) (e' : Nat) : Rdr N (w.setCell ⟨R, 2, none⟩ (.int .i64 (e' : Int))) R l a e' := by
  obtain ⟨hle, v, hR, hO, hvR⟩ := h
  have hlt := (Array.getElem?_eq_some_iff.1 hR).1
  refine ⟨hle, v, ?_, hO.kept (row := some R) ⟨rfl, rfl, rfl, by simp [World.setCell], fun k _ hk => Below.heap_setCell _ _ _ k (fun e => hk (by rw [e]))⟩ (.inr (hO.not_at hR (by decide))), hvR⟩
  show (w.heap.modify R _)[R]? = _
  rw [Array.getElem?_eq_getElem (by rw [Array.size_modify]; exact hlt), Array.getElem_modify_self, (Array.getElem?_eq_some_iff.1 hR).2]
  rfl

theorem Rdr.at' {N : Nat} {w : World} {R : Nat} {l : List UInt8} {a e : Nat} (h : Rdr N w R l a e) (a' : Nat) : Rdr N (w.setCell ⟨R, 1, none⟩ (.int .i64 (a' : Int))) R l a' e := by
  obtain ⟨hle, v, hR, hO, hvR⟩ := h
  have hlt := (Array.getElem?_eq_some_iff.1 hR).1
  refine ⟨hle, v, ?_, hO.kept (row := some R) ⟨rfl, rfl, rfl, by simp [World.setCell], fun k _ hk => Below.heap_setCell _ _ _ k (fun e => hk (by rw [e]))⟩ (.inr (hO.not_at hR (by decide))), hvR⟩
  show (w.heap.modify R _)[R]? = _
  rw [Array.getElem?_eq_getElem (by rw [Array.size_modify]; exact hlt), Array.getElem_modify_self, (Array.getElem?_eq_some_iff.1 hR).2]
  rfl

theorem Rdr.cells {N : Nat} {w : World} {R : Nat} {l : List UInt8} {a e : Nat} (h : Rdr N w R l a e) :
    ∃ b cap, Ow N w (.slice b l.length cap) l ∧ w.cell? ⟨R, 0, none⟩ = some (.slice b l.length cap) ∧ w.cell? ⟨R, 1, none⟩ = some (.int .i64 (a : Int)) ∧ w.cell? ⟨R, 2, none⟩ = some (.int .i64 (e : Int)) ∧ w.frozen? ⟨R, 1, none⟩ = false ∧ w.frozen? ⟨R, 2, none⟩ = false := by
  obtain ⟨hle, v, hR, hO, hvR⟩ := h
  obtain ⟨b, cap, rfl, -, -⟩ := hO.shape
  exact ⟨b, cap, hO, by simp [World.cell?, hR], by simp [World.cell?, hR], by simp [World.cell?, hR], by simp [World.frozen?, hR], by simp [World.frozen?, hR]⟩

theorem grown_set (w : World) (R o : Nat) (v : Value) : w.grownBy (w.setCell ⟨R, o, none⟩ v) (some R) :=
  ⟨rfl, rfl, rfl, by simp [World.setCell], fun k _ hk => Below.heap_setCell _ _ _ k (fun e => hk (by rw [e]))⟩

theorem Below.grownBy' {w w' : World} (h : Below w.heap.size w w') (row : Option Nat) : w.grownBy w' row := ⟨h.os, h.tape, h.output, h.size, fun k hk _ => h.block k hk⟩

set_option maxRecDepth 100000 in
set_option maxHeartbeats 1000000 in
/-- peek: the number at the place, and its bytes; its error is kept. -/
theorem peek_any (N R : Nat) (l : List UInt8) (a e : Nat) (w : World) (h : Rdr N w R l a e) :
    Calls Tryz.prog 257 #[.pointer (some ⟨R, 0, none⟩)] w fun r w' =>
      r = .returned (.tuple #[.int .i64 ((if e = 0 then (intAt l a).1 else 0 : Nat) : Int), .int .i64 ((if e = 0 then (intAt l a).2.1 else 0 : Nat) : Int)]) ∧
      Rdr N w' R l a (if e = 0 then (intAt l a).2.2 else e) ∧ w.grownBy w' (some R) := by
  obtain ⟨b, cap, hO, k0, k1, k2, f1, f2⟩ := h.cells
  have hlt := h.lt
  by_cases he : e = 0
  · subst he
    simp only [if_true]
    have hs : Sl w.heap.size w (.slice b l.length cap) l := hO.sl (Nat.le_refl _)
    have hsD : Sl w.heap.size w.drew (.slice b l.length cap) l := hs.below ⟨rfl, rfl, rfl, Nat.le_refl _, fun _ _ => rfl⟩
    go_enter Tryz.func257, Tryz.ntmps257
    go_wp2
    go_region_with (go_at_call 278; refine (wInt_any w.heap.size _ l _ _ (by simp) hsD).mono ?_; rintro r w1 ⟨rfl, hB1⟩; unfold tup3)
    all_goals
      have hB1' : Below w.heap.size w w1 := ⟨hB1.os, hB1.tape, hB1.output, hB1.size, hB1.block⟩
      have h1 := h.below hB1' (Nat.le_refl _)
      obtain ⟨_, _, _, _, _, k2', _, f2'⟩ := h1.cells
      have HF : Hid (Rdr N (w1.setCell ⟨R, 2, none⟩ (.int .i64 ((intAt l a).2.2 : Int))) R l a (intAt l a).2.2) := h1.err _
      have HG : Hid (w.grownBy (w1.setCell ⟨R, 2, none⟩ (.int .i64 ((intAt l a).2.2 : Int))) (some R)) := grown_trans (Below.grownBy' hB1' _) (grown_set _ _ _ _) (fun k e => .inl e)
      clear h1 hB1 hB1' hs hsD hO h k0 k1 k2 f1 f2
      go_wp2
      go_ret2
      exact ⟨rfl, HF.out, HG.out⟩
  · simp only [he, if_false]
    have he' : ((e : Int) != 0) = true := by simp; omega
    go_enter Tryz.func257, Tryz.ntmps257
    go_wp2
    go_ret2
    exact ⟨rfl, h, grown_refl w _⟩

/-- What peek finds: the number, its bytes, the error. -/
def pk (l : List UInt8) (a e : Nat) : Nat × Nat × Nat := if e = 0 then intAt l a else (0, 0, e)

theorem verdict_bd (p : List UInt8) : (verdict p).1 ≤ 4611686018427387904 ∧ (verdict p).2.1 ≤ p.length ∧ ((verdict p).2.2 ≠ 0 → (verdict p).1 = 0 ∧ (verdict p).2.1 = 0) := by
  unfold verdict
  split
  · simp
  · split
    · simp
    · split
      · simp
      · split
        · simp
        · simp; omega

theorem intAt_bd (l : List UInt8) (a : Nat) : (intAt l a).1 ≤ 4611686018427387904 ∧ (intAt l a).2.1 ≤ 9 ∧ (a ≤ l.length → a + (intAt l a).2.1 ≤ l.length) ∧ ((intAt l a).2.2 ≠ 0 → (intAt l a).1 = 0 ∧ (intAt l a).2.1 = 0) := by
  unfold intAt
  split
  · simp
  · have h := verdict_bd (ahead 9 (l.drop (a : Int).toNat))
    have h9 := ahead_len_le 9 (l.drop (a : Int).toNat)
    have hl := ahead_len_le' 9 (l.drop (a : Int).toNat)
    simp only [Int.toNat_natCast, List.length_drop] at *
    exact ⟨h.1, by omega, fun _ => by omega, h.2.2⟩

theorem pk_bd (l : List UInt8) (a e : Nat) : (pk l a e).1 ≤ 4611686018427387904 ∧ (pk l a e).2.1 ≤ 9 ∧ (a ≤ l.length → a + (pk l a e).2.1 ≤ l.length) ∧ ((pk l a e).2.2 ≠ 0 → (pk l a e).1 = 0 ∧ (pk l a e).2.1 = 0) := by
  unfold pk
  split
  · exact intAt_bd l a
  · simp

theorem peek_pk (N R : Nat) (l : List UInt8) (a e : Nat) (w : World) (h : Rdr N w R l a e) :
    Calls Tryz.prog 257 #[.pointer (some ⟨R, 0, none⟩)] w fun r w' =>
      r = .returned (.tuple #[.int .i64 ((pk l a e).1 : Int), .int .i64 ((pk l a e).2.1 : Int)]) ∧ Rdr N w' R l a (pk l a e).2.2 ∧ w.grownBy w' (some R) := by
  refine (peek_any N R l a e w h).mono ?_
  rintro r w' ⟨rfl, h2, h3⟩
  unfold pk
  by_cases he : e = 0
  · subst he; exact ⟨by simp, by simpa using h2, h3⟩
  · exact ⟨by simp [he], by simpa [he] using h2, h3⟩

set_option maxRecDepth 100000 in
set_option maxHeartbeats 1000000 in
theorem rInt_any (N R : Nat) (l : List UInt8) (a e : Nat) (w : World) (h : Rdr N w R l a e) (hl : l.length ≤ 1099511627776) (ha : a ≤ l.length) :
    Calls Tryz.prog 211 #[.pointer (some ⟨R, 0, none⟩)] w fun r w' =>
      r = .returned (.int .i64 ((pk l a e).1 : Int)) ∧ Rdr N w' R l (a + (pk l a e).2.1) (pk l a e).2.2 ∧ w.grownBy w' (some R) := by
  have hp := peek_pk N R l a e w h
  have hbd := pk_bd l a e
  generalize pk l a e = p at *
  obtain ⟨n, s, e'⟩ := p
  obtain ⟨b1, b2, b3, -⟩ := hbd
  simp only at hp b1 b2 b3 ⊢
  have b4 := b3 ha
  go_enter Tryz.func211, Tryz.ntmps211
  go_wp2_with (go_at_call 257; refine hp.mono ?_; rintro r w1 ⟨rfl, h1, hg⟩; obtain ⟨_, _, _, _, k1, _, f1, _⟩ := h1.cells)
  go_ret
  have := h1.at' (a + s)
  refine ⟨rfl, ?_, grown_trans hg (grown_set _ _ _ _) (fun k e => .inl e)⟩
  simpa using this

/-- What Bool answers and leaves. -/
def boolAt (l : List UInt8) (a e : Nat) : Bool × Nat × Nat := if 1 < (pk l a e).1 then (false, a, 4) else ((pk l a e).1 == 1, a + (pk l a e).2.1, (pk l a e).2.2)

set_option maxRecDepth 100000 in
set_option maxHeartbeats 1000000 in
theorem rLeft_any (N R : Nat) (l : List UInt8) (a e : Nat) (w : World) (h : Rdr N w R l a e) (hl : l.length ≤ 1099511627776) (ha : a ≤ l.length) :
    Calls Tryz.prog 260 #[.pointer (some ⟨R, 0, none⟩)] w fun r w' => r = .returned (.int .i64 ((l.length : Int) - (a : Int))) ∧ ∃ n, w' = w.drewN n := by
  obtain ⟨b, cap, hO, k0, k1, k2, f1, f2⟩ := h.cells
  go_enter Tryz.func260, Tryz.ntmps260
  go_wp2
  go_quiet (fail)
  go_wp2
  go_ret
  exact ⟨rfl, _, rfl⟩

/-- What a reader's Done tells. -/
def doneE (l : List UInt8) (a e : Nat) : Nat := if e = 0 ∧ a < l.length then 3 else e

set_option maxRecDepth 100000 in
set_option maxHeartbeats 1000000 in
theorem rDone_any (N R : Nat) (l : List UInt8) (a e : Nat) (w : World) (h : Rdr N w R l a e) (hl : l.length ≤ 1099511627776) (ha : a ≤ l.length) :
    Calls Tryz.prog 214 #[.pointer (some ⟨R, 0, none⟩)] w fun r w' => r = .returned (.int .i64 (doneE l a e : Int)) ∧ ∃ n, w' = w.drewN n := by
  obtain ⟨b, cap, hO, k0, k1, k2, f1, f2⟩ := h.cells
  by_cases he : e = 0
  · subst he
    by_cases hlt : a < l.length
    · have HE : Hid (doneE l a 0 = 3) := by show doneE l a 0 = 3; simp [doneE, hlt]
      go_enter Tryz.func214, Tryz.ntmps214
      go_wp2_with (go_at_call 260; refine (rLeft_any N R l a 0 w h hl ha).mono ?_; rintro r w1 ⟨rfl, n, rfl⟩)
      go_ret
      exact ⟨by rw [HE.out]; rfl, _, rfl⟩
    · have HE : Hid (doneE l a 0 = 0) := by show doneE l a 0 = 0; simp [doneE, hlt]
      go_enter Tryz.func214, Tryz.ntmps214
      go_wp2_with (go_at_call 260; refine (rLeft_any N R l a 0 w h hl ha).mono ?_; rintro r w1 ⟨rfl, n, rfl⟩)
      go_ret
      exact ⟨by rw [HE.out]; rfl, _, rfl⟩
  · have HE : Hid (doneE l a e = e) := by show doneE l a e = e; simp [doneE, he]
    have he' : ((e : Int) == 0) = false := by simp; omega
    go_enter Tryz.func214, Tryz.ntmps214
    go_wp2
    go_ret
    exact ⟨by rw [HE.out]; rfl, 0, rfl⟩
end Go.Proofs.YtnahghldlkjleaaGreatDoor.Cd
namespace Go.Proofs.YtnahghldlkjleaaGreatDoor.Cd
open Go.RowKit Go.Shelf

/-- What take finds: the bytes, the place behind them, the error. -/
def takeAt (l : List UInt8) (a e : Nat) (most : Int) : List UInt8 × Nat × Nat :=
  if (pk l a e).2.2 ≠ 0 then ([], a, (pk l a e).2.2)
  else if max most 0 < ((pk l a e).1 : Int) then ([], a, 3)
  else if l.length - (a + (pk l a e).2.1) < (pk l a e).1 then ([], a, 2)
  else ((l.drop (a + (pk l a e).2.1)).take (pk l a e).1, a + (pk l a e).2.1 + (pk l a e).1, 0)

theorem intAt_in (l : List UInt8) (a : Nat) (h : (intAt l a).2.2 = 0) : a < l.length := by
  unfold intAt at h
  split at h
  · simp at h
  · omega

theorem pk_in (l : List UInt8) (a e : Nat) (h : (pk l a e).2.2 = 0) : a < l.length := by
  unfold pk at h
  split at h
  · exact intAt_in l a h
  · rename_i h'; exact absurd h h'

/-- The reader's own bytes, at an address. -/
theorem Ow.at0 {N : Nat} {w : World} {b : Option Addr} {cap : Nat} {l : List UInt8} (h : Ow N w (.slice b l.length cap) l) (hl : 0 < l.length) : ∃ g, b = some ⟨g, 0, none⟩ ∧ g < w.heap.size ∧ l.length ≤ cap ∧ cap ≤ maxLen ∧ CellsAt w g 0 l := by
  have h' := h.sl (M := w.heap.size) (Nat.le_refl _)
  rcases h.2 with ⟨h0, h1⟩ | ⟨g, cap', cur, hv, hg, hh, hc1, hc2, hc3, hc4⟩
  · omega
  · cases hv
    obtain ⟨a, c, e, -, -, h3⟩ := h'
    cases e
    obtain ⟨b', off, e2, hb, hc⟩ := h3.resolve_left (by intro h; rw [h] at hl; simp at hl)
    cases e2
    exact ⟨g, rfl, hb, hc1, hc2, hc⟩

theorem Ow.base {N N' : Nat} {w : World} {v : Value} {l : List UInt8} (h : Ow N w v l) (hN : N' ≤ N) : Ow N' w v l := by
  refine ⟨h.1, ?_⟩
  rcases h.2 with h2 | ⟨g, cap, cur, hv, hg, r⟩
  · exact .inl h2
  · exact .inr ⟨g, cap, cur, hv, by omega, r⟩

theorem Sl.nil (M : Nat) (w : World) : Sl M w (.slice none 0 0) [] := ⟨none, 0, rfl, by simp, by unfold maxLen; omega, .inl rfl⟩

theorem sl_zero {M : Nat} {w : World} (a : Option Addr) (n f : Nat) (l : List UInt8) (hn : n = 0) : Sl M w (.slice a n 0) ((l.drop f).take n) := by
  subst hn
  exact ⟨a, 0, by simp, by simp, by unfold maxLen; omega, .inl (by simp)⟩

theorem grown_drewN (w : World) (n : Nat) : w.grownBy (w.drewN n) none := ⟨rfl, rfl, rfl, Nat.le_refl _, fun _ _ _ => rfl⟩

/-- A piece of the reader's bytes. -/
theorem take_sl {w1 : World} {R g cap f n : Nat} {l : List UInt8} {u : Value} (hgl : g < w1.heap.size) (hne : g ≠ R) (hcm : cap ≤ maxLen) (hlc : l.length ≤ cap) (hfn : f + n ≤ l.length) (hc : CellsAt w1 g 0 l) (nq : Nat) :
    Sl (((w1.setCell ⟨R, 1, none⟩ u).drewN nq)).heap.size ((w1.setCell ⟨R, 1, none⟩ u).drewN nq) (.slice (some ⟨g, f, none⟩) n (cap - f)) ((l.drop f).take n) := by
  have hlen : ((l.drop f).take n).length = n := by simp; omega
  refine ⟨some ⟨g, f, none⟩, cap - f, by rw [hlen], by rw [hlen]; omega, by omega, .inr ⟨g, f, rfl, ?_, fun i hi => ?_⟩⟩
  · show g < (w1.setCell ⟨R, 1, none⟩ u).heap.size
    simpa [World.setCell] using hgl
  · rw [hlen] at hi
    have h1 : ((w1.setCell ⟨R, 1, none⟩ u).drewN nq).cell? ⟨g, f + i, none⟩ = w1.cell? ⟨g, f + i, none⟩ := by
      show (w1.setCell ⟨R, 1, none⟩ u).cell? ⟨g, f + i, none⟩ = _
      exact World.cell?_of_block (Below.heap_setCell _ _ _ g hne)
    have h2 := hc (f + i) (by omega)
    rw [Nat.zero_add] at h2
    rw [h1, h2]
    simp [encB, byteAt, hi, List.getElem?_drop]

set_option maxRecDepth 100000 in
set_option maxHeartbeats 2000000 in
theorem take_any (N R : Nat) (l : List UInt8) (a e : Nat) (most : Int) (w : World) (h : Rdr N w R l a e) (hl : l.length ≤ 1099511627776) (ha : a ≤ l.length) :
    Calls Tryz.prog 280 #[.pointer (some ⟨R, 0, none⟩), .int .i64 most] w fun r w' =>
      ∃ v, r = .returned v ∧ Sl w'.heap.size w' v (takeAt l a e most).1 ∧ Rdr N w' R l (takeAt l a e most).2.1 (takeAt l a e most).2.2 ∧ w.grownBy w' (some R) := by
  have hp := peek_pk N R l a e w h
  have hbd := pk_bd l a e
  have hin := pk_in l a e
  unfold takeAt
  generalize pk l a e = p at *
  obtain ⟨n, s, e'⟩ := p
  obtain ⟨b1, b2, b3, -⟩ := hbd
  simp only at hp b1 b2 b3 hin ⊢
  have b4 := b3 ha
  by_cases he : e' = 0
  · subst he
    have hin' := hin rfl
    rw [if_neg (by simp)]
    clear hin b3
    have hcase : (most < 0 ∧ max most 0 = 0) ∨ (¬ most < 0 ∧ max most 0 = most) := by omega
    rcases hcase with ⟨hneg, hmx⟩ | ⟨hneg, hmx⟩
    all_goals
      rw [hmx]
      clear hmx
    · by_cases hm : (0 : Int) < (n : Int)
      · rw [if_pos hm]
        go_enter Tryz.func280, Tryz.ntmps280
        go_wp2_with (go_at_call 257; refine hp.mono ?_; rintro r w1 ⟨rfl, h1, hg⟩; obtain ⟨_, _, _, _, k1, k2, _, f2⟩ := h1.cells)
        go_ret
        exact ⟨_, rfl, Sl.nil _ _, h1.err 3, grown_trans hg (grown_set _ _ _ _) (fun k e => .inl e)⟩
      · rw [if_neg hm]
        have hs : ¬ (l.length - (a + s) < n) := by omega
        rw [if_neg hs]
        have hs' : (n : Int) ≤ (l.length : Int) - ((a : Int) + (s : Int)) := by omega
        go_enter Tryz.func280, Tryz.ntmps280
        go_wp2_with (go_at_call 257; refine hp.mono ?_; rintro r w1 ⟨rfl, h1, hg⟩; obtain ⟨b, cap, hO, k0, k1, k2, f1, f2⟩ := h1.cells; obtain ⟨g, rfl, hgl, hlc, hcm, hcl⟩ := hO.at0 (by omega); have HCL : Hid (CellsAt w1 g 0 l) := hcl; clear hcl)
        have h2 : Rdr N (w1.setCell ⟨R, 1, none⟩ (.int .i64 ((a : Int) + (s : Int) + (n : Int)))) R l (a + s + n) 0 := by simpa using h1.at' (a + s + n)
        have hne : g ≠ R := fun e => by
          obtain ⟨_, v, hR, _⟩ := h1
          exact hO.not_at hR (by decide) (by simp [Value.ownBlock, e])
        have HS : Hid (∀ nq, Sl (((w1.setCell ⟨R, 1, none⟩ (.int .i64 ((a : Int) + (s : Int) + (n : Int)))).drewN nq)).heap.size ((w1.setCell ⟨R, 1, none⟩ (.int .i64 ((a : Int) + (s : Int) + (n : Int)))).drewN nq) (.slice (some ⟨g, a + s, none⟩) n (cap - (a + s))) ((l.drop (a + s)).take n)) :=
          fun nq => take_sl hgl hne hcm hlc (by omega) HCL.out nq
        have HR : Hid (∀ nq, Rdr N ((w1.setCell ⟨R, 1, none⟩ (.int .i64 ((a : Int) + (s : Int) + (n : Int)))).drewN nq) R l (a + s + n) 0) := fun nq => h2.drewN nq
        have HG : Hid (∀ nq, w.grownBy ((w1.setCell ⟨R, 1, none⟩ (.int .i64 ((a : Int) + (s : Int) + (n : Int)))).drewN nq) (some R)) := fun nq =>
          grown_trans (grown_trans hg (grown_set _ _ _ _) (fun k e => .inl e)) (grown_drewN _ nq) (by simp)
        obtain ⟨b2', cap2', hO2, k0', k1', k2', -, -⟩ := h2.cells
        have k0'' : (w1.setCell ⟨R, 1, none⟩ (.int .i64 ((a : Int) + (s : Int) + (n : Int)))).cell? ⟨R, 0, none⟩ = some (.slice (some ⟨g, 0, none⟩) l.length cap) := by rw [World.cell?_setCell_other _ _ _ _ (by simp)]; exact k0
        have k1'' : (w1.setCell ⟨R, 1, none⟩ (.int .i64 ((a : Int) + (s : Int) + (n : Int)))).cell? ⟨R, 1, none⟩ = some (.int .i64 ((a : Int) + (s : Int) + (n : Int))) := by simpa using k1'
        unfold maxLen at hcm
        clear k0' k1' k2' hO2 h2 hO h1 hg
        go_quiet (fail)
        go_wp2
        · go_ret
          refine ⟨_, rfl, ?_, HR.out _, HG.out _⟩
          exact sl_zero _ _ _ _ (by omega)
        · go_ret
          exact ⟨_, rfl, HS.out _, HR.out _, HG.out _⟩
    · by_cases hm : most < (n : Int)
      · rw [if_pos hm]
        go_enter Tryz.func280, Tryz.ntmps280
        go_wp2_with (go_at_call 257; refine hp.mono ?_; rintro r w1 ⟨rfl, h1, hg⟩; obtain ⟨_, _, _, _, k1, k2, _, f2⟩ := h1.cells)
        go_ret
        exact ⟨_, rfl, Sl.nil _ _, h1.err 3, grown_trans hg (grown_set _ _ _ _) (fun k e => .inl e)⟩
      · rw [if_neg hm]
        by_cases hs : l.length - (a + s) < n
        · rw [if_pos hs]
          have hs' : (l.length : Int) - ((a : Int) + (s : Int)) < (n : Int) := by omega
          go_enter Tryz.func280, Tryz.ntmps280
          go_wp2_with (go_at_call 257; refine hp.mono ?_; rintro r w1 ⟨rfl, h1, hg⟩; obtain ⟨_, _, _, k0, k1, k2, _, f2⟩ := h1.cells)
          go_ret
          exact ⟨_, rfl, Sl.nil _ _, h1.err 2, grown_trans hg (grown_set _ _ _ _) (fun k e => .inl e)⟩
        · rw [if_neg hs]
          have hs' : (n : Int) ≤ (l.length : Int) - ((a : Int) + (s : Int)) := by omega
          go_enter Tryz.func280, Tryz.ntmps280
          go_wp2_with (go_at_call 257; refine hp.mono ?_; rintro r w1 ⟨rfl, h1, hg⟩; obtain ⟨b, cap, hO, k0, k1, k2, f1, f2⟩ := h1.cells; obtain ⟨g, rfl, hgl, hlc, hcm, hcl⟩ := hO.at0 (by omega); have HCL : Hid (CellsAt w1 g 0 l) := hcl; clear hcl)
          have h2 : Rdr N (w1.setCell ⟨R, 1, none⟩ (.int .i64 ((a : Int) + (s : Int) + (n : Int)))) R l (a + s + n) 0 := by simpa using h1.at' (a + s + n)
          have hne : g ≠ R := fun e => by
            obtain ⟨_, v, hR, _⟩ := h1
            exact hO.not_at hR (by decide) (by simp [Value.ownBlock, e])
          have HS : Hid (∀ nq, Sl (((w1.setCell ⟨R, 1, none⟩ (.int .i64 ((a : Int) + (s : Int) + (n : Int)))).drewN nq)).heap.size ((w1.setCell ⟨R, 1, none⟩ (.int .i64 ((a : Int) + (s : Int) + (n : Int)))).drewN nq) (.slice (some ⟨g, a + s, none⟩) n (cap - (a + s))) ((l.drop (a + s)).take n)) :=
            fun nq => take_sl hgl hne hcm hlc (by omega) HCL.out nq
          have HR : Hid (∀ nq, Rdr N ((w1.setCell ⟨R, 1, none⟩ (.int .i64 ((a : Int) + (s : Int) + (n : Int)))).drewN nq) R l (a + s + n) 0) := fun nq => h2.drewN nq
          have HG : Hid (∀ nq, w.grownBy ((w1.setCell ⟨R, 1, none⟩ (.int .i64 ((a : Int) + (s : Int) + (n : Int)))).drewN nq) (some R)) := fun nq =>
            grown_trans (grown_trans hg (grown_set _ _ _ _) (fun k e => .inl e)) (grown_drewN _ nq) (by simp)
          obtain ⟨b2', cap2', hO2, k0', k1', k2', -, -⟩ := h2.cells
          have k0'' : (w1.setCell ⟨R, 1, none⟩ (.int .i64 ((a : Int) + (s : Int) + (n : Int)))).cell? ⟨R, 0, none⟩ = some (.slice (some ⟨g, 0, none⟩) l.length cap) := by rw [World.cell?_setCell_other _ _ _ _ (by simp)]; exact k0
          have k1'' : (w1.setCell ⟨R, 1, none⟩ (.int .i64 ((a : Int) + (s : Int) + (n : Int)))).cell? ⟨R, 1, none⟩ = some (.int .i64 ((a : Int) + (s : Int) + (n : Int))) := by simpa using k1'
          unfold maxLen at hcm
          clear k0' k1' k2' hO2 h2 hO h1 hg
          go_quiet (fail)
          go_wp2
          · go_ret
            refine ⟨_, rfl, ?_, HR.out _, HG.out _⟩
            exact sl_zero _ _ _ _ (by omega)
          · go_ret
            exact ⟨_, rfl, HS.out _, HR.out _, HG.out _⟩
  · rw [if_pos he]
    have he' : ((e' : Int) != 0) = true := by simp; omega
    go_enter Tryz.func280, Tryz.ntmps280
    go_wp2_with (go_at_call 257; refine hp.mono ?_; rintro r w1 ⟨rfl, h1, hg⟩; obtain ⟨_, _, _, _, k1, k2, _, f2⟩ := h1.cells)
    go_ret
    exact ⟨_, rfl, Sl.nil _ _, h1, hg⟩

set_option maxRecDepth 100000 in
set_option maxHeartbeats 1000000 in
theorem rBytes_any (N R : Nat) (l : List UInt8) (a e : Nat) (most : Int) (w : World) (h : Rdr N w R l a e) (hl : l.length ≤ 1099511627776) (ha : a ≤ l.length) :
    Calls Tryz.prog 259 #[.pointer (some ⟨R, 0, none⟩), .int .i64 most] w fun r w' =>
      ∃ v, r = .returned v ∧ Ow w.heap.size w' v (takeAt l a e most).1 ∧ Rdr N w' R l (takeAt l a e most).2.1 (takeAt l a e most).2.2 ∧ w.grownBy w' (some R) := by
  have hp := take_any N R l a e most w h hl ha
  have hlen : (takeAt l a e most).1.length ≤ 1099511627776 := by
    unfold takeAt
    split
    · simp
    · split
      · simp
      · split
        · simp
        · simp; omega
  generalize takeAt l a e most = p at *
  obtain ⟨t, a', e'⟩ := p
  simp only at hp hlen ⊢
  go_enter Tryz.func259, Tryz.ntmps259
  go_wp2_with (first
    | (go_at_call 280; refine hp.mono ?_; rintro r w1 ⟨v1, rfl, hs1, h1, hg1⟩; obtain ⟨b, cap, rfl, -⟩ := id hs1)
    | (go_at_call 256; refine (fresh_any _ _ t _ hs1 hlen).mono ?_; rintro r w2 ⟨v2, rfl, hO2, hB2⟩))
  go_ret
  exact ⟨v2, rfl, hO2.base hg1.size, h1.below hB2 (Nat.le_refl _), grown_trans hg1 (Below.grownBy' hB2 none) (by simp)⟩

/-- 'string(b)' of bytes in memory. -/
theorem conv_sl {M : Nat} {w : World} {v : Value} {l : List UInt8} (h : Sl M w v l) : (convert 55 9 v).run Tryz.prog w = .ok (.string ⟨l.toArray⟩) w := by
  obtain ⟨a, cap, rfl, _, _, h3⟩ := h
  rcases h3 with rfl | ⟨b, off, rfl, hb, hc⟩
  · cases a with
    | none =>
      show (convert 55 9 (.slice none 0 cap)).run Tryz.prog w = _
      rw [run_convert_bytes_string w 55 9 5 none 0 cap Tryz.underlying55 Tryz.underlying5 Tryz.underlying9]
      simp [Conv.bytesToString]
      rfl
    | some ad => exact run_convert_bytes_back w 55 9 5 ad cap [] Tryz.underlying55 Tryz.underlying5 Tryz.underlying9 (by simp)
  · refine run_convert_bytes_back w 55 9 5 _ cap l Tryz.underlying55 Tryz.underlying5 Tryz.underlying9 (fun j hj => ?_)
    rw [Addr.add_lit, hc j hj]
    simp [encB, hj]

end Go.Proofs.YtnahghldlkjleaaGreatDoor.Cd
namespace Go.Proofs.YtnahghldlkjleaaGreatDoor.Cd
open Go.RowKit Go.Shelf

theorem Ow.below {N B : Nat} {w w' : World} {v : Value} {l : List UInt8} (h : Ow N w v l) (hB : Below B w w') (hs : w.heap.size ≤ B) : Ow N w' v l :=
  h.kept (row := none) ⟨hB.os, hB.tape, hB.output, hB.size, fun k hk _ => hB.block k (by omega)⟩ (by cases v.ownBlock <;> simp)

theorem Ow.alloc {N : Nat} {w : World} {v : Value} {l : List UInt8} (h : Ow N w v l) (o : Obj) : Ow N (w.alloc o) v l :=
  h.kept (World.grownBy_alloc w o none) (by cases v.ownBlock <;> simp)

/-- Bytes that are written out. -/
theorem sl_new (w : World) (l : List UInt8) (c : Array Value) (hl : 0 < l.length) (hm : l.length ≤ 1000) (hc : c.toList = l.map encB) : Sl (w.heap.size + 1) (w.alloc (.cells c 5)) (.slice (some ⟨w.heap.size, 0, none⟩) l.length l.length) l := by
  refine ⟨_, _, rfl, Nat.le_refl _, by unfold maxLen; omega, .inr ⟨_, _, rfl, by omega, fun i hi => ?_⟩⟩
  have h : (w.alloc (.cells c 5)).heap[w.heap.size]? = some (.cells c 5) := World.alloc_heap_new w _
  simp only [World.cell?, h, Nat.zero_add]
  have : c.toList[i]? = (l.map encB)[i]? := by rw [hc]
  rw [List.getElem?_map, List.getElem?_eq_getElem hi] at this
  simpa [hi] using this

theorem put300 : putB 300 = [172, 2] := by decide +kernel
theorem put300e : putE 300 = 0 := by decide +kernel
theorem putm1e : putE (-1) = 1 := by decide +kernel
theorem int300 : intAt [172, 2, 7] 0 = (300, 2, 0) := by decide +kernel
theorem pk5 : pk [5, 2, 97, 98, 1] 0 0 = (5, 1, 0) := by decide +kernel
theorem take5 : takeAt [5, 2, 97, 98, 1] 1 0 2 = ([97, 98], 4, 0) := by decide +kernel
theorem bool5 : boolAt [5, 2, 97, 98, 1] 4 0 = (true, 5, 0) := by decide +kernel
theorem done5 : doneE [5, 2, 97, 98, 1] 5 0 = 0 := by decide +kernel

end Go.Proofs.YtnahghldlkjleaaGreatDoor.Cd
namespace Go.Proofs.YtnahghldlkjleaaGreatDoor.Cd
open Go.RowKit Go.Shelf

/-- What was lent, as far as it reads. -/
theorem Ow.lent {N M : Nat} {w : World} {g cap : Nat} {l : List UInt8} (h : Ow N w (.slice (some ⟨g, 0, none⟩) (l.length + 1) cap) (l ++ [201])) (hM : w.heap.size ≤ M) : Sl M w (.slice (some ⟨g, 0, none⟩) l.length cap) l := by
  obtain ⟨a, c, e, h1, h2, h3⟩ := h.sl hM
  have hlen : (l ++ [(201 : UInt8)]).length = l.length + 1 := by simp
  rw [hlen] at e h1
  cases e
  refine ⟨_, _, rfl, by omega, h2, ?_⟩
  obtain ⟨b, off, e2, hb, hc⟩ := h3.resolve_left (by simp)
  refine .inr ⟨b, off, e2, hb, fun i hi => ?_⟩
  rw [hc i (by omega)]
  simp [List.getElem?_append, hi]

theorem Ow.mark {N : Nat} {w : World} {g cap : Nat} {l : List UInt8} (h : Ow N w (.slice (some ⟨g, 0, none⟩) (l.length + 1) cap) (l ++ [201])) : w.cell? ⟨g, l.length, none⟩ = some (.int .u8 201) ∧ l.length + 1 ≤ cap ∧ cap ≤ maxLen := by
  obtain ⟨a, c, e, h1, h2, h3⟩ := h.sl (Nat.le_refl _)
  have hlen : (l ++ [(201 : UInt8)]).length = l.length + 1 := by simp
  rw [hlen] at e h1
  cases e
  obtain ⟨b, off, e2, hb, hc⟩ := h3.resolve_left (by simp)
  cases e2
  refine ⟨?_, h1, h2⟩
  have := hc l.length (by omega)
  rw [Nat.zero_add] at this
  rw [this]
  simp [encB]

end Go.Proofs.YtnahghldlkjleaaGreatDoor.Cd
namespace Go.Proofs.YtnahghldlkjleaaGreatDoor.Cd
open Go.RowKit Go.Shelf

/-- Block B holds a writer (of type t) that has put l (in v, memory of its own), with the error e. -/
structure Wtr (t : TypeId) (N : Nat) (W : World) (B : Nat) (v : Value) (l : List UInt8) (e : Nat) : Prop where
  le : N ≤ B
  at0 : W.heap[B]? = some (.cells #[v, .int .i64 (e : Int)] t (0, 0))
  ow : Ow N W v l

/-- Of what was there only block B and the bytes of v may have turned. -/
structure Tn (w w' : World) (B : Nat) (v : Value) : Prop where
  os : w'.os = w.os
  tape : w'.tape = w.tape
  output : w'.output = w.output
  size : w.heap.size ≤ w'.heap.size
  block : ∀ k, k < w.heap.size → k ≠ B → v.ownBlock ≠ some k → w'.heap[k]? = w.heap[k]?

/-- v' lies in no memory, in v's, or in new memory. -/
def Son (w : World) (v v' : Value) : Prop := v'.ownBlock = none ∨ v'.ownBlock = v.ownBlock ∨ ∃ k, v'.ownBlock = some k ∧ w.heap.size ≤ k

theorem Tn.refl (w : World) (B : Nat) (v : Value) : Tn w w B v := ⟨rfl, rfl, rfl, Nat.le_refl _, fun _ _ _ _ => rfl⟩
theorem Son.refl (w : World) (v : Value) : Son w v v := .inr (.inl rfl)

theorem Tn.of_grown {w w' : World} {B : Nat} {v : Value} {row : Option Nat} (h : w.grownBy w' row) (hr : ∀ k, row = some k → k = B ∨ v.ownBlock = some k) : Tn w w' B v :=
  ⟨h.os, h.tape, h.output, h.size, fun k hk hB hv => h.block k hk (fun e => by rcases hr k e.symm with h | h; exact hB h; exact hv h)⟩

theorem Tn.trans {w w1 w2 : World} {B : Nat} {v v1 : Value} (h : Tn w w1 B v) (hs : Son w v v1) (k : Tn w1 w2 B v1) : Tn w w2 B v :=
  ⟨k.os.trans h.os, k.tape.trans h.tape, k.output.trans h.output, Nat.le_trans h.size k.size, fun j hj hB hv => (k.block j (Nat.lt_of_lt_of_le hj h.size) hB (fun e => by
    rcases hs with hs | hs | ⟨i, hs, hi⟩
    · rw [hs] at e; cases e
    · exact hv (hs ▸ e)
    · rw [hs] at e; cases e; omega)).trans (h.block j hj hB hv)⟩

theorem Son.trans {w w1 : World} {v v1 v2 : Value} (hz : w.heap.size ≤ w1.heap.size) (h : Son w v v1) (k : Son w1 v1 v2) : Son w v v2 := by
  rcases k with k | k | ⟨i, k, hi⟩
  · exact .inl k
  · rcases h with h | h | ⟨j, h, hj⟩
    · exact .inl (k.trans h)
    · exact .inr (.inl (k.trans h))
    · exact .inr (.inr ⟨j, k.trans h, hj⟩)
  · exact .inr (.inr ⟨i, k, by omega⟩)

theorem Wtr.lt {t : TypeId} {N : Nat} {W : World} {B : Nat} {v : Value} {l : List UInt8} {e : Nat} (h : Wtr t N W B v l e) : B < W.heap.size := (Array.getElem?_eq_some_iff.1 h.at0).1

theorem Wtr.cells {t : TypeId} {N : Nat} {W : World} {B : Nat} {v : Value} {l : List UInt8} {e : Nat} (h : Wtr t N W B v l e) :
    W.cell? ⟨B, 0, none⟩ = some v ∧ W.cell? ⟨B, 1, none⟩ = some (.int .i64 (e : Int)) ∧ W.frozen? ⟨B, 0, none⟩ = false ∧ W.frozen? ⟨B, 1, none⟩ = false := by
  have hR := h.at0
  exact ⟨by simp [World.cell?, hR], by simp [World.cell?, hR], by simp [World.frozen?, hR], by simp [World.frozen?, hR]⟩

theorem heap_set {W : World} {B : Nat} {cs : Array Value} {t : TypeId} {z : Nat × Nat} (h : W.heap[B]? = some (.cells cs t z)) (o : Nat) (u : Value) : (W.setCell ⟨B, o, none⟩ u).heap[B]? = some (.cells (cs.setIfInBounds o u) t z) := by
  obtain ⟨hlt, he⟩ := Array.getElem?_eq_some_iff.1 h
  show (W.heap.modify B _)[B]? = _
  rw [Array.getElem?_eq_getElem (by rw [Array.size_modify]; exact hlt), Array.getElem_modify_self, he]
  rfl

/-- A writer lies on where neither its block nor its bytes are turned. -/
theorem Wtr.kept {t : TypeId} {N : Nat} {w w' : World} {B C : Nat} {v u : Value} {l : List UInt8} {e : Nat} (h : Wtr t N w B v l e) (hT : Tn w w' C u) (hBC : B ≠ C) (hBu : u.ownBlock ≠ some B) (hvC : v.ownBlock ≠ some C) (hvu : ∀ k, v.ownBlock = some k → u.ownBlock ≠ some k) : Wtr t N w' B v l e := by
  refine ⟨h.le, (hT.block B h.lt hBC hBu).trans h.at0, ?_⟩
  refine ⟨h.ow.1, ?_⟩
  rcases h.ow.2 with h2 | ⟨g, cap, cur, hv, hg, hh, r⟩
  · exact .inl h2
  · subst hv
    exact .inr ⟨g, cap, cur, rfl, hg, (hT.block g (Array.getElem?_eq_some_iff.1 hh).1 (fun e => hvC (by rw [e]; rfl)) (hvu g rfl)).trans hh, r⟩

theorem Wtr.below {t : TypeId} {N M : Nat} {w w' : World} {B : Nat} {v : Value} {l : List UInt8} {e : Nat} (h : Wtr t N w B v l e) (hB : Below M w w') (hs : w.heap.size ≤ M) : Wtr t N w' B v l e := by
  have hlt := h.lt
  exact ⟨h.le, (hB.block B (by omega)).trans h.at0, h.ow.below hB hs⟩

theorem Wtr.drewN {t : TypeId} {N : Nat} {w : World} {B : Nat} {v : Value} {l : List UInt8} {e : Nat} (h : Wtr t N w B v l e) (n : Nat) : Wtr t N (w.drewN n) B v l e :=
  h.below (M := w.heap.size) ⟨rfl, rfl, rfl, Nat.le_refl _, fun _ _ => rfl⟩ (Nat.le_refl _)

/-- The error is written. -/
theorem Wtr.err {t : TypeId} {N : Nat} {w : World} {B : Nat} {v : Value} {l : List UInt8} {e : Nat} (ht : t ≠ 5) (h : Wtr t N w B v l e) (e' : Nat) : Wtr t N (w.setCell ⟨B, 1, none⟩ (.int .i64 (e' : Int))) B v l e' :=
  ⟨h.le, by rw [heap_set h.at0]; rfl, h.ow.kept (grown_set w B 1 _) (.inr (h.ow.not_at h.at0 ht))⟩

/-- The bytes are written, that lie in memory already. -/
theorem Wtr.put {t : TypeId} {N : Nat} {w : World} {B : Nat} {v v' : Value} {l l' : List UInt8} {e : Nat} (ht : t ≠ 5) (h : Wtr t N w B v l e) (ho : Ow N w v' l') : Wtr t N (w.setCell ⟨B, 0, none⟩ v') B v' l' e :=
  ⟨h.le, by rw [heap_set h.at0]; rfl, ho.kept (grown_set w B 0 _) (.inr (ho.not_at h.at0 ht))⟩

theorem Wtr.mk' {t : TypeId} {N : Nat} {w : World} {B : Nat} {x v' : Value} {l' : List UInt8} {e : Nat} (ht : t ≠ 5) (hle : N ≤ B) (h : w.heap[B]? = some (.cells #[x, .int .i64 (e : Int)] t (0, 0))) (ho : Ow N w v' l') : Wtr t N (w.setCell ⟨B, 0, none⟩ v') B v' l' e :=
  ⟨hle, by rw [heap_set h]; rfl, ho.kept (grown_set w B 0 _) (.inr (ho.not_at h ht))⟩

theorem Son.of {w : World} {v v' : Value} (h : SameOrNew w v v') : Son w v v' := .inr h

theorem Tn.set {w w1 : World} {B : Nat} {v : Value} (h : Tn w w1 B v) (o : Nat) (u : Value) : Tn w (w1.setCell ⟨B, o, none⟩ u) B v :=
  ⟨h.os, h.tape, h.output, Nat.le_trans h.size (by simp [World.setCell]), fun k hk hB hv => (Below.heap_setCell _ _ _ k hB).trans (h.block k hk hB hv)⟩

set_option maxRecDepth 100000 in
set_option maxHeartbeats 400000 in
theorem newWriter_any (w : World) : Calls Tryz.prog 215 #[] w fun r w' => r = .returned (.pointer (some ⟨w.heap.size, 0, none⟩)) ∧ Wtr 314 w.heap.size w' w.heap.size (.slice none 0 0) [] 0 ∧ Below w.heap.size w w' := by
  go_enter Tryz.func215, Tryz.ntmps215
  go_wp2
  go_ret
  exact ⟨rfl, ⟨Nat.le_refl _, World.alloc_heap_new w _, Ow.nil _ _⟩, (Below.refl _ w).alloc (Nat.le_refl _) _⟩

set_option maxRecDepth 100000 in
set_option maxHeartbeats 1000000 in
/-- fail: the error is kept, what was put is dropped. -/
theorem fail_any (N B : Nat) (v : Value) (l : List UInt8) (e e' : Nat) (w : World) (h : Wtr 314 N w B v l e) :
    Calls Tryz.prog 262 #[.pointer (some ⟨B, 0, none⟩), .int .i64 (e' : Int)] w fun r w' => r = .returned (.tuple #[]) ∧ Wtr 314 N w' B (.slice none 0 0) [] e' ∧ Tn w w' B v := by
  obtain ⟨k0, k1, f0, f1⟩ := h.cells
  have HF : Hid (Wtr 314 N ((w.setCell ⟨B, 1, none⟩ (.int .i64 (e' : Int))).setCell ⟨B, 0, none⟩ (.slice none 0 0)) B (.slice none 0 0) [] e') := (h.err (by decide) e').put (by decide) (Ow.nil _ _)
  have HT : Hid (Tn w ((w.setCell ⟨B, 1, none⟩ (.int .i64 (e' : Int))).setCell ⟨B, 0, none⟩ (.slice none 0 0)) B v) :=
    Tn.of_grown (grown_trans (grown_set w B 1 _) (grown_set _ B 0 _) (fun k e => .inl e)) (fun k e => by cases e; exact .inl rfl)
  obtain ⟨b, c, rfl, -, -⟩ := h.ow.shape
  clear h
  go_enter Tryz.func262, Tryz.ntmps262
  go_wp2
  go_end0
  exact ⟨rfl, HF.out, HT.out⟩

/-- What a writer has, and its error, behind a number. -/
def wInt (l : List UInt8) (e : Nat) (n : Int) : List UInt8 × Nat := if e ≠ 0 then (l, e) else if isNumB n then (l ++ numB n.toNat, 0) else ([], 1)

set_option maxRecDepth 100000 in
set_option maxHeartbeats 1000000 in
theorem wwInt_any (N B : Nat) (v : Value) (l : List UInt8) (e : Nat) (n : Int) (w : World) (h : Wtr 314 N w B v l e) (hl : l.length ≤ 1073741824) :
    Calls Tryz.prog 216 #[.pointer (some ⟨B, 0, none⟩), .int .i64 n] w fun r w' => r = .returned (.tuple #[]) ∧ ∃ v', Wtr 314 N w' B v' (wInt l e n).1 (wInt l e n).2 ∧ Tn w w' B v ∧ Son w v v' := by
  obtain ⟨k0, k1, f0, f1⟩ := h.cells
  have hlt := h.lt
  have hle := h.le
  obtain ⟨b, c, hv, -, -⟩ := h.ow.shape
  unfold wInt
  by_cases he : e = 0
  · subst he
    rw [if_neg (by simp)]
    by_cases hN : isNumB n = true
    · rw [if_pos hN]
      have hrange : 0 ≤ n ∧ n ≤ 4611686018427387904 := by simpa [isNumB] using hN
      obtain ⟨m, rfl⟩ := Int.eq_ofNat_of_zero_le hrange.1
      simp only [Int.toNat_natCast]
      subst hv
      go_enter Tryz.func216, Tryz.ntmps216
      go_wp2_with (go_at_call 261; refine (isNumber_any _ _).mono ?_; rintro r w1 ⟨rfl, hw⟩; subst w1)
      refine (appendInt_any N _ l m (by omega) _ (by omega) hl h.ow).mono ?_
      rintro r w1 ⟨v1, rfl, hO1, hg1, hs1⟩
      have hT1 : Tn w w1 B (.slice b l.length c) := Tn.of_grown hg1 (fun k e => .inr e)
      have h1 : w1.heap[B]? = some (.cells #[.slice b l.length c, .int .i64 0] 314 (0, 0)) := (hg1.block B hlt (fun e => h.ow.not_at h.at0 (by decide) e.symm)).trans h.at0
      obtain ⟨b1, c1, rfl, -, -⟩ := hO1.shape
      have hf1 : w1.frozen? ⟨B, 0, none⟩ = false := by simp [World.frozen?, h1]
      have hc1 : w1.cell? ⟨B, 0, none⟩ = some (.slice b l.length c) := by simp [World.cell?, h1]
      have hW := Wtr.mk' (e := 0) (by decide) hle h1 hO1
      have hTT := hT1.set 0 (.slice b1 (l ++ numB m).length c1)
      have hlen : (l ++ numB m).length = l.length + (numB m).length := List.length_append
      rw [hlen] at hW hTT hs1 ⊢
      clear hlen hO1 hg1 hT1
      go_wp2
      go_end0
      exact ⟨rfl, _, hW, hTT, Son.of hs1⟩
    · rw [if_neg hN]
      have hN' : isNumB n = false := by simpa using hN
      clear hN
      subst hv
      go_enter Tryz.func216, Tryz.ntmps216
      go_wp2_with (first
        | (go_at_call 261; refine (isNumber_any _ _).mono ?_; rintro r w1 ⟨rfl, hw⟩; subst w1)
        | (go_at_call 262; refine (fail_any N B _ l 0 1 w h).mono ?_; rintro r w1 ⟨rfl, h1, hT1⟩))
      refine bodyPost_ret (results_none rfl _ _ _) rfl ?_
      exact ⟨rfl, _, h1, hT1, .inl rfl⟩
  · rw [if_pos he]
    have he' : ((e : Int) != 0) = true := by simp; omega
    go_enter Tryz.func216, Tryz.ntmps216
    go_wp2
    refine bodyPost_ret (results_none rfl _ _ _) rfl ?_
    exact ⟨rfl, v, h, Tn.refl _ _ _, Son.refl _ _⟩
end Go.Proofs.YtnahghldlkjleaaGreatDoor.Cd
namespace Go.Proofs.YtnahghldlkjleaaGreatDoor.Cd
open Go.RowKit Go.Shelf

theorem wInt_len (l : List UInt8) (e : Nat) (n : Int) : (wInt l e n).1.length ≤ l.length + 10 := by
  unfold wInt
  split
  · simp
  · split
    · have := num_len_le 9 n.toNat; simp [numB]; omega
    · simp

theorem frozen_at0 {w : World} {B : Nat} {x y : Value} {t : TypeId} (h : w.heap[B]? = some (.cells #[x, y] t (0, 0))) : w.frozen? ⟨B, 0, none⟩ = false := by simp [World.frozen?, h]
theorem cell_at0 {w : World} {B : Nat} {x y : Value} {t : TypeId} (h : w.heap[B]? = some (.cells #[x, y] t (0, 0))) : w.cell? ⟨B, 0, none⟩ = some x := by simp [World.cell?, h]

theorem Sl.tn {M : Nat} {w w' : World} {B : Nat} {v x : Value} {m : List UInt8} (h : Sl M w x m) (hM : M ≤ w.heap.size) (hT : Tn w w' B v) (hd : m ≠ [] → x.ownBlock ≠ some B ∧ ∀ k, x.ownBlock = some k → v.ownBlock ≠ some k) : Sl M w' x m := by
  obtain ⟨a, cap, rfl, h1, h2, h3⟩ := h
  refine ⟨a, cap, rfl, h1, h2, ?_⟩
  rcases h3 with h3 | ⟨b, off, rfl, hb, hc⟩
  · exact .inl h3
  · refine .inr ⟨b, off, rfl, hb, fun i hi => ?_⟩
    obtain ⟨hB, hv⟩ := hd (by intro e; subst e; simp at hi)
    exact (World.cell?_of_block (hT.block b (by omega) (fun e => hB (by rw [e]; rfl)) (hv b rfl))).trans (hc i hi)

/-- What a writer has, and its error, behind bytes. -/
def wBytes (l : List UInt8) (e : Nat) (m : List UInt8) (most : Int) : List UInt8 × Nat := if e ≠ 0 then (l, e) else if max most 0 < (m.length : Int) then ([], 3) else (l ++ numB m.length ++ m, 0)

set_option maxRecDepth 100000 in
set_option maxHeartbeats 2000000 in
theorem wwBytes_any (N B M : Nat) (v x : Value) (l m : List UInt8) (e : Nat) (most : Int) (w : World) (h : Wtr 314 N w B v l e) (hl : l.length ≤ 1073741824) (hm : m.length ≤ 1073741824)
    (hx : Sl M w x m) (hM : M ≤ w.heap.size) (hxd : m ≠ [] → x.ownBlock ≠ some B ∧ ∀ k, x.ownBlock = some k → v.ownBlock ≠ some k) :
    Calls Tryz.prog 219 #[.pointer (some ⟨B, 0, none⟩), x, .int .i64 most] w fun r w' => r = .returned (.tuple #[]) ∧ ∃ v', Wtr 314 N w' B v' (wBytes l e m most).1 (wBytes l e m most).2 ∧ Tn w w' B v ∧ Son w v v' := by
  obtain ⟨k0, k1, f0, f1⟩ := h.cells
  have hlt := h.lt
  have hle := h.le
  obtain ⟨b, c, hv, -, -⟩ := h.ow.shape
  obtain ⟨bx, cx, hxx, -⟩ := id hx
  subst hxx
  unfold wBytes
  by_cases he : e = 0
  · subst he
    rw [if_neg (by simp)]
    have hcase : (most < 0 ∧ max most 0 = 0) ∨ (¬ most < 0 ∧ max most 0 = most) := by omega
    have hmost : ∃ mm : Int, max most 0 = mm ∧ ((most < 0 ∧ mm = 0) ∨ (¬ most < 0 ∧ mm = most)) := ⟨_, rfl, hcase⟩
    obtain ⟨mm, hmm, hcase'⟩ := hmost
    rw [hmm]
    by_cases hbig : mm < (m.length : Int)
    · rw [if_pos hbig]
      subst hv
      clear hmm hcase
      rcases hcase' with ⟨hneg, rfl⟩ | ⟨hneg, rfl⟩
      all_goals
        go_enter Tryz.func219, Tryz.ntmps219
        go_wp2_with (go_at_call 262; refine (fail_any N B _ l 0 3 w h).mono ?_; rintro r w1 ⟨rfl, h1, hT1⟩)
        refine bodyPost_ret (results_none rfl _ _ _) rfl ?_
        exact ⟨rfl, _, h1, hT1, .inl rfl⟩
    · rw [if_neg hbig]
      subst hv
      clear hmm hcase
      have hnb := num_len_le 9 m.length
      have hlen : (l ++ numB m.length).length = l.length + (numB m.length).length := List.length_append
      rcases hcase' with ⟨hneg, rfl⟩ | ⟨hneg, rfl⟩
      all_goals
        go_enter Tryz.func219, Tryz.ntmps219
        go_wp2_with fail
        refine (appendInt_any N _ l m.length (by omega) w (by omega) hl h.ow).mono ?_
        rintro r w1 ⟨v1, rfl, hO1, hg1, hs1⟩
        have hT1 : Tn w w1 B (.slice b l.length c) := Tn.of_grown hg1 (fun k e => .inr e)
        have h1 : w1.heap[B]? = some (.cells #[.slice b l.length c, .int .i64 0] 314 (0, 0)) := (hg1.block B hlt (fun e => h.ow.not_at h.at0 (by decide) e.symm)).trans h.at0
        have hx1 := hx.tn hM hT1 hxd
        obtain ⟨b1, c1, hv1, -, -⟩ := hO1.shape
        rw [hlen] at hv1
        subst hv1
        have hz1 := hg1.size
        go_wp2_with (at_builtin; refine wpList_append_ow rfl _ _ rfl N M _ _ (l ++ numB m.length) m rfl hO1 rfl hx1 (by rw [hlen]; unfold numB; omega) (by omega) ?_; intro v2 w2 hO2 hg2 hn2; obtain ⟨b2, c2, hv2, -, -⟩ := hO2.shape; rw [List.length_append, hlen] at hv2; subst hv2; have h2 : w2.heap[B]? = some (.cells #[.slice b l.length c, .int .i64 0] 314 (0, 0)) := (hg2.block B (by omega) (fun e => hO1.not_at h1 (by decide) e.symm)).trans h1; have hf2 := frozen_at0 h2; have hc2 := cell_at0 h2)
        go_end0
        have hS : Son w (.slice b l.length c) (.slice b1 (l.length + (numB m.length).length) c1) := Son.of hs1
        have hT2 : Tn w1 w2 B (.slice b1 (l.length + (numB m.length).length) c1) := Tn.of_grown hg2 (fun k e => .inr e)
        refine ⟨rfl, _, Wtr.mk' (e := 0) (by decide) hle h2 hO2, (hT1.trans hS hT2).set 0 _, hS.trans hz1 ?_⟩
        rcases hn2 with hn2 | hn2
        · exact .inr (.inl hn2)
        · exact .inr (.inr ⟨_, hn2, Nat.le_refl _⟩)
  · rw [if_pos he]
    have he' : ((e : Int) != 0) = true := by simp; omega
    go_enter Tryz.func219, Tryz.ntmps219
    go_wp2
    refine bodyPost_ret (results_none rfl _ _ _) rfl ?_
    exact ⟨rfl, v, h, Tn.refl _ _ _, Son.refl _ _⟩

/-- The bytes of a text, in new memory. -/
theorem conv_str (w : World) (m : List UInt8) (hm : m.length ≤ 1073741824) : ∃ cap w1, (convert 9 55 (.string ⟨m.toArray⟩)).run Tryz.prog w = .ok (.slice (some ⟨w.heap.size, 0, none⟩) m.length cap) w1 ∧ Sl w1.heap.size w1 (.slice (some ⟨w.heap.size, 0, none⟩) m.length cap) m ∧ Below w.heap.size w w1 := by
  refine ⟨_, _, run_bytes_of_string w 9 55 5 ⟨m.toArray⟩ Tryz.underlying9 Tryz.underlying55 Tryz.underlying5, ?_, ?_⟩
  · have hsz : (⟨m.toArray⟩ : ByteArray).size = m.length := by simp [ByteArray.size]
    refine ⟨_, _, rfl, ?_, ?_, ?_⟩
    · have := grownCap_ge w m.length 0 5; rw [hsz]; exact this
    · exact grownCap_le_maxLen w _ 0 5 (by rw [hsz]; unfold maxLen; omega)
    · refine .inr ⟨w.heap.size, 0, rfl, by simp, fun i hi => ?_⟩
      have hh := World.cell?_alloc_mark w.drew (bytesRow ⟨m.toArray⟩ (grownCap w (⟨m.toArray⟩ : ByteArray).size 0 5)) 5 ((bytesRow ⟨m.toArray⟩ (grownCap w (⟨m.toArray⟩ : ByteArray).size 0 5)).size, (bytesRow ⟨m.toArray⟩ (grownCap w (⟨m.toArray⟩ : ByteArray).size 0 5)).size + 1) (0 + i)
      refine Eq.trans hh ?_
      unfold bytesRow
      rw [Nat.zero_add, Array.getElem?_append_left (by simpa using hi)]
      simp [encB, hi]
  · exact ((Below.refl _ w).drew).alloc (Nat.le_refl _) _

set_option maxRecDepth 100000 in
set_option maxHeartbeats 2000000 in
theorem wwDone_any (N B : Nat) (v : Value) (l : List UInt8) (e : Nat) (w : World) (h : Wtr 314 N w B v l e) (hl : l.length ≤ 1073741824) :
    Calls Tryz.prog 220 #[.pointer (some ⟨B, 0, none⟩)] w fun r w' => ∃ u, r = .returned (.tuple #[u, .int .i64 (e : Int)]) ∧ Ow w.heap.size w' u l ∧ Below w.heap.size w w' := by
  obtain ⟨k0, k1, f0, f1⟩ := h.cells
  obtain ⟨b, c, rfl, -, -⟩ := h.ow.shape
  have hlt := h.lt
  have hs : Sl w.heap.size w.drew (.slice b l.length c) l := (h.ow.sl (Nat.le_refl _)).below ⟨rfl, rfl, rfl, Nat.le_refl _, fun _ _ => rfl⟩
  go_enter Tryz.func220, Tryz.ntmps220
  go_wp2
  go_region_held3 (fun w' => w'.cell? ⟨B, 0, none⟩ = some (.slice b l.length c) ∧ w'.cell? ⟨B, 1, none⟩ = some (.int .i64 (e : Int))) (go_keep)
    (first | (go_at_call 256; refine (fresh_any _ _ l _ hs (by omega)).mono ?_; rintro r w1 ⟨u, rfl, hO1, hB1⟩; obtain ⟨b1, c1, rfl, -, -⟩ := hO1.shape; have q0 := (hB1.cell (p := ⟨B, 0, none⟩) hlt).trans k0; have q1 := (hB1.cell (p := ⟨B, 1, none⟩) hlt).trans k1))
  have hBB : Below w.heap.size w w1 := ⟨hB1.os, hB1.tape, hB1.output, hB1.size, hB1.block⟩
  clear q0 q1 hs
  go_wp2
  go_ret2
  exact ⟨_, rfl, hO1, hBB⟩
end Go.Proofs.YtnahghldlkjleaaGreatDoor.Cd
namespace Go.Proofs.YtnahghldlkjleaaGreatDoor.Cd
open Go.RowKit Go.Shelf

/-- One put, as it lies in memory, and the bytes that it tells. -/
structure PutD where
  kind : Int
  n : Int
  most : Int
  t : Bool
  a : Option Addr
  cap : Nat
  bs : List UInt8

def PutD.x (d : PutD) : Value := .slice d.a d.bs.length d.cap

/-- Puts that came in. -/
def PutsAt (N : Nat) (w : World) (a : Option Addr) (n : Nat) (D : Nat → PutD) : Prop :=
  n = 0 ∨ ∃ b off, a = some ⟨b, off, none⟩ ∧ b < N ∧ ∀ i, i < n → w.cell? ⟨b, off + i * 5, none⟩ = some (.int .i64 (D i).kind) ∧ w.cell? ⟨b, off + i * 5 + 1, none⟩ = some (.int .i64 (D i).n) ∧
    w.cell? ⟨b, off + i * 5 + 2, none⟩ = some (.int .i64 (D i).most) ∧ w.cell? ⟨b, off + i * 5 + 3, none⟩ = some (.bool (D i).t) ∧ w.cell? ⟨b, off + i * 5 + 4, none⟩ = some (D i).x ∧ Sl N w (D i).x (D i).bs

theorem info23 : (Tryz.prog.info? 55).map (fun i => (i.zero, i.size, i.bytes)) = some (some (.slice none 0 0), 1, 24) := by kernel_rfl

/-- The headers of the puts' bytes. -/
def heads (D : Nat → PutD) (n : Nat) : List Value := (List.range n).map fun i => (D i).x

theorem heads_succ (D : Nat → PutD) (n : Nat) : heads D (n + 1) = heads D n ++ [(D n).x] := by simp [heads, List.range_succ]
theorem heads_len (D : Nat → PutD) (n : Nat) : (heads D n).length = n := by simp [heads]

/-- How many bytes the first n have. -/
def total (D : Nat → PutD) : Nat → Nat
  | 0 => 0
  | n + 1 => total D n + (D n).bs.length

/-- What Few answers. -/
def Fewed (D : Nat → PutD) (n : Nat) (r : Ending) : Prop := ∃ t, r = .returned (.bool t) ∧ (t = true → total D n ≤ 20000)

theorem ownsRow_cell {w : World} {N : Nat} {v : Value} {n : Nat} {xs : List Value} (h : w.ownsRow N 55 1 v n xs) (hn : 0 < n) : ∃ g cap, v = .slice (some ⟨g, 0, none⟩) n cap ∧ cap ≤ maxLen ∧ ∀ i, i < n → w.cell? ⟨g, i, none⟩ = xs[i]? := by
  rcases h.2 with ⟨_, h0⟩ | ⟨g, cap, cur, rfl, _, hg, h1, h2, h3, h4⟩
  · omega
  · refine ⟨g, cap, rfl, h2, fun i hi => ?_⟩
    simp only [World.cell?, hg]
    rw [Nat.mul_one] at h4
    rw [← h4, List.getElem?_take, if_pos hi]
    simp

end Go.Proofs.YtnahghldlkjleaaGreatDoor.Cd
namespace Go.Proofs.YtnahghldlkjleaaGreatDoor.Cd

theorem num_fuel : ∀ (f g n : Nat), n < 128 ^ (f + 1) → f ≤ g → num g n = num f n
  | 0, g, n, h, _ => by rw [num_lt (by simpa using h), num_lt (by simpa using h)]
  | f + 1, 0, n, _, hg => by omega
  | f + 1, g + 1, n, h, hg => by
    by_cases hn : n < 128
    · rw [num_lt hn, num_lt hn]
    · rw [num_ge (by omega), num_ge (by omega), num_fuel f g (n / 128) (by rw [Nat.pow_succ] at h; omega) (by omega)]

theorem pow9 : (128 : Nat) ^ (8 + 1) = 9223372036854775808 := by decide

theorem numB_eq (n : Nat) (h : n ≤ 4611686018427387904) : numB n = num 8 n := num_fuel 8 9 n (by rw [pow9]; omega) (by omega)

theorem ofNat_lo {n : Nat} (h : n < 128) : (UInt8.ofNat n).toNat = n := by simp; omega
theorem ofNat_hi (n : Nat) : (UInt8.ofNat (n % 128 + 128)).toNat = n % 128 + 128 := by simp; omega

theorem ahead_num : ∀ (f g n : Nat) (t : List UInt8), n < 128 ^ (f + 1) → f < g → ahead g (num f n ++ t) = num f n
  | 0, 0, n, t, _, hg => by omega
  | f + 1, 0, n, t, _, hg => by omega
  | 0, g + 1, n, t, h, _ => by
    have hn : n < 128 := by simpa using h
    rw [num_lt hn]
    simp only [List.cons_append, List.nil_append, ahead, ofNat_lo hn, hn, if_true]
  | f + 1, g + 1, n, t, h, hg => by
    by_cases hn : n < 128
    · rw [num_lt hn]
      simp only [List.cons_append, List.nil_append, ahead, ofNat_lo hn, hn, if_true]
    · rw [num_ge (by omega)]
      have hi := ofNat_hi n
      simp only [List.cons_append, ahead]
      rw [if_neg (by omega), ahead_num f g (n / 128) t (by rw [Nat.pow_succ] at h; omega) (by omega)]

theorem val_num : ∀ (f n : Nat), n < 128 ^ (f + 1) → val (num f n) = n
  | 0, n, h => by
    have hn : n < 128 := by simpa using h
    rw [num_lt hn]; simp only [val, ofNat_lo hn]; omega
  | f + 1, n, h => by
    by_cases hn : n < 128
    · rw [num_lt hn]; simp only [val, ofNat_lo hn]; omega
    · rw [num_ge (by omega)]
      simp only [val, ofNat_hi, val_num f (n / 128) (by rw [Nat.pow_succ] at h; omega)]
      omega

theorem lastB_cons (x : UInt8) (l : List UInt8) (h : l ≠ []) : lastB (x :: l) = lastB l := by
  unfold lastB
  cases l with
  | nil => exact absurd rfl h
  | cons y l => simp [List.getLastD]

theorem last_num : ∀ (f n : Nat), n < 128 ^ (f + 1) → lastB (num f n) < 128 ∧ (lastB (num f n) = 0 → n = 0)
  | 0, n, h => by
    have hn : n < 128 := by simpa using h
    have h2 := ofNat_lo hn
    rw [num_lt hn]; simp only [lastB, List.getLastD_cons, List.getLastD_nil]; omega
  | f + 1, n, h => by
    by_cases hn : n < 128
    · have h2 := ofNat_lo hn
      rw [num_lt hn]; simp only [lastB, List.getLastD_cons, List.getLastD_nil]; omega
    · rw [num_ge (by omega), lastB_cons _ _ (num_ne _ _)]
      have := last_num f (n / 128) (by rw [Nat.pow_succ] at h; omega)
      exact ⟨this.1, fun e => by have := this.2 e; omega⟩

/-- There and back: a number's bytes, with anything behind them. -/
theorem intAt_num (n : Nat) (t : List UInt8) (h : n ≤ 4611686018427387904) : intAt (numB n ++ t) ((0 : Nat) : Int) = (n, (numB n).length, 0) := by
  have hlt : n < 128 ^ (8 + 1) := by rw [pow9]; omega
  have hp := num_len_pos 8 n
  have hl := last_num 8 n hlt
  unfold intAt
  rw [numB_eq n h, if_neg (by simp; omega)]
  simp only [Int.toNat_natCast, List.drop_zero]
  rw [ahead_num 8 9 n t hlt (by omega)]
  unfold verdict
  have hz : ¬ (lastB (num 8 n) = 0 ∧ 1 < (num 8 n).length) := by
    rintro ⟨h1, h2⟩
    have := hl.2 h1
    subst this
    rw [num_lt (by omega)] at h2
    simp at h2
  rw [if_neg (by omega), if_neg (by omega), if_neg hz, val_num 8 n hlt, if_neg (by omega)]

theorem numB_front (a b : Nat) (ha : a ≤ 4611686018427387904) (hb : b ≤ 4611686018427387904) (hl : (numB a).length ≤ (numB b).length) : (numB a = (numB b).take (numB a).length) ↔ a = b := by
  constructor
  · intro h
    have h1 := intAt_num a ((numB b).drop (numB a).length) ha
    have h2 := intAt_num b [] hb
    have h3 : numB a ++ (numB b).drop (numB a).length = numB b := by
      conv => lhs; arg 1; rw [h]
      exact List.take_append_drop _ _
    rw [h3] at h1
    rw [List.append_nil, h1] at h2
    exact congrArg Prod.fst h2
  · rintro rfl
    simp

theorem num_len_mono : ∀ (f a b : Nat), a ≤ b → (num f a).length ≤ (num f b).length
  | 0, a, b, _ => by simp [num]
  | f + 1, a, b, h => by
    by_cases ha : a < 128
    · rw [num_lt ha]; exact num_len_pos (f + 1) b
    · rw [num_ge (by omega), num_ge (by omega)]
      have := num_len_mono f (a / 128) (b / 128) (Nat.div_le_div_right h)
      simpa using this
end Go.Proofs.YtnahghldlkjleaaGreatDoor.Cd
namespace Go.Proofs.YtnahghldlkjleaaGreatDoor.Cd
open Go.RowKit Go.Shelf

/-- One put. -/
def stepP (s : List UInt8 × Nat) (d : PutD) : List UInt8 × Nat :=
  if d.kind = 0 then wInt s.1 s.2 d.n
  else if d.kind = 1 then wInt s.1 s.2 (if d.t then 1 else 0)
  else if d.kind = 2 then wBytes s.1 s.2 d.bs d.most
  else if d.kind = 3 then wBytes s.1 s.2 d.bs d.most
  else s

/-- The first k puts. -/
def told (D : Nat → PutD) : Nat → List UInt8 × Nat
  | 0 => ([], 0)
  | k + 1 => stepP (told D k) (D k)

theorem wBytes_len (l : List UInt8) (e : Nat) (m : List UInt8) (most : Int) : (wBytes l e m most).1.length ≤ l.length + 10 + m.length := by
  have := num_len_le 9 m.length
  unfold wBytes
  split
  · simp; omega
  · split
    · simp
    · simp [numB]; omega

theorem stepP_len (s : List UInt8 × Nat) (d : PutD) : (stepP s d).1.length ≤ s.1.length + 10 + d.bs.length := by
  unfold stepP
  split
  · have := wInt_len s.1 s.2 d.n; omega
  · split
    · have := wInt_len s.1 s.2 (if d.t then 1 else 0); omega
    · split
      · exact wBytes_len _ _ _ _
      · split
        · exact wBytes_len _ _ _ _
        · omega

theorem told_len (D : Nat → PutD) : ∀ k, (told D k).1.length ≤ 10 * k + total D k
  | 0 => by simp [told]
  | k + 1 => by
    have h1 := told_len D k
    have h2 := stepP_len (told D k) (D k)
    simp only [told, total]; omega

theorem total_mono (D : Nat → PutD) : ∀ {k n}, k ≤ n → total D k ≤ total D n
  | k, 0, h => by have : k = 0 := by omega
                  subst this; exact Nat.le_refl _
  | k, n + 1, h => by
    by_cases e : k = n + 1
    · subst e; exact Nat.le_refl _
    · have := total_mono D (show k ≤ n by omega); simp only [total]; omega

theorem total_one (D : Nat → PutD) {k n : Nat} (h : k < n) : (D k).bs.length ≤ total D n := by
  have := total_mono D (show k + 1 ≤ n from h)
  simp only [total] at this; omega

/-- An error stays, and nothing is had behind it. -/
theorem stepP_err (s : List UInt8 × Nat) (d : PutD) (h : s.2 ≠ 0 → s.1 = []) : ((stepP s d).2 ≠ 0 → (stepP s d).1 = []) ∧ ((stepP s d).2 = 0 → s.2 = 0) := by
  have hw : ∀ n, ((wInt s.1 s.2 n).2 ≠ 0 → (wInt s.1 s.2 n).1 = []) ∧ ((wInt s.1 s.2 n).2 = 0 → s.2 = 0) := by
    intro n; unfold wInt
    by_cases he : s.2 = 0
    · rw [if_neg (by simpa using he)]; split <;> simp [he]
    · rw [if_pos he]; exact ⟨h, fun h => h⟩
  have hb : ∀ m most, ((wBytes s.1 s.2 m most).2 ≠ 0 → (wBytes s.1 s.2 m most).1 = []) ∧ ((wBytes s.1 s.2 m most).2 = 0 → s.2 = 0) := by
    intro m most; unfold wBytes
    by_cases he : s.2 = 0
    · rw [if_neg (by simpa using he)]; split <;> simp [he]
    · rw [if_pos he]; exact ⟨h, fun h => h⟩
  unfold stepP
  split
  · exact hw _
  · split
    · exact hw _
    · split
      · exact hb _ _
      · split
        · exact hb _ _
        · exact ⟨h, fun h => h⟩

theorem told_err (D : Nat → PutD) : ∀ k, (told D k).2 ≠ 0 → (told D k).1 = []
  | 0 => by simp [told]
  | k + 1 => (stepP_err (told D k) (D k) (told_err D k)).1

theorem told_ok (D : Nat → PutD) : ∀ {k n}, k ≤ n → (told D n).2 = 0 → (told D k).2 = 0
  | k, 0, h, h0 => by have : k = 0 := by omega
                      subst this; exact h0
  | k, n + 1, h, h0 => by
    by_cases e : k = n + 1
    · subst e; exact h0
    · exact told_ok D (show k ≤ n by omega) ((stepP_err (told D n) (D n) (told_err D n)).2 h0)

/-- The bytes of one put that has no error. -/
def encP (d : PutD) : List UInt8 :=
  if d.kind = 0 then numB d.n.toNat
  else if d.kind = 1 then numB (if d.t then 1 else 0)
  else if d.kind = 2 ∨ d.kind = 3 then numB d.bs.length ++ d.bs
  else []

/-- What a put without an error is. -/
theorem stepP_ok (s : List UInt8 × Nat) (d : PutD) (h : (stepP s d).2 = 0) (hs : s.2 = 0) :
    (stepP s d).1 = s.1 ++ encP d ∧ (d.kind = 0 → isNumB d.n = true) ∧ (d.kind = 2 ∨ d.kind = 3 → (d.bs.length : Int) ≤ max d.most 0) := by
  unfold stepP at h ⊢
  unfold encP
  by_cases k0 : d.kind = 0
  · rw [if_pos k0] at h ⊢
    rw [if_pos k0]
    unfold wInt at h ⊢
    rw [if_neg (by simpa using hs)] at h ⊢
    by_cases hN : isNumB d.n = true
    · rw [if_pos hN] at h ⊢
      exact ⟨rfl, fun _ => hN, fun h => by omega⟩
    · rw [if_neg hN] at h; simp at h
  · rw [if_neg k0] at h ⊢
    rw [if_neg k0]
    by_cases k1 : d.kind = 1
    · rw [if_pos k1] at h ⊢
      rw [if_pos k1]
      unfold wInt at h ⊢
      rw [if_neg (by simpa using hs)] at h ⊢
      have hN : isNumB (if d.t then 1 else 0) = true := by cases d.t <;> decide
      rw [if_pos hN]
      refine ⟨?_, fun h => absurd h k0, fun h => by omega⟩
      cases d.t <;> rfl
    · rw [if_neg k1] at h ⊢
      rw [if_neg k1]
      have key : ∀ (hk : d.kind = 2 ∨ d.kind = 3), (wBytes s.1 s.2 d.bs d.most).2 = 0 → (wBytes s.1 s.2 d.bs d.most).1 = s.1 ++ (if d.kind = 2 ∨ d.kind = 3 then numB d.bs.length ++ d.bs else []) ∧ (d.bs.length : Int) ≤ max d.most 0 := by
        intro hk hh
        rw [if_pos hk]
        unfold wBytes at hh ⊢
        rw [if_neg (by simpa using hs)] at hh ⊢
        by_cases hb : max d.most 0 < (d.bs.length : Int)
        · rw [if_pos hb] at hh; simp at hh
        · rw [if_neg hb]; exact ⟨by simp, by omega⟩
      by_cases k2 : d.kind = 2
      · rw [if_pos k2] at h ⊢
        obtain ⟨h1, h2⟩ := key (.inl k2) h
        exact ⟨h1, fun h => absurd h k0, fun _ => h2⟩
      · rw [if_neg k2] at h ⊢
        by_cases k3 : d.kind = 3
        · rw [if_pos k3] at h ⊢
          obtain ⟨h1, h2⟩ := key (.inr k3) h
          exact ⟨h1, fun h => absurd h k0, fun _ => h2⟩
        · rw [if_neg k3] at h ⊢
          rw [if_neg (by omega)]
          exact ⟨by simp, fun h => absurd h k0, fun h => by omega⟩

/-- A number inside bytes. -/
theorem intAt_mid (pre : List UInt8) (n : Nat) (t : List UInt8) (h : n ≤ 4611686018427387904) : intAt (pre ++ (numB n ++ t)) (pre.length : Int) = (n, (numB n).length, 0) := by
  have h1 := intAt_num n t h
  have hp : 0 < (numB n).length := num_len_pos 9 n
  unfold intAt at h1 ⊢
  rw [if_neg (by simp; omega)] at h1
  rw [if_neg (by simp; omega)]
  simp only [Int.toNat_natCast, List.drop_zero] at h1 ⊢
  rw [List.drop_left]
  exact h1

theorem pk_mid (pre : List UInt8) (n : Nat) (t : List UInt8) (h : n ≤ 4611686018427387904) : pk (pre ++ (numB n ++ t)) pre.length 0 = (n, (numB n).length, 0) := intAt_mid pre n t h

theorem boolAt_mid (pre : List UInt8) (b : Bool) (t : List UInt8) : boolAt (pre ++ (numB (if b then 1 else 0) ++ t)) pre.length 0 = (b, pre.length + (numB (if b then 1 else 0)).length, 0) := by
  unfold boolAt
  rw [pk_mid pre _ t (by cases b <;> decide)]
  cases b <;> simp

theorem takeAt_mid (pre m t : List UInt8) (most : Int) (hm : m.length ≤ 1073741824) (hmost : (m.length : Int) ≤ max most 0) : takeAt (pre ++ (numB m.length ++ m ++ t)) pre.length 0 most = (m, pre.length + (numB m.length).length + m.length, 0) := by
  have hpk := pk_mid pre m.length (m ++ t) (by omega)
  rw [← List.append_assoc (numB m.length)] at hpk
  unfold takeAt
  rw [hpk]
  simp only [ne_eq, not_true, if_false]
  rw [if_neg (by omega), if_neg (by simp; omega)]
  have e : (pre ++ (numB m.length ++ m ++ t)).drop (pre.length + (numB m.length).length) = m ++ t := by
    rw [List.append_assoc (numB m.length), ← List.append_assoc pre, List.drop_left' (by simp)]
  rw [e, List.take_left]

/-- Bytes from outside lie apart from a writer's memory. -/
theorem apart_out {t : TypeId} {M N : Nat} {w : World} {B : Nat} {v x : Value} {l m : List UInt8} {e : Nat} (h : Wtr t N w B v l e) (hx : Sl M w x m) (hMN : M ≤ N) : m ≠ [] → x.ownBlock ≠ some B ∧ ∀ k, x.ownBlock = some k → v.ownBlock ≠ some k := by
  intro hm
  obtain ⟨a, cap, rfl, _, _, h3⟩ := hx
  obtain ⟨b, off, rfl, hb, _⟩ := h3.resolve_left hm
  have hle := h.le
  refine ⟨by simp [Value.ownBlock]; omega, fun k hk hv => ?_⟩
  simp [Value.ownBlock] at hk
  have := (World.ownsRow.lt h.ow k hv).1
  omega

theorem Tn.of_below {w w' : World} {B : Nat} {v : Value} (h : Below w.heap.size w w') : Tn w w' B v := Tn.of_grown (row := none) ⟨h.os, h.tape, h.output, h.size, fun k hk _ => h.block k hk⟩ (by simp)

end Go.Proofs.YtnahghldlkjleaaGreatDoor.Cd
