/-
  Ent; Set14; Sli; SamE; PutO.
-/
import Derived.Test.YtfnnbfgfmbiababJ17
import Derived.Test.YtfnnbfgfmbiababJ12
import Derived.Test.YtfnnbfgfmbiababJ08
/-
  Entries in memory: a list of them, as the walks read it.
-/
namespace Go.Proofs.Ytfnnbfgfmbiabab
open Go.RowKit Go.Shelf

/-- An entry, as it lies in memory. -/
structure Ent where
  t : Int
  i : Int
  k : Int
  a : Option Addr
  c : Nat
  d : List UInt8

/-- No entry. -/
def nilEnt : Ent := ⟨0, 0, 0, none, 0, []⟩
def Ent.x (e : Ent) : Value := .slice e.a e.d.length e.c
def Ent.ck (e : Ent) : Nat := ckEntry e.t e.i e.k e.d.length
/-- What an entry says. -/
def Ent.says (e : Ent) : Int × Int × Int × List UInt8 := (e.t, e.i, e.k, e.d)

/-- One entry lies at a place. -/
def EntAt (N : Nat) (w : World) (b off : Nat) (e : Ent) : Prop :=
  w.cell? ⟨b, off, none⟩ = some (.int .i64 e.t) ∧ w.cell? ⟨b, off + 1, none⟩ = some (.int .i64 e.i) ∧ w.cell? ⟨b, off + 2, none⟩ = some (.int .i64 e.k) ∧ w.cell? ⟨b, off + 3, none⟩ = some e.x ∧ Sl N w e.x e.d

/-- A list of entries, in blocks below N. -/
def EntsAt (N : Nat) (w : World) (a : Option Addr) (es : List Ent) : Prop :=
  es = [] ∨ ∃ b off, a = some ⟨b, off, none⟩ ∧ b < N ∧ ∀ i, i < es.length → EntAt N w b (off + i * 4) (es.getD i nilEnt)

theorem EntAt.below {N : Nat} {w w' : World} {b off : Nat} {e : Ent} (h : EntAt N w b off e) (hb : b < N) (hB : Below N w w') : EntAt N w' b off e :=
  ⟨(hB.cell (p := ⟨b, off, none⟩) hb).trans h.1, (hB.cell (p := ⟨b, off + 1, none⟩) hb).trans h.2.1, (hB.cell (p := ⟨b, off + 2, none⟩) hb).trans h.2.2.1, (hB.cell (p := ⟨b, off + 3, none⟩) hb).trans h.2.2.2.1, h.2.2.2.2.below hB⟩
theorem EntsAt.below {N : Nat} {w w' : World} {a : Option Addr} {es : List Ent} (h : EntsAt N w a es) (hB : Below N w w') : EntsAt N w' a es := by
  rcases h with h | ⟨b, off, ha, hb, hc⟩
  · exact .inl h
  · exact .inr ⟨b, off, ha, hb, fun i hi => (hc i hi).below hb hB⟩
theorem EntAt.mono {N M : Nat} {w : World} {b off : Nat} {e : Ent} (h : EntAt N w b off e) (hM : N ≤ M) : EntAt M w b off e := ⟨h.1, h.2.1, h.2.2.1, h.2.2.2.1, h.2.2.2.2.mono hM⟩
theorem EntsAt.mono {N M : Nat} {w : World} {a : Option Addr} {es : List Ent} (h : EntsAt N w a es) (hM : N ≤ M) : EntsAt M w a es := by
  rcases h with h | ⟨b, off, ha, hb, hc⟩
  · exact .inl h
  · exact .inr ⟨b, off, ha, by omega, fun i hi => (hc i hi).mono hM⟩
theorem EntsAt.at {N : Nat} {w : World} {a : Option Addr} {es : List Ent} (h : EntsAt N w a es) {i : Nat} (hi : i < es.length) : ∃ b off, a = some ⟨b, off, none⟩ ∧ b < N ∧ EntAt N w b (off + i * 4) (es.getD i nilEnt) := by
  rcases h with h | ⟨b, off, ha, hb, hc⟩
  · subst h; simp at hi
  · exact ⟨b, off, ha, hb, hc i hi⟩

/-- The first error of entries. -/
def firstErr : List Ent → Nat
  | [] => 0
  | e :: r => if e.ck ≠ 0 then e.ck else firstErr r
/-- Do they go on from a place, up to a term? -/
def goes (tm : Int) : Int → Int → List Ent → Bool
  | _, _, [] => true
  | ix, lt, e :: r => (e.i == ix + 1) && isIn e.t lt tm && goes tm (ix + 1) e.t r

theorem drop_at {l : List Ent} {k : Nat} (h : k < l.length) : l.drop k = l.getD k nilEnt :: l.drop (k + 1) := by
  rw [List.drop_eq_getElem_cons h, List.getD_eq_getElem?_getD, List.getElem?_eq_getElem h]; rfl
end Go.Proofs.Ytfnnbfgfmbiabab

/-
  A message in a result: fourteen cells.
-/
namespace Go.Proofs.Ytfnnbfgfmbiabab
open Go.RowKit Go.Shelf

theorem arr14 (x0 x1 x2 x3 x4 x5 x6 x7 x8 x9 x10 x11 x12 x13 y0 y1 y2 y3 y4 y5 y6 y7 y8 y9 y10 y11 y12 y13 : Value) : ((((((((((((((#[x0, x1, x2, x3, x4, x5, x6, x7, x8, x9, x10, x11, x12, x13].setIfInBounds 0 y0).setIfInBounds 1 y1).setIfInBounds 2 y2).setIfInBounds 3 y3).setIfInBounds 4 y4).setIfInBounds 5 y5).setIfInBounds 6 y6).setIfInBounds 7 y7).setIfInBounds 8 y8).setIfInBounds 9 y9).setIfInBounds 10 y10).setIfInBounds 11 y11).setIfInBounds 12 y12).setIfInBounds 13 y13) = #[y0, y1, y2, y3, y4, y5, y6, y7, y8, y9, y10, y11, y12, y13] := by simp
set_option maxRecDepth 100000 in
set_option maxHeartbeats 8000000 in
theorem set14 {w : World} {B : Nat} {x0 x1 x2 x3 x4 x5 x6 x7 x8 x9 x10 x11 x12 x13 : Value} {t : TypeId} (h : w.heap[B]? = some (.cells #[x0, x1, x2, x3, x4, x5, x6, x7, x8, x9, x10, x11, x12, x13] t (0, 0))) (y0 y1 y2 y3 y4 y5 y6 y7 y8 y9 y10 y11 y12 y13 : Value) :
    ((((((((((((((w.setCell ⟨B, 0, none⟩ y0).setCell ⟨B, 1, none⟩ y1).setCell ⟨B, 2, none⟩ y2).setCell ⟨B, 3, none⟩ y3).setCell ⟨B, 4, none⟩ y4).setCell ⟨B, 5, none⟩ y5).setCell ⟨B, 6, none⟩ y6).setCell ⟨B, 7, none⟩ y7).setCell ⟨B, 8, none⟩ y8).setCell ⟨B, 9, none⟩ y9).setCell ⟨B, 10, none⟩ y10).setCell ⟨B, 11, none⟩ y11).setCell ⟨B, 12, none⟩ y12).setCell ⟨B, 13, none⟩ y13).heap[B]? = some (.cells #[y0, y1, y2, y3, y4, y5, y6, y7, y8, y9, y10, y11, y12, y13] t (0, 0)) := by
  have e := heap_set (heap_set (heap_set (heap_set (heap_set (heap_set (heap_set (heap_set (heap_set (heap_set (heap_set (heap_set (heap_set (heap_set h 0 y0) 1 y1) 2 y2) 3 y3) 4 y4) 5 y5) 6 y6) 7 y7) 8 y8) 9 y9) 10 y10) 11 y11) 12 y12) 13 y13
  rw [arr14] at e
  exact e
theorem belset14 {N : Nat} {w0 w : World} {B : Nat} (h : Below N w0 w) (hB : N ≤ B) (y0 y1 y2 y3 y4 y5 y6 y7 y8 y9 y10 y11 y12 y13 : Value) : Below N w0 ((((((((((((((w.setCell ⟨B, 0, none⟩ y0).setCell ⟨B, 1, none⟩ y1).setCell ⟨B, 2, none⟩ y2).setCell ⟨B, 3, none⟩ y3).setCell ⟨B, 4, none⟩ y4).setCell ⟨B, 5, none⟩ y5).setCell ⟨B, 6, none⟩ y6).setCell ⟨B, 7, none⟩ y7).setCell ⟨B, 8, none⟩ y8).setCell ⟨B, 9, none⟩ y9).setCell ⟨B, 10, none⟩ y10).setCell ⟨B, 11, none⟩ y11).setCell ⟨B, 12, none⟩ y12).setCell ⟨B, 13, none⟩ y13) :=
  bel_set (bel_set (bel_set (bel_set (bel_set (bel_set (bel_set (bel_set (bel_set (bel_set (bel_set (bel_set (bel_set (bel_set h hB _) hB _) hB _) hB _) hB _) hB _) hB _) hB _) hB _) hB _) hB _) hB _) hB _) hB _
theorem grownset14 (w : World) (B : Nat) (y0 y1 y2 y3 y4 y5 y6 y7 y8 y9 y10 y11 y12 y13 : Value) : w.grownBy ((((((((((((((w.setCell ⟨B, 0, none⟩ y0).setCell ⟨B, 1, none⟩ y1).setCell ⟨B, 2, none⟩ y2).setCell ⟨B, 3, none⟩ y3).setCell ⟨B, 4, none⟩ y4).setCell ⟨B, 5, none⟩ y5).setCell ⟨B, 6, none⟩ y6).setCell ⟨B, 7, none⟩ y7).setCell ⟨B, 8, none⟩ y8).setCell ⟨B, 9, none⟩ y9).setCell ⟨B, 10, none⟩ y10).setCell ⟨B, 11, none⟩ y11).setCell ⟨B, 12, none⟩ y12).setCell ⟨B, 13, none⟩ y13) (some B) :=
  grown_trans (grown_trans (grown_trans (grown_trans (grown_trans (grown_trans (grown_trans (grown_trans (grown_trans (grown_trans (grown_trans (grown_trans (grown_trans (grown_set _ _ _ _) (grown_set _ _ _ _) (fun _ e => .inl e)) (grown_set _ _ _ _) (fun _ e => .inl e)) (grown_set _ _ _ _) (fun _ e => .inl e)) (grown_set _ _ _ _) (fun _ e => .inl e)) (grown_set _ _ _ _) (fun _ e => .inl e)) (grown_set _ _ _ _) (fun _ e => .inl e)) (grown_set _ _ _ _) (fun _ e => .inl e)) (grown_set _ _ _ _) (fun _ e => .inl e)) (grown_set _ _ _ _) (fun _ e => .inl e)) (grown_set _ _ _ _) (fun _ e => .inl e)) (grown_set _ _ _ _) (fun _ e => .inl e)) (grown_set _ _ _ _) (fun _ e => .inl e)) (grown_set _ _ _ _) (fun _ e => .inl e)
set_option maxRecDepth 100000 in
set_option maxHeartbeats 8000000 in
theorem results_95 {fn : Func} {t u : Tmp} (h : fn.results = #[.cell t 49, .tmp u]) (tmps : Array Value) (w : World) (B : Nat) {x0 x1 x2 x3 x4 x5 x6 x7 x8 x9 x10 x11 x12 x13 : Value} (ht : tmps.getD t undef = .pointer (some ⟨B, 0, none⟩)) (hb : w.heap[B]? = some (.cells #[x0, x1, x2, x3, x4, x5, x6, x7, x8, x9, x10, x11, x12, x13] 49 (0, 0))) :
    (results fn tmps).run Try.prog w = .ok (.tuple #[.agg #[x0, x1, x2, x3, x4, x5, x6, x7, x8, x9, x10, x11, x12, x13], tmps.getD u undef]) w := by
  obtain ⟨⟨c0, c1, c2, c3, c4, c5, c6, c7, c8, c9, c10, c11, c12, c13⟩, -⟩ := cells14 hb
  have ht' : tmps[t]?.getD undef = .pointer (some ⟨B, 0, none⟩) := by rw [← Array.getD_eq_getD_getElem?]; exact ht
  simp [results, h, ht', asAddr, loadVar, c0, c1, c2, c3, c4, c5, c6, c7, c8, c9, c10, c11, c12, c13, go_sem]

end Go.Proofs.Ytfnnbfgfmbiabab

/-
  Is a message small enough to be looked at?
-/
namespace Go.Proofs.Ytfnnbfgfmbiabab
open Go.RowKit Go.Shelf

/-- What 'slight' answers: if it says yes, the snapshot and the entries are few. -/
def SlightP (sd : List UInt8) (es : List Ent) (r : Ending) : Prop := ∃ b : Bool, r = .returned (.bool b) ∧ (b = true → sd.length ≤ 20000 ∧ es.length ≤ 200)

set_option maxRecDepth 100000 in
set_option maxHeartbeats 8000000 in
theorem slight_any (kd fr to tm ix lt cm hi cx : Int) (rj : Bool) (ea : Option Addr) (ec : Nat) (es : List Ent) (si st : Int) (sa : Option Addr) (sc : Nat) (sd : List UInt8) (N : Nat) (w : World) (hE : EntsAt N w ea es) (hN : N ≤ w.heap.size) (hs : sd.length ≤ 9223372036854775807) (hz : es.length ≤ 9223372036854775807) : Calls Try.prog 15 #[.agg #[.int .i64 kd, .int .i64 fr, .int .i64 to, .int .i64 tm, .int .i64 ix, .int .i64 lt, .int .i64 cm, .int .i64 hi, .int .i64 cx, .bool rj, .slice ea es.length ec, .int .i64 si, .int .i64 st, .slice sa sd.length sc]] w fun r w' => SlightP sd es r ∧ Below w.heap.size w w' := by
  obtain ⟨W0, hW0⟩ : ∃ W0, w.alloc (.cells #[.int .i64 kd, .int .i64 fr, .int .i64 to, .int .i64 tm, .int .i64 ix, .int .i64 lt, .int .i64 cm, .int .i64 hi, .int .i64 cx, .bool rj, .slice ea es.length ec, .int .i64 si, .int .i64 st, .slice sa sd.length sc] 49) = W0 := ⟨_, rfl⟩
  have HW0 : Hid (w.alloc (.cells #[.int .i64 kd, .int .i64 fr, .int .i64 to, .int .i64 tm, .int .i64 ix, .int .i64 lt, .int .i64 cm, .int .i64 hi, .int .i64 cx, .bool rj, .slice ea es.length ec, .int .i64 si, .int .i64 st, .slice sa sd.length sc] 49) = W0) := hW0
  have HB0 : Hid (Below w.heap.size w W0) := by show Below w.heap.size w W0; rw [← hW0]; exact (Below.refl _ w).alloc (by simp) _
  have HX : Hid (W0.heap[w.heap.size]? = some (.cells #[.int .i64 kd, .int .i64 fr, .int .i64 to, .int .i64 tm, .int .i64 ix, .int .i64 lt, .int .i64 cm, .int .i64 hi, .int .i64 cx, .bool rj, .slice ea es.length ec, .int .i64 si, .int .i64 st, .slice sa sd.length sc] 49 (0, 0))) := by
    show W0.heap[w.heap.size]? = _
    rw [← hW0]; exact World.alloc_heap_new w _
  have HEE : Hid (EntsAt N W0 ea es) := hE.below (HB0.out.mono hN)
  have hlw : w.heap.size < W0.heap.size := by rw [← hW0]; simp
  clear hW0 hE
  obtain ⟨⟨q0, q1, q2, q3, q4, q5, q6, q7, q8, q9, q10, q11, q12, q13⟩, -⟩ := cells14 HX.out
  go_enter Try.func15, Try.ntmps15
  go_wp2_with fail
  rw [HW0.out]
  go_loopw [3, 4] (fun nv iv wr => ∃ (k n : Nat), iv = .int .i64 (k : Int) ∧ nv = .int .i64 (n : Int) ∧ k ≤ es.length ∧ sd.length ≤ n ∧ n ≤ 9223372036854775807 ∧ wr = W0) (fun _ iv _ => es.length - (intOf iv).toNat)
  case atStart => exact ⟨0, sd.length, rfl, rfl, Nat.zero_le _, Nat.le_refl _, by omega, rfl⟩
  case round =>
    obtain ⟨k, n, rfl, rfl, hk, hn, hn2, rfl⟩ := hrel
    by_cases hsm : n ≤ 20000
    · have hd : decide ((n : Int) ≤ 20000) = true := by simp; omega
      by_cases hlt : k < es.length
      · obtain ⟨b, off, hea, hb, he⟩ := HEE.out.at hlt
        subst hea
        generalize es.getD k nilEnt = e at *
        obtain ⟨et, ei, ek, eaa, ecc, ed⟩ := e
        obtain ⟨c0, c1, c2, c3, -⟩ := he
        unfold Ent.x at c3
        simp only at c0 c1 c2 c3
        by_cases hmin : ed.length ≤ 20000
        · have hmi : (ed.length : Int) ≤ 20000 := by omega
          go_wp2
          exact ⟨⟨k + 1, n + ed.length, by go_num, by go_num, by omega, by omega, by omega, trivial⟩, by simp [intOf]; omega⟩
        · have hmi : (20000 : Int) < (ed.length : Int) := by omega
          go_wp2
          exact ⟨⟨k + 1, n + 20000, by go_num, by go_num, by omega, by omega, by omega, trivial⟩, by simp [intOf]; omega⟩
      · have hlt' : (es.length : Int) ≤ (k : Int) := by omega
        have HF : Hid (∀ b : Bool, b = decide ((es.length : Int) ≤ 200) → SlightP sd es (.returned (.bool b))) := fun b hb => ⟨b, rfl, fun h => by
          rw [hb, decide_eq_true_eq] at h
          exact ⟨by omega, by omega⟩⟩
        go_wp2
        go_returns
        exact ⟨HF.out _ rfl, HB0.out⟩
    · have hd : decide ((n : Int) ≤ 20000) = false := by simp; omega
      have hd2 : (20000 : Int) < (n : Int) := by omega
      have HF : Hid (SlightP sd es (.returned (.bool false))) := ⟨false, rfl, by simp⟩
      by_cases hlt : k < es.length
      · go_wp2
        go_returns
        exact ⟨HF.out, HB0.out⟩
      · have hlt' : (es.length : Int) ≤ (k : Int) := by omega
        go_wp2
        go_returns
        exact ⟨HF.out, HB0.out⟩
end Go.Proofs.Ytfnnbfgfmbiabab

/-
  Whether two lists of entries, two messages are the same: the document's.
-/
namespace Go.Proofs.Ytfnnbfgfmbiabab
open Go.RowKit Go.Shelf

/-- What entries say. -/
def saysOf (es : List Ent) : List (Int × Int × Int × List UInt8) := es.map Ent.says

theorem says_eq {e1 e2 : Ent} : e1.says = e2.says ↔ (e1.t = e2.t ∧ e1.i = e2.i ∧ e1.k = e2.k ∧ e1.d = e2.d) := by
  unfold Ent.says; simp

theorem take_succ1 {es : List Ent} {k : Nat} (h : k < es.length) : es.take (k + 1) = es.take k ++ [es.getD k nilEnt] := by
  rw [List.take_succ_eq_append_getElem h, List.getD_eq_getElem?_getD, List.getElem?_eq_getElem h]; rfl

theorem saysOf_drop {a b : List Ent} {k : Nat} (h : saysOf (a.take k) = saysOf (b.take k)) : (saysOf a = saysOf b) ↔ (saysOf (a.drop k) = saysOf (b.drop k)) := by
  have e1 : saysOf a = saysOf (a.take k) ++ saysOf (a.drop k) := by unfold saysOf; rw [← List.map_append, List.take_append_drop]
  have e2 : saysOf b = saysOf (b.take k) ++ saysOf (b.drop k) := by unfold saysOf; rw [← List.map_append, List.take_append_drop]
  rw [e1, e2, h]
  simp

set_option maxRecDepth 100000 in
set_option maxHeartbeats 8000000 in
theorem sameEntries_any (a b : Option Addr) (ca cb : Nat) (es fs : List Ent) (N : Nat) (w : World) (h1 : EntsAt N w a es) (h2 : EntsAt N w b fs) (hN : N ≤ w.heap.size) (hz : es.length ≤ 1000000) :
    Calls Try.prog 43 #[.slice a es.length ca, .slice b fs.length cb] w fun e w' => e = .returned (.bool (decide (saysOf es = saysOf fs))) ∧ Below w.heap.size w w' := by
  have H1 : Hid (EntsAt N w a es) := h1
  have H2 : Hid (EntsAt N w b fs) := h2
  clear h1 h2
  by_cases hl : es.length = fs.length
  case neg =>
    have hl' : ((es.length : Int) != (fs.length : Int)) = true := by simp; omega
    have e0 : decide (saysOf es = saysOf fs) = false := by
      simp only [decide_eq_false_iff_not]
      intro h
      have := congrArg List.length h
      simp [saysOf] at this
      exact hl this
    rw [e0]
    clear hl
    go_enter Try.func43, Try.ntmps43
    go_wp2
    go_returns
    exact ⟨rfl, Below.refl _ _⟩
  have hl' : ((es.length : Int) != (fs.length : Int)) = false := by simp; omega
  have HL : Hid (es.length = fs.length) := hl
  have hle : es.length ≤ fs.length := by omega
  clear hl
  go_enter Try.func43, Try.ntmps43
  go_wp2
  go_loopw [5] (fun iv wr => ∃ (k : Nat), iv = .int .i64 (k : Int) ∧ k ≤ es.length ∧ saysOf (es.take k) = saysOf (fs.take k) ∧ Below w.heap.size w wr) (fun iv _ => es.length - (intOf iv).toNat)
  case atStart => exact ⟨0, rfl, Nat.zero_le _, by simp, Below.refl _ _⟩
  case round =>
    obtain ⟨k, rfl, hk, hg, hB⟩ := hrel
    have HG : Hid (saysOf (es.take k) = saysOf (fs.take k)) := hg
    have HB : Hid (Below w.heap.size w wr) := hB
    clear hg
    by_cases hlt : k < es.length
    · have hlt2 : k < fs.length := by omega
      obtain ⟨b1, o1, hea, hb1, he1⟩ := H1.out.at hlt
      obtain ⟨b2, o2, heb, hb2, he2⟩ := H2.out.at hlt2
      subst hea heb
      have hx1 := he1.below hb1 (hB.mono hN)
      have hx2 := he2.below hb2 (hB.mono hN)
      have HD1 : Hid (es.drop k = es.getD k nilEnt :: es.drop (k + 1)) := drop_at hlt
      have HD2 : Hid (fs.drop k = fs.getD k nilEnt :: fs.drop (k + 1)) := drop_at hlt2
      have HT1 : Hid (es.take (k + 1) = es.take k ++ [es.getD k nilEnt]) := take_succ1 hlt
      have HT2 : Hid (fs.take (k + 1) = fs.take k ++ [fs.getD k nilEnt]) := take_succ1 hlt2
      generalize es.getD k nilEnt = e at *
      generalize fs.getD k nilEnt = f at *
      have hbw1 : b1 < wr.heap.size := by have := hB.size; omega
      have hbw2 : b2 < wr.heap.size := by have := hB.size; omega
      have hNw : N ≤ wr.heap.size := by have := hB.size; omega
      have HR : Hid (decide (saysOf es = saysOf fs) = true → e.says = f.says) := by
        intro h
        rw [decide_eq_true_eq, saysOf_drop HG.out, HD1.out, HD2.out] at h
        simp only [saysOf, List.map_cons, List.cons.injEq] at h
        exact h.1
      have HS : Hid (e.says = f.says → saysOf (es.take (k + 1)) = saysOf (fs.take (k + 1))) := by
        intro h
        rw [HT1.out, HT2.out]
        have := HG.out
        simp only [saysOf, List.map_append, List.map_cons, List.map_nil] at this ⊢
        rw [this, h]
      obtain ⟨t1, i1, k1, a1, c1, d1⟩ := e
      obtain ⟨t2, i2, k2, a2, c2, d2⟩ := f
      obtain ⟨p0, p1, p2, p3, p4⟩ := hx1
      obtain ⟨q0, q1, q2, q3, q4⟩ := hx2
      unfold Ent.x at p3 p4 q3 q4
      unfold Ent.says at HR HS
      simp only at p0 p1 p2 p3 p4 q0 q1 q2 q3 q4 HR HS
      have hdr : Below N wr wr.drew := ⟨rfl, rfl, rfl, Nat.le_refl _, fun _ _ => rfl⟩
      have hp := sameEntry_any t1 i1 k1 a1 c1 d1 t2 i2 k2 a2 c2 d2 N wr.drew (p4.below hdr) (q4.below hdr) hNw
      have hi2 : (k : Int) < (fs.length : Int) := by omega
      have hi1 : (k : Int) < (es.length : Int) := by omega
      have hi0 : (0 : Int) ≤ (k : Int) := by omega
      clear he1 he2 hB p4 q4
      by_cases hs : (decide (d1 = d2) && (t1 == t2) && (i1 == i2) && (k1 == k2)) = true
      · rw [hs] at hp
        go_wp2_with fail
        go_region_held3 (fun w' => w'.cell? ⟨b1, o1 + k * 4, none⟩ = some (.int .i64 t1) ∧ w'.cell? ⟨b1, o1 + k * 4 + 1, none⟩ = some (.int .i64 i1) ∧ w'.cell? ⟨b1, o1 + k * 4 + 2, none⟩ = some (.int .i64 k1) ∧ w'.cell? ⟨b1, o1 + k * 4 + 3, none⟩ = some (.slice a1 d1.length c1) ∧ w'.cell? ⟨b2, o2 + k * 4, none⟩ = some (.int .i64 t2) ∧ w'.cell? ⟨b2, o2 + k * 4 + 1, none⟩ = some (.int .i64 i2) ∧ w'.cell? ⟨b2, o2 + k * 4 + 2, none⟩ = some (.int .i64 k2) ∧ w'.cell? ⟨b2, o2 + k * 4 + 3, none⟩ = some (.slice a2 d2.length c2)) (go_keep)
          (first | (go_at_call 85; refine hp.mono ?_; rintro e w5 ⟨rfl, hB5⟩; have hB5x : Below wr.heap.size wr w5 := ⟨hB5.os, hB5.tape, hB5.output, hB5.size, hB5.block⟩; have r0 := (hB5x.cell (p := ⟨b1, o1 + k * 4, none⟩) hbw1).trans p0; have r1 := (hB5x.cell (p := ⟨b1, o1 + k * 4 + 1, none⟩) hbw1).trans p1; have r2 := (hB5x.cell (p := ⟨b1, o1 + k * 4 + 2, none⟩) hbw1).trans p2; have r3 := (hB5x.cell (p := ⟨b1, o1 + k * 4 + 3, none⟩) hbw1).trans p3; have s0 := (hB5x.cell (p := ⟨b2, o2 + k * 4, none⟩) hbw2).trans q0; have s1 := (hB5x.cell (p := ⟨b2, o2 + k * 4 + 1, none⟩) hbw2).trans q1; have s2 := (hB5x.cell (p := ⟨b2, o2 + k * 4 + 2, none⟩) hbw2).trans q2; have s3 := (hB5x.cell (p := ⟨b2, o2 + k * 4 + 3, none⟩) hbw2).trans q3))
        clear r0 r1 r2 r3 s0 s1 s2 s3 hB5
        go_wp2
        refine ⟨⟨k + 1, by go_num, by omega, HS.out ?_, HB.out.trans (hB5x.mono HB.out.size)⟩, by simp [intOf]; omega⟩
        simp at hs
        simp [hs]
      · have hs' : (decide (d1 = d2) && (t1 == t2) && (i1 == i2) && (k1 == k2)) = false := by simpa using hs
        have HE : Hid (decide (saysOf es = saysOf fs) = false) := by
          show decide (saysOf es = saysOf fs) = false
          cases hd : decide (saysOf es = saysOf fs)
          · rfl
          · exfalso
            apply hs
            have := HR.out hd
            simp at this
            simp [this]
        rw [hs'] at hp
        clear hs
        go_wp2_with fail
        go_region_held3 (fun w' => w'.cell? ⟨b1, o1 + k * 4, none⟩ = some (.int .i64 t1) ∧ w'.cell? ⟨b1, o1 + k * 4 + 1, none⟩ = some (.int .i64 i1) ∧ w'.cell? ⟨b1, o1 + k * 4 + 2, none⟩ = some (.int .i64 k1) ∧ w'.cell? ⟨b1, o1 + k * 4 + 3, none⟩ = some (.slice a1 d1.length c1) ∧ w'.cell? ⟨b2, o2 + k * 4, none⟩ = some (.int .i64 t2) ∧ w'.cell? ⟨b2, o2 + k * 4 + 1, none⟩ = some (.int .i64 i2) ∧ w'.cell? ⟨b2, o2 + k * 4 + 2, none⟩ = some (.int .i64 k2) ∧ w'.cell? ⟨b2, o2 + k * 4 + 3, none⟩ = some (.slice a2 d2.length c2)) (go_keep)
          (first | (go_at_call 85; refine hp.mono ?_; rintro e w5 ⟨rfl, hB5⟩; have hB5x : Below wr.heap.size wr w5 := ⟨hB5.os, hB5.tape, hB5.output, hB5.size, hB5.block⟩; have r0 := (hB5x.cell (p := ⟨b1, o1 + k * 4, none⟩) hbw1).trans p0; have r1 := (hB5x.cell (p := ⟨b1, o1 + k * 4 + 1, none⟩) hbw1).trans p1; have r2 := (hB5x.cell (p := ⟨b1, o1 + k * 4 + 2, none⟩) hbw1).trans p2; have r3 := (hB5x.cell (p := ⟨b1, o1 + k * 4 + 3, none⟩) hbw1).trans p3; have s0 := (hB5x.cell (p := ⟨b2, o2 + k * 4, none⟩) hbw2).trans q0; have s1 := (hB5x.cell (p := ⟨b2, o2 + k * 4 + 1, none⟩) hbw2).trans q1; have s2 := (hB5x.cell (p := ⟨b2, o2 + k * 4 + 2, none⟩) hbw2).trans q2; have s3 := (hB5x.cell (p := ⟨b2, o2 + k * 4 + 3, none⟩) hbw2).trans q3))
        clear r0 r1 r2 r3 s0 s1 s2 s3 hB5
        go_wp2
        go_returns
        exact ⟨by rw [HE.out]; rfl, HB.out.trans (hB5x.mono HB.out.size)⟩
    · have HE : Hid (decide (saysOf es = saysOf fs) = true) := by
        show decide (saysOf es = saysOf fs) = true
        have := HG.out
        rw [List.take_of_length_le (by omega), List.take_of_length_le (by have := HL.out; omega)] at this
        simpa using this
      go_wp2
      go_returns
      exact ⟨by rw [HE.out]; rfl, HB.out⟩
end Go.Proofs.Ytfnnbfgfmbiabab

/-
  One thing's text put as bytes.
-/
namespace Go.Proofs.Ytfnnbfgfmbiabab
open Go.RowKit Go.Shelf

set_option maxRecDepth 100000 in
set_option maxHeartbeats 8000000 in
theorem putOneSnap_any (i t size : Int) (m : List UInt8) (a : Option Addr) (cap M : Nat) {w0 w : World} {l : List UInt8} (h : Wr w0 w l) (hl : l.length ≤ 100000000) (hx : Sl M w (.slice a m.length cap) m) (hM : M ≤ w.heap.size) (hk : ckSnap i t m.length = 0) (hs : ((txSnap i t m).length : Int) ≤ size) (hs2 : (txSnap i t m).length ≤ 100000000) :
    Calls Try.prog 90 #[.pointer (some ⟨w0.heap.size, 0, none⟩), .iface 145 (.agg #[]), .agg #[.int .i64 i, .int .i64 t, .slice a m.length cap], .int .i64 size] w fun r w' => r = .returned (.int .i64 0) ∧ Wr w0 w' (l ++ (numB (txSnap i t m).length ++ txSnap i t m)) := by
  have hB0 : Below w.heap.size w (w.alloc (.cells #[.int .i64 i, .int .i64 t, .slice a m.length cap] 47)) := (Below.refl _ w).alloc (Nat.le_refl _) _
  have hp := putSnap_any i t m a cap (w.alloc (.cells #[.int .i64 i, .int .i64 t, .slice a m.length cap] 47)) M (hx.below (hB0.mono hM)) (by simp; omega)
  rw [hk] at hp
  simp only [if_true] at hp
  generalize txSnap i t m = T at *
  go_enter Try.func90, Try.ntmps90
  go_wp2_with fail
  refine hp.mono ?_
  rintro e w2 ⟨u, rfl, hO, hB⟩
  obtain ⟨ua, uc, rfl, -, -⟩ := hO.shape
  have hB2 : Below w.heap.size w w2 := hB0.trans (hB.mono (by simp))
  have hS : Ws w0 w2 (fun k => w.heap.size ≤ k ∧ k < w2.heap.size) l := h.ws hB2 (fun k hk => hk)
  have hN : ∀ k, (Value.slice ua T.length uc).ownBlock = some k → w.heap.size ≤ k ∧ k < w2.heap.size := fun k e => by
    have := World.ownsRow.lt hO k e
    simp only [World.size_alloc] at this
    omega
  clear hB hB0 hp
  go_wp2_with fail
  refine (wsBytes_any size hS (by omega) (by omega) hO hN hs).mono ?_
  rintro e w3 ⟨rfl, hS3, -⟩
  go_wp2
  go_returns
  exact ⟨rfl, hS3.wr⟩

set_option maxRecDepth 100000 in
set_option maxHeartbeats 8000000 in
theorem putOneEntry_any (t i k size : Int) (m : List UInt8) (a : Option Addr) (cap M : Nat) {w0 w : World} {l : List UInt8} (h : Wr w0 w l) (hl : l.length ≤ 100000000) (hx : Sl M w (.slice a m.length cap) m) (hM : M ≤ w.heap.size) (hk : ckEntry t i k m.length = 0) (hs : ((txEntry t i k m).length : Int) ≤ size) (hs2 : (txEntry t i k m).length ≤ 100000000) :
    Calls Try.prog 76 #[.pointer (some ⟨w0.heap.size, 0, none⟩), .iface 31 (.agg #[]), .agg #[.int .i64 t, .int .i64 i, .int .i64 k, .slice a m.length cap], .int .i64 size] w fun r w' => r = .returned (.int .i64 0) ∧ Wr w0 w' (l ++ (numB (txEntry t i k m).length ++ txEntry t i k m)) := by
  have hB0 : Below w.heap.size w (w.alloc (.cells #[.int .i64 t, .int .i64 i, .int .i64 k, .slice a m.length cap] 26)) := (Below.refl _ w).alloc (Nat.le_refl _) _
  have hp := putEntry_any t i k m a cap (w.alloc (.cells #[.int .i64 t, .int .i64 i, .int .i64 k, .slice a m.length cap] 26)) M (hx.below (hB0.mono hM)) (by simp; omega)
  rw [hk] at hp
  simp only [if_true] at hp
  generalize txEntry t i k m = T at *
  go_enter Try.func76, Try.ntmps76
  go_wp2_with fail
  refine hp.mono ?_
  rintro e w2 ⟨u, rfl, hO, hB⟩
  obtain ⟨ua, uc, rfl, -, -⟩ := hO.shape
  have hB2 : Below w.heap.size w w2 := hB0.trans (hB.mono (by simp))
  have hS : Ws w0 w2 (fun k => w.heap.size ≤ k ∧ k < w2.heap.size) l := h.ws hB2 (fun k hk => hk)
  have hN : ∀ k, (Value.slice ua T.length uc).ownBlock = some k → w.heap.size ≤ k ∧ k < w2.heap.size := fun k e => by
    have := World.ownsRow.lt hO k e
    simp only [World.size_alloc] at this
    omega
  clear hB hB0 hp
  go_wp2_with fail
  refine (wsBytes_any size hS (by omega) (by omega) hO hN hs).mono ?_
  rintro e w3 ⟨rfl, hS3, -⟩
  go_wp2
  go_returns
  exact ⟨rfl, hS3.wr⟩

end Go.Proofs.Ytfnnbfgfmbiabab

