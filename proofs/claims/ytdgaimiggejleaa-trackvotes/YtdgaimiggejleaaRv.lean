/-
  The document's votes.
-/
import Derived.Test.YtdgaimiggejleaaQs
import Derived.Test.YtdgaimiggejleaaVp
namespace Go.Proofs.Ytdgaimiggejleaa
open Go.RowKit
set_option linter.unusedVariables false

theorem grown_none {w w' : World} (h : w.grownBy w' none) : Below w.heap.size w w' := ⟨h.os, h.tape, h.output, h.size, fun i hi => h.block i hi (by simp)⟩
theorem Ow.poke {N : Nat} {w : World} {g L c : Nat} {l : List Int} (h : Ow N w (.slice (some ⟨g, 0, none⟩) L c) l) (k : Nat) (x : Int) : Ow N (w.setCell ⟨g, k, none⟩ (.int .i64 x)) (.slice (some ⟨g, 0, none⟩) L c) (l.set k x) := by
  rcases h.2 with ⟨hv, _⟩ | ⟨g', cap, cur, hv, hN, hb, h1, h2, h3, h4⟩
  · cases hv
  · cases hv
    simp only [Nat.mul_one] at h3 h4
    refine ⟨by simp, .inr ⟨g, c, cur.setIfInBounds k (.int .i64 x), by simp, hN, heap_set hb k _, by simpa using h1, h2, by simpa using h3, ?_⟩⟩
    simp only [Nat.mul_one, Array.toList_setIfInBounds, List.length_set]
    rw [List.take_set, h4, List.map_set]
theorem rep_cells (n : Nat) : (madeCells (Value.int .i64 0).cells (n * 1)).toList = (List.replicate n (0 : Int)).map (Value.int .i64) := by
  rw [Nat.mul_one]
  show (madeCells #[.int .i64 0] n).toList = _
  rw [toList_madeCells_one, List.map_replicate]


/-- A row of R numbers of the call's own, by place. -/
def Rw (N : Nat) (w : World) (vg R : Nat) (u : Nat → Int) : Prop := ∃ sl : List Int, Ow N w (.slice (some ⟨vg, 0, none⟩) R R) sl ∧ sl.length = R ∧ ∀ j, j < R → sl[j]?.getD 0 = u j
theorem Rw.out {N : Nat} {X : Nat → Prop} {w w' : World} {vg R : Nat} {u : Nat → Int} (h : Rw N w vg R u) (hO : Out X w w') (hx : ¬ X vg) : Rw N w' vg R u := by
  obtain ⟨sl, h1, h2⟩ := h
  exact ⟨sl, h1.out hO (fun g hg => by simp [Value.ownBlock] at hg; subst hg; exact hx), h2⟩
theorem Rw.lt {N : Nat} {w : World} {vg R : Nat} {u : Nat → Int} (h : Rw N w vg R u) : N ≤ vg ∧ vg < w.heap.size := by
  obtain ⟨sl, h1, h2⟩ := h
  exact h1.lt rfl
theorem Rw.cell {N : Nat} {w : World} {vg R : Nat} {u : Nat → Int} (h : Rw N w vg R u) {j : Nat} (hj : j < R) : w.cell? ⟨vg, j, none⟩ = some (.int .i64 (u j)) ∧ w.frozen? ⟨vg, j, none⟩ = false := by
  obtain ⟨sl, h1, h2, h3⟩ := h
  rcases h1.2 with ⟨hv, _⟩ | ⟨g', cap, cur, hv, hN, hb, -, -, k3, k4⟩
  · cases hv
  · simp only [Value.slice.injEq, Option.some.injEq, Addr.mk.injEq] at hv
    obtain ⟨⟨rfl, -, -⟩, -, -⟩ := hv
    obtain ⟨a, c, hv, -, -, hc⟩ := h1.sl (Nat.le_refl _)
    simp only [Value.slice.injEq] at hv
    obtain ⟨rfl, -, rfl⟩ := hv
    obtain ⟨b, off, e, -, hc⟩ := hc.resolve_left (by intro e; rw [e] at h2; simp at h2; omega)
    cases e
    have := hc j (by omega)
    rw [Nat.zero_add, h3 j hj] at this
    exact ⟨this, by simp [World.frozen?, hb]⟩
theorem Rw.set {N : Nat} {w : World} {vg R : Nat} {u : Nat → Int} (h : Rw N w vg R u) {j : Nat} (hj : j < R) (x : Int) : Rw N (w.setCell ⟨vg, j, none⟩ (.int .i64 x)) vg R (fun i => if i = j then x else u i) := by
  obtain ⟨sl, h1, h2, h3⟩ := h
  refine ⟨sl.set j x, h1.poke j x, by simpa using h2, fun i hi => ?_⟩
  rw [List.getElem?_set]
  by_cases e : i = j
  · subst e; rw [if_pos rfl, if_pos (by omega)]; simp
  · rw [if_neg (fun h => e h.symm), h3 i hi]; simp [e]
theorem Rw.new {N : Nat} {w w' : World} {R : Nat} (h : w'.ownsRow N 3 1 (.slice (some ⟨w.heap.size, 0, none⟩) R R) R (madeCells (Value.int .i64 0).cells (R * 1)).toList) : Rw N w' w.heap.size R (fun _ => 0) := by
  refine ⟨List.replicate R 0, ?_, by simp, fun j hj => by rw [List.getElem?_replicate, if_pos hj]; rfl⟩
  unfold Ow
  rw [List.length_replicate, ← rep_cells]
  exact h

/-- The document's votes lie at c, their row at vg. -/
structure RV (N : Nat) (w : World) (c vg R : Nat) (u : Nat → Int) : Prop where
  at_ : w.heap[c]? = some (.cells #[.slice (some ⟨vg, 0, none⟩) R R] 61 (0, 0))
  row : Rw N w vg R u
  ne : c ≠ vg
  nc : N ≤ c
theorem RV.out {N : Nat} {X : Nat → Prop} {w w' : World} {c vg R : Nat} {u : Nat → Int} (h : RV N w c vg R u) (hO : Out X w w') (h1 : ¬ X c) (h2 : ¬ X vg) : RV N w' c vg R u :=
  ⟨(hO.block c (Array.getElem?_eq_some_iff.1 h.at_).1 h1).trans h.at_, h.row.out hO h2, h.ne, h.nc⟩
theorem RV.cells {N : Nat} {w : World} {c vg R : Nat} {u : Nat → Int} (h : RV N w c vg R u) : w.cell? ⟨c, 0, none⟩ = some (.slice (some ⟨vg, 0, none⟩) R R) := by simp [World.cell?, h.at_]
theorem RV.set {N : Nat} {w : World} {c vg R : Nat} {u : Nat → Int} (h : RV N w c vg R u) {j : Nat} (hj : j < R) (x : Int) : RV N (w.setCell ⟨vg, j, none⟩ (.int .i64 x)) c vg R (fun i => if i = j then x else u i) := by
  have hO : Out (fun i => i = vg) w (w.setCell ⟨vg, j, none⟩ (.int .i64 x)) := Out.set rfl
  exact ⟨(hO.block c (Array.getElem?_eq_some_iff.1 h.at_).1 h.ne).trans h.at_, h.row.set hj x, h.ne, h.nc⟩

def ruY (R : Nat) (u : Nat → Int) (id : Int) : Bool := decide (1 ≤ id) && decide (id ≤ (R : Int)) && decide (u (id - 1).toNat = 0)
def ruP (R : Nat) (u : Nat → Int) (id : Int) (yes : Bool) : Nat → Int := if ruY R u id then (fun i => if i = (id - 1).toNat then (if yes then 1 else 2) else u i) else u

set_option maxRecDepth 100000 in
set_option maxHeartbeats 2000000 in
theorem rPut_any {N : Nat} {w : World} {c vg R : Nat} {u : Nat → Int} (h : RV N w c vg R u) (hR : R ≤ 7) (id : Int) (yes : Bool) :
    Calls Try.prog 18 #[.pointer (some ⟨c, 0, none⟩), .int .i64 id, .bool yes] w fun e w' => e = .returned (.bool (ruY R u id)) ∧ RV N w' c vg R (ruP R u id yes) ∧ Out (fun i => i = vg) w w' := by
  have c0 := h.cells
  by_cases h1 : 1 ≤ id
  · by_cases h2 : id ≤ (R : Int)
    · obtain ⟨j, rfl⟩ : ∃ j : Nat, id = (j : Int) + 1 := ⟨(id - 1).toNat, by omega⟩
      have hj : j < R := by omega
      have ej : ((j : Int) + 1 - 1).toNat = j := by omega
      have ej2 : (j : Int) + 1 - 1 = (j : Int) := by omega
      have hwj : IntKind.i64.wrap ((j : Int) + 1 - 1) = (j : Int) := by rw [IntKind.wrap_i64]; omega
      obtain ⟨s1, s2⟩ := h.row.cell hj
      have hcv := h.ne
      have hcv' : ¬ vg = c := fun e => h.ne e.symm
      have hn1 : decide (((j : Int) + 1) < 1) = false := by simp; omega
      have hn2 : ¬ (R : Int) < (j : Int) + 1 := by omega
      have hn3 : ¬ R < j + 1 := by omega
      by_cases hu : u j = 0
      · have hy : ruY R u ((j : Int) + 1) = true := by simp [ruY, hu, h2]; omega
        have HS : Hid (∀ x : Int, RV N (w.setCell ⟨vg, j, none⟩ (.int .i64 x)) c vg R (fun i => if i = j then x else u i) ∧ Out (fun i => i = vg) w (w.setCell ⟨vg, j, none⟩ (.int .i64 x))) := fun x => ⟨h.set hj x, Out.set rfl⟩
        have HS2 : Hid (∀ x y : Int, RV N ((w.setCell ⟨vg, j, none⟩ (.int .i64 y)).setCell ⟨vg, j, none⟩ (.int .i64 x)) c vg R (fun i => if i = j then x else u i) ∧ Out (fun i => i = vg) w ((w.setCell ⟨vg, j, none⟩ (.int .i64 y)).setCell ⟨vg, j, none⟩ (.int .i64 x))) := fun x y => by
          refine ⟨?_, Out.put (Out.set rfl) (by rfl)⟩
          have := (h.set hj y).set hj x
          have e : (fun i => if i = j then x else if i = j then y else u i) = fun i => if i = j then x else u i := by funext i; by_cases e : i = j <;> simp [e]
          rw [e] at this
          exact this
        rw [hy]
        rw [hu] at s1
        have HP : Hid (ruP R u ((j : Int) + 1) yes = fun i => if i = j then (if yes then 1 else 2) else u i) := by show _ = _; rw [ruP, hy, ej]; rfl
        rw [HP.out]
        clear h hu hy h1 h2 ej
        cases yes with
        | true =>
          go_enter Try.func18, Try.ntmps18
          go_wp2
          go_ret
          first
            | exact ⟨rfl, HS.out 1⟩
            | exact ⟨rfl, HS2.out 1 2⟩
        | false =>
          go_enter Try.func18, Try.ntmps18
          go_wp2
          go_ret
          exact ⟨rfl, HS.out 2⟩
      · have hy : ruY R u ((j : Int) + 1) = false := by simp [ruY, hu]
        have HS : Hid (RV N w c vg R (ruP R u ((j : Int) + 1) yes) ∧ Out (fun i => i = vg) w w) := ⟨by rw [ruP, hy]; exact h, Out.refl _ _⟩
        have hun : (u j != 0) = true := by simpa using hu
        rw [hy]
        generalize u j = x at *
        clear h h1 h2 ej hy
        go_enter Try.func18, Try.ntmps18
        go_wp2
        go_ret
        exact ⟨rfl, HS.out⟩
    · have hy : ruY R u id = false := by simp [ruY, h2]
      have HS : Hid (RV N w c vg R (ruP R u id yes) ∧ Out (fun i => i = vg) w w) := ⟨by rw [ruP, hy]; exact h, Out.refl _ _⟩
      have hn2 : (R : Int) < id := by omega
      rw [hy]
      clear h h2 hy
      go_enter Try.func18, Try.ntmps18
      go_wp2
      go_ret
      exact ⟨rfl, HS.out⟩
  · have hy : ruY R u id = false := by simp [ruY, h1]
    have HS : Hid (RV N w c vg R (ruP R u id yes) ∧ Out (fun i => i = vg) w w) := ⟨by rw [ruP, hy]; exact h, Out.refl _ _⟩
    have hn1 : id < 1 := by omega
    rw [hy]
    clear h h1 hy
    go_enter Try.func18, Try.ntmps18
    go_wp2
    go_ret
    exact ⟨rfl, HS.out⟩

/-- How many of the first n are x. -/
def cntE (u : Nat → Int) (x : Int) : Nat → Nat
  | 0 => 0
  | k + 1 => cntE u x k + (if u k = x then 1 else 0)
theorem cntE_le (u : Nat → Int) (x : Int) : ∀ n, cntE u x n ≤ n
  | 0 => Nat.le_refl _
  | n + 1 => by have := cntE_le u x n; simp only [cntE]; split <;> omega
theorem cntE_set {u : Nat → Int} {k : Nat} {x y : Int} (hk : u k ≠ x) : ∀ n, cntE (fun i => if i = k then y else u i) x n = cntE u x n + (if k < n ∧ y = x then 1 else 0)
  | 0 => by simp [cntE]
  | n + 1 => by
    have ih := cntE_set (y := y) hk n
    simp only [cntE, ih]
    by_cases h : n = k
    · subst h
      by_cases e : y = x <;> simp [hk, e]
    · simp only [if_neg h]
      by_cases h2 : k < n
      · simp [h2, show k < n + 1 by omega]; omega
      · simp [h2, show ¬ k < n + 1 by omega]

set_option maxRecDepth 100000 in
theorem rCounts_any {N : Nat} {w : World} {c vg R : Nat} {u : Nat → Int} (h : RV N w c vg R u) (hR : R ≤ 7) :
    Calls Try.prog 20 #[.pointer (some ⟨c, 0, none⟩)] w fun e w' => e = .returned (.tuple #[.int .i64 (cntE u 1 R : Int), .int .i64 (cntE u 2 R : Int)]) ∧ w' = w := by
  have c0 := h.cells
  have HC : Hid (∀ j, j < R → w.cell? ⟨vg, j, none⟩ = some (.int .i64 (u j))) := fun j hj => (h.row.cell hj).1
  clear h
  go_enter Try.func20, Try.ntmps20
  go_wp2
  go_loopw [4, 5, 6] (fun av bv iv wr => ∃ k : Nat, av = .int .i64 (cntE u 1 k : Int) ∧ bv = .int .i64 (cntE u 2 k : Int) ∧ iv = .int .i64 (k : Int) ∧ k ≤ R ∧ wr = w) (fun _ _ iv _ => R - (intOf iv).toNat)
  case atStart => exact ⟨0, rfl, rfl, rfl, Nat.zero_le _, rfl⟩
  case round =>
    obtain ⟨k, rfl, rfl, rfl, hk, hwr⟩ := hrel
    subst wr
    have h1 := cntE_le u 1 k
    have h2 := cntE_le u 2 k
    by_cases hlt : k < R
    · have hc := HC.out k hlt
      have HS1 : Hid (cntE u 1 (k + 1) = cntE u 1 k + (if u k = 1 then 1 else 0)) := rfl
      have HS2 : Hid (cntE u 2 (k + 1) = cntE u 2 k + (if u k = 2 then 1 else 0)) := rfl
      generalize cntE u 1 k = A at *
      generalize cntE u 2 k = B at *
      generalize u k = x at *
      have hkk : (k : Int) < (R : Int) := by omega
      have hwa : IntKind.i64.wrap ((A : Int) + 1) = (A : Int) + 1 := by rw [IntKind.wrap_i64]; omega
      have hwb : IntKind.i64.wrap ((B : Int) + 1) = (B : Int) + 1 := by rw [IntKind.wrap_i64]; omega
      by_cases e1 : x = 1
      · subst e1
        simp only [if_true] at HS1
        rw [if_neg (by decide)] at HS2
        go_wp2
        exact ⟨⟨k + 1, by rw [HS1.out]; simp, by rw [HS2.out]; simp, by simp, hlt, by trivial⟩, by simp [intOf]; omega⟩
      · by_cases e2 : x = 2
        · subst e2
          rw [if_neg (by decide)] at HS1
          simp only [if_true] at HS2
          go_wp2
          exact ⟨⟨k + 1, by rw [HS1.out]; simp, by rw [HS2.out]; simp, by simp, hlt, by trivial⟩, by simp [intOf]; omega⟩
        · rw [if_neg e1] at HS1
          rw [if_neg e2] at HS2
          have b1 : (x == 1) = false := by simpa using e1
          have b2 : (x == 2) = false := by simpa using e2
          go_wp2
          exact ⟨⟨k + 1, by rw [HS1.out]; simp, by rw [HS2.out]; simp, by simp, hlt, by trivial⟩, by simp [intOf]; omega⟩
    · obtain rfl : k = R := by omega
      go_wp2
      go_ret2
      exact ⟨rfl, rfl⟩

set_option maxRecDepth 100000 in
theorem rResult_any {N : Nat} {w : World} {c vg R : Nat} {u : Nat → Int} (h : RV N w c vg R u) (h1 : 1 ≤ R) (hR : R ≤ 7) :
    Calls Try.prog 22 #[.pointer (some ⟨c, 0, none⟩)] w fun e w' => e = .returned (.int .i64 (PV.res ⟨(R : Int), fun _ => false, (cntE u 1 R : Int), (cntE u 2 R : Int)⟩)) ∧ w' = w := by
  have c0 := h.cells
  have HC : Hid (Calls _ _ _ _ _) := rCounts_any h hR
  have HQ : Hid (Calls _ _ _ _ _) := refQuorum_any (R : Int) w
  have hb := cntE_le u 2 R
  clear h
  unfold PV.res
  simp only
  generalize cntE u 1 R = A at *
  generalize cntE u 2 R = B at *
  generalize qrm (R : Int) = q at *
  have hw : IntKind.i64.wrap ((R : Int) - (B : Int)) = (R : Int) - (B : Int) := by rw [IntKind.wrap_i64]; omega
  by_cases e1 : q ≤ (A : Int)
  · rw [if_pos e1]
    go_enter Try.func22, Try.ntmps22
    go_wp2_with (first
      | (go_at_call 20; refine HC.out.mono ?_; rintro r wq ⟨rfl, hwq⟩; subst wq)
      | (go_at_call 13; refine HQ.out.mono ?_; rintro r wq ⟨rfl, hwq⟩; subst wq))
    go_ret
    exact ⟨rfl, rfl⟩
  · rw [if_neg e1]
    by_cases e2 : (R : Int) - (B : Int) < q
    · rw [if_pos e2]
      go_enter Try.func22, Try.ntmps22
      go_wp2_with (first
        | (go_at_call 20; refine HC.out.mono ?_; rintro r wq ⟨rfl, hwq⟩; subst wq)
        | (go_at_call 13; refine HQ.out.mono ?_; rintro r wq ⟨rfl, hwq⟩; subst wq))
      go_ret
      exact ⟨rfl, rfl⟩
    · rw [if_neg e2]
      go_enter Try.func22, Try.ntmps22
      go_wp2_with (first
        | (go_at_call 20; refine HC.out.mono ?_; rintro r wq ⟨rfl, hwq⟩; subst wq)
        | (go_at_call 13; refine HQ.out.mono ?_; rintro r wq ⟨rfl, hwq⟩; subst wq))
      go_ret
      exact ⟨rfl, rfl⟩

set_option maxRecDepth 100000 in
theorem rNew_any (N R : Nat) (w : World) (h1 : 1 ≤ R) (h7 : R ≤ 7) (hN : N ≤ w.heap.size) :
    Calls Try.prog 16 #[.int .i64 (R : Int)] w fun e w' => ∃ c vg, e = .returned (.pointer (some ⟨c, 0, none⟩)) ∧ RV N w' c vg R (fun _ => 0) ∧ Below w.heap.size w w' ∧ w.heap.size ≤ c ∧ w.heap.size ≤ vg := by
  obtain ⟨i0, hi0, hiz, his, hib⟩ := info_parts info
  have hn1 : ¬ (R : Int) < 1 := by omega
  have hn7 : ¬ (7 : Int) < (R : Int) := by omega
  have HE : Hid (∀ w3, w3.ownsRow N 3 1 (.slice (some ⟨w.heap.size, 0, none⟩) R R) R (madeCells (Value.int .i64 0).cells (R * 1)).toList → w.grownBy w3 none → RV N (w3.alloc (.cells #[.slice (some ⟨w.heap.size, 0, none⟩) R R] 61)) w3.heap.size w.heap.size R (fun _ => 0) ∧ Below w.heap.size w (w3.alloc (.cells #[.slice (some ⟨w.heap.size, 0, none⟩) R R] 61)) ∧ w.heap.size ≤ w3.heap.size) := fun w3 h2 h3 => by
    have hB := grown_none h3
    have hr := Rw.new h2
    refine ⟨⟨heap_alloc_new w3 _, hr.out (X := fun _ => False) (Out.of_below ((Below.refl _ w3).alloc (Nat.le_refl _) _)) (fun h => h), by have := hr.lt.2; omega, Nat.le_trans hN hB.size⟩, hB.alloc hB.size _, hB.size⟩
  have hm : (R : Int) = ((R : Nat) : Int) := rfl
  go_enter Try.func16, Try.ntmps16
  go_wp2_with (first | (at_make; refine wpList_make_full _ rfl _ _ 22 rfl N 3 i0 (.int .i64 0) 1 Try.underlying22 hi0 hiz his .i64 .i64 _ _ R rfl rfl rfl rfl (by rw [hib]; omega) (by unfold maxLen; omega) hN ?_; intro w3 hown3 hg3; have HX := HE.out w3 hown3 hg3; have HX' : Hid _ := HX; clear hown3 hg3 HX) | fail)
  go_ret
  obtain ⟨x1, x2, x3⟩ := HX'.out
  exact ⟨w3.heap.size, rfl, w.heap.size, x1, x2, x3, Nat.le_refl _⟩
theorem rNew_none (n : Int) (w : World) (h : ¬ (1 ≤ n ∧ n ≤ 7)) :
    Calls Try.prog 16 #[.int .i64 n] w fun e w' => e = .returned (.pointer none) ∧ w' = w := by
  by_cases h1 : n < 1
  · clear h
    go_enter Try.func16, Try.ntmps16
    go_wp2
    go_ret
    exact ⟨rfl, rfl⟩
  · have h2 : 7 < n := by omega
    clear h
    go_enter Try.func16, Try.ntmps16
    go_wp2
    go_ret
    exact ⟨rfl, rfl⟩

/-- The program's votes and the document's say the same. -/
structure Rl (R : Nat) (v : PV) (u : Nat → Int) : Prop where
  nd : (R : Int) = v.nd
  vo : ∀ j, j < R → (v.V j = true ↔ u j ≠ 0)
  g : v.g = (cntE u 1 R : Int)
  r : v.r = (cntE u 2 R : Int)
theorem Rl.y {R : Nat} {v : PV} {u : Nat → Int} (h : Rl R v u) (id : Int) : ruY R u id = v.putY id := by
  unfold ruY PV.putY
  rw [← h.nd]
  by_cases h1 : 1 ≤ id
  · by_cases h2 : id ≤ (R : Int)
    · have := h.vo (id - 1).toNat (by omega)
      simp only [h1, h2, decide_true, Bool.true_and]
      cases hv : v.V (id - 1).toNat with
      | true => rw [hv] at this; simp at this; simp [this]
      | false => rw [hv] at this; simp at this; simp [this]
    · simp [h2]
  · simp [h1]
theorem Rl.put {R : Nat} {v : PV} {u : Nat → Int} (h : Rl R v u) (id : Int) (yes : Bool) : Rl R (v.put id yes) (ruP R u id yes) := by
  have hy := h.y id
  unfold ruP
  rw [hy]
  cases hp : v.putY id with
  | false => rw [PV.put, hp]; exact h
  | true =>
    obtain ⟨a, b, c⟩ := (v.putY_iff id).1 hp
    have hnd := h.nd
    obtain ⟨j, hj⟩ : ∃ j, j = (id - 1).toNat := ⟨_, rfl⟩
    rw [← hj] at c ⊢
    have hjR : j < R := by omega
    have hu : u j = 0 := by
      have := h.vo j hjR
      rw [c] at this
      simpa using this
    have hput : v.put id yes = v.mark j yes := by rw [PV.put, hp, hj]; rfl
    rw [hput]
    have e1 := cntE_set (u := u) (k := j) (x := 1) (y := if yes then 1 else 2) (by rw [hu]; decide) R
    have e2 := cntE_set (u := u) (k := j) (x := 2) (y := if yes then 1 else 2) (by rw [hu]; decide) R
    simp only [if_true]
    refine ⟨h.nd, fun i hi => ?_, ?_, ?_⟩
    · show (if i = j then true else v.V i) = true ↔ (if i = j then (if yes then (1 : Int) else 2) else u i) ≠ 0
      by_cases e : i = j
      · subst e; cases yes <;> simp
      · simpa [e] using h.vo i hi
    · show (if yes then v.g + 1 else v.g) = ((cntE (fun i => if i = j then (if yes then 1 else 2) else u i) 1 R : Nat) : Int)
      rw [e1, h.g]
      cases yes <;> simp [hjR]
    · show (if yes then v.r else v.r + 1) = ((cntE (fun i => if i = j then (if yes then 1 else 2) else u i) 2 R : Nat) : Int)
      rw [e2, h.r]
      cases yes <;> simp [hjR]
theorem cntE_zero {x : Int} (hx : x ≠ 0) : ∀ n, cntE (fun _ => 0) x n = 0
  | 0 => rfl
  | n + 1 => by simp [cntE, cntE_zero hx n, Ne.symm hx]
theorem Rl.new (R : Nat) : Rl R (pV0 (R : Int)) (fun _ => 0) := ⟨rfl, fun j _ => by simp [pV0], by rw [cntE_zero (by decide)]; rfl, by rw [cntE_zero (by decide)]; rfl⟩
end Go.Proofs.Ytdgaimiggejleaa
