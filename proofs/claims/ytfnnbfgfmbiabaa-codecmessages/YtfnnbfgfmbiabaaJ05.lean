/-
  Wby; Puts; Form; Told; Rrd.
-/
import Derived.Test.YtfnnbfgfmbiabaaJ04
import Derived.Deep.RegionHeld3
import Derived.Laws.IdiomStrings
import Derived.Test.YtfnnbfgfmbiabaaJ01
/-
  A writer of wire: Bool, Bytes, Text, Done.
-/
namespace Go.Proofs.Ytfnnbfgfmbiabaa
open Go.RowKit Go.Shelf

theorem wInt_len (l : List UInt8) (e : Nat) (n : Int) : (wInt l e n).1.length ≤ l.length + 10 := by
  unfold wInt
  split
  · simp
  · split
    · have := num_len_le 9 n.toNat; simp [numB]; omega
    · simp

set_option maxRecDepth 100000 in
set_option maxHeartbeats 1000000 in
theorem wwBool_any (N B : Nat) (v : Value) (l : List UInt8) (e : Nat) (t : Bool) (w : World) (h : Wtr 147 N w B v l e) (hl : l.length ≤ 1073741824) :
    Calls Try.prog 111 #[.pointer (some ⟨B, 0, none⟩), .bool t] w fun r w' => r = .returned (.tuple #[]) ∧ ∃ v', Wtr 147 N w' B v' (wInt l e (if t then 1 else 0)).1 (wInt l e (if t then 1 else 0)).2 ∧ Tn w w' B v ∧ Son w v v' := by
  cases t with
  | true =>
    simp only [if_true]
    go_enter Try.func111, Try.ntmps111
    go_wp2_with (go_at_call 55; refine (wwInt_any N B v l e 1 w h hl).mono ?_; rintro r w1 ⟨rfl, h1⟩)
    go_end0
    exact ⟨rfl, h1⟩
  | false =>
    simp only [Bool.false_eq_true, if_false]
    go_enter Try.func111, Try.ntmps111
    go_wp2_with (go_at_call 55; refine (wwInt_any N B v l e 0 w h hl).mono ?_; rintro r w1 ⟨rfl, h1⟩)
    go_end0
    exact ⟨rfl, h1⟩

theorem frozen_at0 {w : World} {B : Nat} {x y : Value} {t : TypeId} (h : w.heap[B]? = some (.cells #[x, y] t (0, 0))) : w.frozen? ⟨B, 0, none⟩ = false := by simp [World.frozen?, h]
theorem cell_at0 {w : World} {B : Nat} {x y : Value} {t : TypeId} (h : w.heap[B]? = some (.cells #[x, y] t (0, 0))) : w.cell? ⟨B, 0, none⟩ = some x := by simp [World.cell?, h]

theorem Sl.tn {M : Nat} {w w' : World} {B : Nat} {v x : Value} {m : List UInt8} (h : Sl M w x m) (hM : M ≤ w.heap.size) (hT : Tn w w' B v) (hd : m ≠ [] → x.ownBlock ≠ some B ∧ ∀ k, x.ownBlock = some k → v.ownBlock ≠ some k) : Sl M w' x m := by
  obtain ⟨a, cap, rfl, h1, h2, h3⟩ := h
  refine ⟨a, cap, rfl, h1, h2, ?_⟩
  rcases h3 with h3 | ⟨b, off, rfl, hb, hc⟩
  · exact .inl h3
  · refine .inr ⟨b, off, rfl, hb, fun i hi => ?_⟩
    obtain ⟨hB, hv⟩ := hd (by intro e; subst e; simp at hi)
    exact (World.cell?_of_block (hT.block b (by omega) (fun e => hB (by rw [e]; rfl)) (hv b rfl))).trans (hc i hi)

/-- What a writer has, and its error, behind bytes. -/
def wBytes (l : List UInt8) (e : Nat) (m : List UInt8) (most : Int) : List UInt8 × Nat := if e ≠ 0 then (l, e) else if max most 0 < (m.length : Int) then ([], 3) else (l ++ numB m.length ++ m, 0)

set_option maxRecDepth 100000 in
set_option maxHeartbeats 2000000 in
theorem wwBytes_any (N B M : Nat) (v x : Value) (l m : List UInt8) (e : Nat) (most : Int) (w : World) (h : Wtr 147 N w B v l e) (hl : l.length ≤ 1073741824) (hm : m.length ≤ 1073741824)
    (hx : Sl M w x m) (hM : M ≤ w.heap.size) (hxd : m ≠ [] → x.ownBlock ≠ some B ∧ ∀ k, x.ownBlock = some k → v.ownBlock ≠ some k) :
    Calls Try.prog 56 #[.pointer (some ⟨B, 0, none⟩), x, .int .i64 most] w fun r w' => r = .returned (.tuple #[]) ∧ ∃ v', Wtr 147 N w' B v' (wBytes l e m most).1 (wBytes l e m most).2 ∧ Tn w w' B v ∧ Son w v v' := by
  obtain ⟨k0, k1, f0, f1⟩ := h.cells
  have hlt := h.lt
  have hle := h.le
  obtain ⟨b, c, hv, -, -⟩ := h.ow.shape
  obtain ⟨bx, cx, hxx, -⟩ := id hx
  subst hxx
  unfold wBytes
  by_cases he : e = 0
  · subst he
    rw [if_neg (by simp)]
    have hcase : (most < 0 ∧ max most 0 = 0) ∨ (¬ most < 0 ∧ max most 0 = most) := by omega
    have hmost : ∃ mm : Int, max most 0 = mm ∧ ((most < 0 ∧ mm = 0) ∨ (¬ most < 0 ∧ mm = most)) := ⟨_, rfl, hcase⟩
    obtain ⟨mm, hmm, hcase'⟩ := hmost
    rw [hmm]
    by_cases hbig : mm < (m.length : Int)
    · rw [if_pos hbig]
      subst hv
      clear hmm hcase
      rcases hcase' with ⟨hneg, rfl⟩ | ⟨hneg, rfl⟩
      all_goals
        go_enter Try.func56, Try.ntmps56
        go_wp2_with (go_at_call 102; refine (fail_any N B _ l 0 3 w h).mono ?_; rintro r w1 ⟨rfl, h1, hT1⟩)
        refine bodyPost_ret (results_none rfl _ _ _) rfl ?_
        exact ⟨rfl, _, h1, hT1, .inl rfl⟩
    · rw [if_neg hbig]
      subst hv
      clear hmm hcase
      have hnb := num_len_le 9 m.length
      have hlen : (l ++ numB m.length).length = l.length + (numB m.length).length := List.length_append
      rcases hcase' with ⟨hneg, rfl⟩ | ⟨hneg, rfl⟩
      all_goals
        go_enter Try.func56, Try.ntmps56
        go_wp2_with fail
        refine (appendInt_any N _ l m.length (by omega) w (by omega) hl h.ow).mono ?_
        rintro r w1 ⟨v1, rfl, hO1, hg1, hs1⟩
        have hT1 : Tn w w1 B (.slice b l.length c) := Tn.of_grown hg1 (fun k e => .inr e)
        have h1 : w1.heap[B]? = some (.cells #[.slice b l.length c, .int .i64 0] 147 (0, 0)) := (hg1.block B hlt (fun e => h.ow.not_at h.at0 (by decide) e.symm)).trans h.at0
        have hx1 := hx.tn hM hT1 hxd
        obtain ⟨b1, c1, hv1, -, -⟩ := hO1.shape
        rw [hlen] at hv1
        subst hv1
        have hz1 := hg1.size
        go_wp2_with (at_builtin; refine wpList_append_ow rfl _ _ rfl N M _ _ (l ++ numB m.length) m rfl hO1 rfl hx1 (by rw [hlen]; unfold numB; omega) (by omega) ?_; intro v2 w2 hO2 hg2 hn2; obtain ⟨b2, c2, hv2, -, -⟩ := hO2.shape; rw [List.length_append, hlen] at hv2; subst hv2; have h2 : w2.heap[B]? = some (.cells #[.slice b l.length c, .int .i64 0] 147 (0, 0)) := (hg2.block B (by omega) (fun e => hO1.not_at h1 (by decide) e.symm)).trans h1; have hf2 := frozen_at0 h2; have hc2 := cell_at0 h2)
        go_end0
        have hS : Son w (.slice b l.length c) (.slice b1 (l.length + (numB m.length).length) c1) := Son.of hs1
        have hT2 : Tn w1 w2 B (.slice b1 (l.length + (numB m.length).length) c1) := Tn.of_grown hg2 (fun k e => .inr e)
        refine ⟨rfl, _, Wtr.mk' (e := 0) (by decide) hle h2 hO2, (hT1.trans hS hT2).set 0 _, hS.trans hz1 ?_⟩
        rcases hn2 with hn2 | hn2
        · exact .inr (.inl hn2)
        · exact .inr (.inr ⟨_, hn2, Nat.le_refl _⟩)
  · rw [if_pos he]
    have he' : ((e : Int) != 0) = true := by simp; omega
    go_enter Try.func56, Try.ntmps56
    go_wp2
    refine bodyPost_ret (results_none rfl _ _ _) rfl ?_
    exact ⟨rfl, v, h, Tn.refl _ _ _, Son.refl _ _⟩

/-- The bytes of a text, in new memory. -/
theorem conv_str (w : World) (m : List UInt8) (hm : m.length ≤ 1073741824) : ∃ cap w1, (convert 9 22 (.string ⟨m.toArray⟩)).run Try.prog w = .ok (.slice (some ⟨w.heap.size, 0, none⟩) m.length cap) w1 ∧ Sl w1.heap.size w1 (.slice (some ⟨w.heap.size, 0, none⟩) m.length cap) m ∧ Below w.heap.size w w1 := by
  refine ⟨_, _, run_bytes_of_string w 9 22 5 ⟨m.toArray⟩ Try.underlying9 Try.underlying22 Try.underlying5, ?_, ?_⟩
  · have hsz : (⟨m.toArray⟩ : ByteArray).size = m.length := by simp [ByteArray.size]
    refine ⟨_, _, rfl, ?_, ?_, ?_⟩
    · have := grownCap_ge w m.length 0 5; rw [hsz]; exact this
    · exact grownCap_le_maxLen w _ 0 5 (by rw [hsz]; unfold maxLen; omega)
    · refine .inr ⟨w.heap.size, 0, rfl, by simp, fun i hi => ?_⟩
      have hh := World.cell?_alloc_mark w.drew (bytesRow ⟨m.toArray⟩ (grownCap w (⟨m.toArray⟩ : ByteArray).size 0 5)) 5 ((bytesRow ⟨m.toArray⟩ (grownCap w (⟨m.toArray⟩ : ByteArray).size 0 5)).size, (bytesRow ⟨m.toArray⟩ (grownCap w (⟨m.toArray⟩ : ByteArray).size 0 5)).size + 1) (0 + i)
      refine Eq.trans hh ?_
      unfold bytesRow
      rw [Nat.zero_add, Array.getElem?_append_left (by simpa using hi)]
      simp [encB, hi]
  · exact ((Below.refl _ w).drew).alloc (Nat.le_refl _) _

set_option maxRecDepth 100000 in
set_option maxHeartbeats 2000000 in
theorem wwText_any (N B : Nat) (v : Value) (l m : List UInt8) (e : Nat) (most : Int) (w : World) (h : Wtr 147 N w B v l e) (hl : l.length ≤ 1073741824) (hm : m.length ≤ 1073741824) :
    Calls Try.prog 75 #[.pointer (some ⟨B, 0, none⟩), .string ⟨m.toArray⟩, .int .i64 most] w fun r w' => r = .returned (.tuple #[]) ∧ ∃ v', Wtr 147 N w' B v' (wBytes l e m most).1 (wBytes l e m most).2 ∧ Tn w w' B v ∧ Son w v v' := by
  obtain ⟨cap, w1, hcv, hs1, hB1⟩ := conv_str w m hm
  have h1 := h.below hB1 (Nat.le_refl _)
  have hlt := h.lt
  have hvl : ∀ k, v.ownBlock = some k → k < w.heap.size := fun k hk => (World.ownsRow.lt h.ow k hk).2
  have hz := hB1.size
  have cW := wwBytes_any N B w1.heap.size v _ l m e most w1 h1 hl hm hs1 (Nat.le_refl _) (fun _ => ⟨by simp [Value.ownBlock]; omega, fun k hk hv => by simp [Value.ownBlock] at hk; have := hvl k hv; omega⟩)
  go_enter Try.func75, Try.ntmps75
  go_wp2_with (go_at_call 56; refine cW.mono ?_; rintro r w2 ⟨rfl, v2, hW2, hT2, hS2⟩)
  go_end0
  have hT1 : Tn w w1 B v := Tn.of_grown (row := none) ⟨hB1.os, hB1.tape, hB1.output, hB1.size, fun k hk _ => hB1.block k hk⟩ (by simp)
  exact ⟨rfl, v2, hW2, hT1.trans (Son.refl _ _) hT2, (Son.refl w v).trans hz hS2⟩

set_option maxRecDepth 100000 in
set_option maxHeartbeats 2000000 in
theorem wwDone_any (N B : Nat) (v : Value) (l : List UInt8) (e : Nat) (w : World) (h : Wtr 147 N w B v l e) (hl : l.length ≤ 1073741824) :
    Calls Try.prog 57 #[.pointer (some ⟨B, 0, none⟩)] w fun r w' => ∃ u, r = .returned (.tuple #[u, .int .i64 (e : Int)]) ∧ Ow w.heap.size w' u l ∧ Below w.heap.size w w' := by
  obtain ⟨k0, k1, f0, f1⟩ := h.cells
  obtain ⟨b, c, rfl, -, -⟩ := h.ow.shape
  have hlt := h.lt
  have hs : Sl w.heap.size w.drew (.slice b l.length c) l := (h.ow.sl (Nat.le_refl _)).below ⟨rfl, rfl, rfl, Nat.le_refl _, fun _ _ => rfl⟩
  go_enter Try.func57, Try.ntmps57
  go_wp2
  go_region_held3 (fun w' => w'.cell? ⟨B, 0, none⟩ = some (.slice b l.length c) ∧ w'.cell? ⟨B, 1, none⟩ = some (.int .i64 (e : Int))) (go_keep)
    (first | (go_at_call 104; refine (fresh_any _ _ l _ hs (by omega)).mono ?_; rintro r w1 ⟨u, rfl, hO1, hB1⟩; obtain ⟨b1, c1, rfl, -, -⟩ := hO1.shape; have q0 := (hB1.cell (p := ⟨B, 0, none⟩) hlt).trans k0; have q1 := (hB1.cell (p := ⟨B, 1, none⟩) hlt).trans k1))
  have hBB : Below w.heap.size w w1 := ⟨hB1.os, hB1.tape, hB1.output, hB1.size, hB1.block⟩
  clear q0 q1 hs
  go_wp2
  go_ret2
  exact ⟨_, rfl, hO1, hBB⟩
end Go.Proofs.Ytfnnbfgfmbiabaa

/-
  Puts that came in: their bytes, and whether these are few.
-/
namespace Go.Proofs.Ytfnnbfgfmbiabaa
open Go.RowKit Go.Shelf

/-- One put, as it lies in memory, and the bytes that it tells. -/
structure PutD where
  kind : Int
  n : Int
  most : Int
  t : Bool
  a : Option Addr
  cap : Nat
  bs : List UInt8

def PutD.x (d : PutD) : Value := .slice d.a d.bs.length d.cap

/-- Puts that came in. -/
def PutsAt (N : Nat) (w : World) (a : Option Addr) (n : Nat) (D : Nat → PutD) : Prop :=
  n = 0 ∨ ∃ b off, a = some ⟨b, off, none⟩ ∧ b < N ∧ ∀ i, i < n → w.cell? ⟨b, off + i * 5, none⟩ = some (.int .i64 (D i).kind) ∧ w.cell? ⟨b, off + i * 5 + 1, none⟩ = some (.int .i64 (D i).n) ∧
    w.cell? ⟨b, off + i * 5 + 2, none⟩ = some (.int .i64 (D i).most) ∧ w.cell? ⟨b, off + i * 5 + 3, none⟩ = some (.bool (D i).t) ∧ w.cell? ⟨b, off + i * 5 + 4, none⟩ = some (D i).x ∧ Sl N w (D i).x (D i).bs

theorem info23 : (Try.prog.info? 22).map (fun i => (i.zero, i.size, i.bytes)) = some (some (.slice none 0 0), 1, 24) := by kernel_rfl

/-- The headers of the puts' bytes. -/
def heads (D : Nat → PutD) (n : Nat) : List Value := (List.range n).map fun i => (D i).x

theorem heads_succ (D : Nat → PutD) (n : Nat) : heads D (n + 1) = heads D n ++ [(D n).x] := by simp [heads, List.range_succ]
theorem heads_len (D : Nat → PutD) (n : Nat) : (heads D n).length = n := by simp [heads]

/-- How many bytes the first n have. -/
def total (D : Nat → PutD) : Nat → Nat
  | 0 => 0
  | n + 1 => total D n + (D n).bs.length

/-- What Few answers. -/
def Fewed (D : Nat → PutD) (n : Nat) (r : Ending) : Prop := ∃ t, r = .returned (.bool t) ∧ (t = true → total D n ≤ 20000)

theorem ownsRow_cell {w : World} {N : Nat} {v : Value} {n : Nat} {xs : List Value} (h : w.ownsRow N 22 1 v n xs) (hn : 0 < n) : ∃ g cap, v = .slice (some ⟨g, 0, none⟩) n cap ∧ cap ≤ maxLen ∧ ∀ i, i < n → w.cell? ⟨g, i, none⟩ = xs[i]? := by
  rcases h.2 with ⟨_, h0⟩ | ⟨g, cap, cur, rfl, _, hg, h1, h2, h3, h4⟩
  · omega
  · refine ⟨g, cap, rfl, h2, fun i hi => ?_⟩
    simp only [World.cell?, hg]
    rw [Nat.mul_one] at h4
    rw [← h4, List.getElem?_take, if_pos hi]
    simp

end Go.Proofs.Ytfnnbfgfmbiabaa

/-
  One form: a number's bytes, read again, are that number in just these bytes, whatever lies behind; no number's bytes begin another's; they never get fewer.
-/
namespace Go.Proofs.Ytfnnbfgfmbiabaa

theorem num_fuel : ∀ (f g n : Nat), n < 128 ^ (f + 1) → f ≤ g → num g n = num f n
  | 0, g, n, h, _ => by rw [num_lt (by simpa using h), num_lt (by simpa using h)]
  | f + 1, 0, n, _, hg => by omega
  | f + 1, g + 1, n, h, hg => by
    by_cases hn : n < 128
    · rw [num_lt hn, num_lt hn]
    · rw [num_ge (by omega), num_ge (by omega), num_fuel f g (n / 128) (by rw [Nat.pow_succ] at h; omega) (by omega)]

theorem pow9 : (128 : Nat) ^ (8 + 1) = 9223372036854775808 := by decide

theorem numB_eq (n : Nat) (h : n ≤ 4611686018427387904) : numB n = num 8 n := num_fuel 8 9 n (by rw [pow9]; omega) (by omega)

theorem ofNat_lo {n : Nat} (h : n < 128) : (UInt8.ofNat n).toNat = n := by simp; omega
theorem ofNat_hi (n : Nat) : (UInt8.ofNat (n % 128 + 128)).toNat = n % 128 + 128 := by simp; omega

theorem ahead_num : ∀ (f g n : Nat) (t : List UInt8), n < 128 ^ (f + 1) → f < g → ahead g (num f n ++ t) = num f n
  | 0, 0, n, t, _, hg => by omega
  | f + 1, 0, n, t, _, hg => by omega
  | 0, g + 1, n, t, h, _ => by
    have hn : n < 128 := by simpa using h
    rw [num_lt hn]
    simp only [List.cons_append, List.nil_append, ahead, ofNat_lo hn, hn, if_true]
  | f + 1, g + 1, n, t, h, hg => by
    by_cases hn : n < 128
    · rw [num_lt hn]
      simp only [List.cons_append, List.nil_append, ahead, ofNat_lo hn, hn, if_true]
    · rw [num_ge (by omega)]
      have hi := ofNat_hi n
      simp only [List.cons_append, ahead]
      rw [if_neg (by omega), ahead_num f g (n / 128) t (by rw [Nat.pow_succ] at h; omega) (by omega)]

theorem val_num : ∀ (f n : Nat), n < 128 ^ (f + 1) → val (num f n) = n
  | 0, n, h => by
    have hn : n < 128 := by simpa using h
    rw [num_lt hn]; simp only [val, ofNat_lo hn]; omega
  | f + 1, n, h => by
    by_cases hn : n < 128
    · rw [num_lt hn]; simp only [val, ofNat_lo hn]; omega
    · rw [num_ge (by omega)]
      simp only [val, ofNat_hi, val_num f (n / 128) (by rw [Nat.pow_succ] at h; omega)]
      omega

theorem lastB_cons (x : UInt8) (l : List UInt8) (h : l ≠ []) : lastB (x :: l) = lastB l := by
  unfold lastB
  cases l with
  | nil => exact absurd rfl h
  | cons y l => simp [List.getLastD]

theorem last_num : ∀ (f n : Nat), n < 128 ^ (f + 1) → lastB (num f n) < 128 ∧ (lastB (num f n) = 0 → n = 0)
  | 0, n, h => by
    have hn : n < 128 := by simpa using h
    have h2 := ofNat_lo hn
    rw [num_lt hn]; simp only [lastB, List.getLastD_cons, List.getLastD_nil]; omega
  | f + 1, n, h => by
    by_cases hn : n < 128
    · have h2 := ofNat_lo hn
      rw [num_lt hn]; simp only [lastB, List.getLastD_cons, List.getLastD_nil]; omega
    · rw [num_ge (by omega), lastB_cons _ _ (num_ne _ _)]
      have := last_num f (n / 128) (by rw [Nat.pow_succ] at h; omega)
      exact ⟨this.1, fun e => by have := this.2 e; omega⟩

/-- There and back: a number's bytes, with anything behind them. -/
theorem intAt_num (n : Nat) (t : List UInt8) (h : n ≤ 4611686018427387904) : intAt (numB n ++ t) ((0 : Nat) : Int) = (n, (numB n).length, 0) := by
  have hlt : n < 128 ^ (8 + 1) := by rw [pow9]; omega
  have hp := num_len_pos 8 n
  have hl := last_num 8 n hlt
  unfold intAt
  rw [numB_eq n h, if_neg (by simp; omega)]
  simp only [Int.toNat_natCast, List.drop_zero]
  rw [ahead_num 8 9 n t hlt (by omega)]
  unfold verdict
  have hz : ¬ (lastB (num 8 n) = 0 ∧ 1 < (num 8 n).length) := by
    rintro ⟨h1, h2⟩
    have := hl.2 h1
    subst this
    rw [num_lt (by omega)] at h2
    simp at h2
  rw [if_neg (by omega), if_neg (by omega), if_neg hz, val_num 8 n hlt, if_neg (by omega)]

theorem numB_front (a b : Nat) (ha : a ≤ 4611686018427387904) (hb : b ≤ 4611686018427387904) (hl : (numB a).length ≤ (numB b).length) : (numB a = (numB b).take (numB a).length) ↔ a = b := by
  constructor
  · intro h
    have h1 := intAt_num a ((numB b).drop (numB a).length) ha
    have h2 := intAt_num b [] hb
    have h3 : numB a ++ (numB b).drop (numB a).length = numB b := by
      conv => lhs; arg 1; rw [h]
      exact List.take_append_drop _ _
    rw [h3] at h1
    rw [List.append_nil, h1] at h2
    exact congrArg Prod.fst h2
  · rintro rfl
    simp

theorem num_len_mono : ∀ (f a b : Nat), a ≤ b → (num f a).length ≤ (num f b).length
  | 0, a, b, _ => by simp [num]
  | f + 1, a, b, h => by
    by_cases ha : a < 128
    · rw [num_lt ha]; exact num_len_pos (f + 1) b
    · rw [num_ge (by omega), num_ge (by omega)]
      have := num_len_mono f (a / 128) (b / 128) (Nat.div_le_div_right h)
      simpa using this
end Go.Proofs.Ytfnnbfgfmbiabaa

/-
  What a writer has behind the first k puts, and that a reader finds it again.
-/
namespace Go.Proofs.Ytfnnbfgfmbiabaa
open Go.RowKit Go.Shelf

/-- One put. -/
def stepP (s : List UInt8 × Nat) (d : PutD) : List UInt8 × Nat :=
  if d.kind = 0 then wInt s.1 s.2 d.n
  else if d.kind = 1 then wInt s.1 s.2 (if d.t then 1 else 0)
  else if d.kind = 2 then wBytes s.1 s.2 d.bs d.most
  else if d.kind = 3 then wBytes s.1 s.2 d.bs d.most
  else s

/-- The first k puts. -/
def told (D : Nat → PutD) : Nat → List UInt8 × Nat
  | 0 => ([], 0)
  | k + 1 => stepP (told D k) (D k)

theorem wBytes_len (l : List UInt8) (e : Nat) (m : List UInt8) (most : Int) : (wBytes l e m most).1.length ≤ l.length + 10 + m.length := by
  have := num_len_le 9 m.length
  unfold wBytes
  split
  · simp; omega
  · split
    · simp
    · simp [numB]; omega

theorem stepP_len (s : List UInt8 × Nat) (d : PutD) : (stepP s d).1.length ≤ s.1.length + 10 + d.bs.length := by
  unfold stepP
  split
  · have := wInt_len s.1 s.2 d.n; omega
  · split
    · have := wInt_len s.1 s.2 (if d.t then 1 else 0); omega
    · split
      · exact wBytes_len _ _ _ _
      · split
        · exact wBytes_len _ _ _ _
        · omega

theorem told_len (D : Nat → PutD) : ∀ k, (told D k).1.length ≤ 10 * k + total D k
  | 0 => by simp [told]
  | k + 1 => by
    have h1 := told_len D k
    have h2 := stepP_len (told D k) (D k)
    simp only [told, total]; omega

theorem total_mono (D : Nat → PutD) : ∀ {k n}, k ≤ n → total D k ≤ total D n
  | k, 0, h => by have : k = 0 := by omega
                  subst this; exact Nat.le_refl _
  | k, n + 1, h => by
    by_cases e : k = n + 1
    · subst e; exact Nat.le_refl _
    · have := total_mono D (show k ≤ n by omega); simp only [total]; omega

theorem total_one (D : Nat → PutD) {k n : Nat} (h : k < n) : (D k).bs.length ≤ total D n := by
  have := total_mono D (show k + 1 ≤ n from h)
  simp only [total] at this; omega

/-- An error stays, and nothing is had behind it. -/
theorem stepP_err (s : List UInt8 × Nat) (d : PutD) (h : s.2 ≠ 0 → s.1 = []) : ((stepP s d).2 ≠ 0 → (stepP s d).1 = []) ∧ ((stepP s d).2 = 0 → s.2 = 0) := by
  have hw : ∀ n, ((wInt s.1 s.2 n).2 ≠ 0 → (wInt s.1 s.2 n).1 = []) ∧ ((wInt s.1 s.2 n).2 = 0 → s.2 = 0) := by
    intro n; unfold wInt
    by_cases he : s.2 = 0
    · rw [if_neg (by simpa using he)]; split <;> simp [he]
    · rw [if_pos he]; exact ⟨h, fun h => h⟩
  have hb : ∀ m most, ((wBytes s.1 s.2 m most).2 ≠ 0 → (wBytes s.1 s.2 m most).1 = []) ∧ ((wBytes s.1 s.2 m most).2 = 0 → s.2 = 0) := by
    intro m most; unfold wBytes
    by_cases he : s.2 = 0
    · rw [if_neg (by simpa using he)]; split <;> simp [he]
    · rw [if_pos he]; exact ⟨h, fun h => h⟩
  unfold stepP
  split
  · exact hw _
  · split
    · exact hw _
    · split
      · exact hb _ _
      · split
        · exact hb _ _
        · exact ⟨h, fun h => h⟩

theorem told_err (D : Nat → PutD) : ∀ k, (told D k).2 ≠ 0 → (told D k).1 = []
  | 0 => by simp [told]
  | k + 1 => (stepP_err (told D k) (D k) (told_err D k)).1

theorem told_ok (D : Nat → PutD) : ∀ {k n}, k ≤ n → (told D n).2 = 0 → (told D k).2 = 0
  | k, 0, h, h0 => by have : k = 0 := by omega
                      subst this; exact h0
  | k, n + 1, h, h0 => by
    by_cases e : k = n + 1
    · subst e; exact h0
    · exact told_ok D (show k ≤ n by omega) ((stepP_err (told D n) (D n) (told_err D n)).2 h0)

/-- The bytes of one put that has no error. -/
def encP (d : PutD) : List UInt8 :=
  if d.kind = 0 then numB d.n.toNat
  else if d.kind = 1 then numB (if d.t then 1 else 0)
  else if d.kind = 2 ∨ d.kind = 3 then numB d.bs.length ++ d.bs
  else []

/-- What a put without an error is. -/
theorem stepP_ok (s : List UInt8 × Nat) (d : PutD) (h : (stepP s d).2 = 0) (hs : s.2 = 0) :
    (stepP s d).1 = s.1 ++ encP d ∧ (d.kind = 0 → isNumB d.n = true) ∧ (d.kind = 2 ∨ d.kind = 3 → (d.bs.length : Int) ≤ max d.most 0) := by
  unfold stepP at h ⊢
  unfold encP
  by_cases k0 : d.kind = 0
  · rw [if_pos k0] at h ⊢
    rw [if_pos k0]
    unfold wInt at h ⊢
    rw [if_neg (by simpa using hs)] at h ⊢
    by_cases hN : isNumB d.n = true
    · rw [if_pos hN] at h ⊢
      exact ⟨rfl, fun _ => hN, fun h => by omega⟩
    · rw [if_neg hN] at h; simp at h
  · rw [if_neg k0] at h ⊢
    rw [if_neg k0]
    by_cases k1 : d.kind = 1
    · rw [if_pos k1] at h ⊢
      rw [if_pos k1]
      unfold wInt at h ⊢
      rw [if_neg (by simpa using hs)] at h ⊢
      have hN : isNumB (if d.t then 1 else 0) = true := by cases d.t <;> decide
      rw [if_pos hN]
      refine ⟨?_, fun h => absurd h k0, fun h => by omega⟩
      cases d.t <;> rfl
    · rw [if_neg k1] at h ⊢
      rw [if_neg k1]
      have key : ∀ (hk : d.kind = 2 ∨ d.kind = 3), (wBytes s.1 s.2 d.bs d.most).2 = 0 → (wBytes s.1 s.2 d.bs d.most).1 = s.1 ++ (if d.kind = 2 ∨ d.kind = 3 then numB d.bs.length ++ d.bs else []) ∧ (d.bs.length : Int) ≤ max d.most 0 := by
        intro hk hh
        rw [if_pos hk]
        unfold wBytes at hh ⊢
        rw [if_neg (by simpa using hs)] at hh ⊢
        by_cases hb : max d.most 0 < (d.bs.length : Int)
        · rw [if_pos hb] at hh; simp at hh
        · rw [if_neg hb]; exact ⟨by simp, by omega⟩
      by_cases k2 : d.kind = 2
      · rw [if_pos k2] at h ⊢
        obtain ⟨h1, h2⟩ := key (.inl k2) h
        exact ⟨h1, fun h => absurd h k0, fun _ => h2⟩
      · rw [if_neg k2] at h ⊢
        by_cases k3 : d.kind = 3
        · rw [if_pos k3] at h ⊢
          obtain ⟨h1, h2⟩ := key (.inr k3) h
          exact ⟨h1, fun h => absurd h k0, fun _ => h2⟩
        · rw [if_neg k3] at h ⊢
          rw [if_neg (by omega)]
          exact ⟨by simp, fun h => absurd h k0, fun h => by omega⟩

/-- A number inside bytes. -/
theorem intAt_mid (pre : List UInt8) (n : Nat) (t : List UInt8) (h : n ≤ 4611686018427387904) : intAt (pre ++ (numB n ++ t)) (pre.length : Int) = (n, (numB n).length, 0) := by
  have h1 := intAt_num n t h
  have hp : 0 < (numB n).length := num_len_pos 9 n
  unfold intAt at h1 ⊢
  rw [if_neg (by simp; omega)] at h1
  rw [if_neg (by simp; omega)]
  simp only [Int.toNat_natCast, List.drop_zero] at h1 ⊢
  rw [List.drop_left]
  exact h1

theorem pk_mid (pre : List UInt8) (n : Nat) (t : List UInt8) (h : n ≤ 4611686018427387904) : pk (pre ++ (numB n ++ t)) pre.length 0 = (n, (numB n).length, 0) := intAt_mid pre n t h

theorem boolAt_mid (pre : List UInt8) (b : Bool) (t : List UInt8) : boolAt (pre ++ (numB (if b then 1 else 0) ++ t)) pre.length 0 = (b, pre.length + (numB (if b then 1 else 0)).length, 0) := by
  unfold boolAt
  rw [pk_mid pre _ t (by cases b <;> decide)]
  cases b <;> simp

theorem takeAt_mid (pre m t : List UInt8) (most : Int) (hm : m.length ≤ 1073741824) (hmost : (m.length : Int) ≤ max most 0) : takeAt (pre ++ (numB m.length ++ m ++ t)) pre.length 0 most = (m, pre.length + (numB m.length).length + m.length, 0) := by
  have hpk := pk_mid pre m.length (m ++ t) (by omega)
  rw [← List.append_assoc (numB m.length)] at hpk
  unfold takeAt
  rw [hpk]
  simp only [ne_eq, not_true, if_false]
  rw [if_neg (by omega), if_neg (by simp; omega)]
  have e : (pre ++ (numB m.length ++ m ++ t)).drop (pre.length + (numB m.length).length) = m ++ t := by
    rw [List.append_assoc (numB m.length), ← List.append_assoc pre, List.drop_left' (by simp)]
  rw [e, List.take_left]

/-- Bytes from outside lie apart from a writer's memory. -/
theorem apart_out {t : TypeId} {M N : Nat} {w : World} {B : Nat} {v x : Value} {l m : List UInt8} {e : Nat} (h : Wtr t N w B v l e) (hx : Sl M w x m) (hMN : M ≤ N) : m ≠ [] → x.ownBlock ≠ some B ∧ ∀ k, x.ownBlock = some k → v.ownBlock ≠ some k := by
  intro hm
  obtain ⟨a, cap, rfl, _, _, h3⟩ := hx
  obtain ⟨b, off, rfl, hb, _⟩ := h3.resolve_left hm
  have hle := h.le
  refine ⟨by simp [Value.ownBlock]; omega, fun k hk hv => ?_⟩
  simp [Value.ownBlock] at hk
  have := (World.ownsRow.lt h.ow k hv).1
  omega

theorem Tn.of_below {w w' : World} {B : Nat} {v : Value} (h : Below w.heap.size w w') : Tn w w' B v := Tn.of_grown (row := none) ⟨h.os, h.tape, h.output, h.size, fun k hk _ => h.block k hk⟩ (by simp)

end Go.Proofs.Ytfnnbfgfmbiabaa

/-
  The document's own reader: what each of its calls answers and leaves.
-/
namespace Go.Proofs.Ytfnnbfgfmbiabaa
open Go.RowKit Go.Shelf

/-- Block Q holds the document's reader of the bytes l (which lie in v, below N), at the place a, with the error e. -/
structure Rrd (N : Nat) (W : World) (Q : Nat) (v : Value) (l : List UInt8) (a e : Nat) : Prop where
  le : N ≤ Q
  at0 : W.heap[Q]? = some (.cells #[v, .int .i64 (a : Int), .int .i64 (e : Int)] 125 (0, 0))
  sl : Sl N W v l

theorem Rrd.lt {N : Nat} {W : World} {Q : Nat} {v : Value} {l : List UInt8} {a e : Nat} (h : Rrd N W Q v l a e) : Q < W.heap.size := (Array.getElem?_eq_some_iff.1 h.at0).1

/-- It lies on, where another block is turned. -/
theorem Rrd.kept {N : Nat} {w w' : World} {Q : Nat} {v : Value} {l : List UInt8} {a e : Nat} {row : Option Nat} (h : Rrd N w Q v l a e) (hg : w.grownBy w' row) (hne : row ≠ some Q) (hrow : ∀ k, row = some k → N ≤ k) : Rrd N w' Q v l a e := by
  have hlt := h.lt
  have hle := h.le
  refine ⟨h.le, (hg.block Q hlt (fun e => hne e.symm)).trans h.at0, h.sl.below ⟨hg.os, hg.tape, hg.output, hg.size, fun k hk => hg.block k (by omega) (fun e => by have := hrow k e.symm; omega)⟩⟩

theorem Rrd.below {N B : Nat} {w w' : World} {Q : Nat} {v : Value} {l : List UInt8} {a e : Nat} (h : Rrd N w Q v l a e) (hB : Below B w w') (hs : w.heap.size ≤ B) : Rrd N w' Q v l a e :=
  h.kept (row := none) ⟨hB.os, hB.tape, hB.output, hB.size, fun k hk _ => hB.block k (by omega)⟩ (by simp) (by simp)

theorem Rrd.drewN {N : Nat} {w : World} {Q : Nat} {v : Value} {l : List UInt8} {a e : Nat} (h : Rrd N w Q v l a e) (n : Nat) : Rrd N (w.drewN n) Q v l a e := h.kept (row := none) (grown_drewN w n) (by simp) (by simp)

theorem Rrd.cells {N : Nat} {w : World} {Q : Nat} {v : Value} {l : List UInt8} {a e : Nat} (h : Rrd N w Q v l a e) :
    w.cell? ⟨Q, 0, none⟩ = some v ∧ w.cell? ⟨Q, 1, none⟩ = some (.int .i64 (a : Int)) ∧ w.cell? ⟨Q, 2, none⟩ = some (.int .i64 (e : Int)) ∧ w.frozen? ⟨Q, 1, none⟩ = false ∧ w.frozen? ⟨Q, 2, none⟩ = false := by
  have hR := h.at0
  exact ⟨by simp [World.cell?, hR], by simp [World.cell?, hR], by simp [World.cell?, hR], by simp [World.frozen?, hR], by simp [World.frozen?, hR]⟩

theorem Rrd.set {N : Nat} {w : World} {Q : Nat} {v : Value} {l : List UInt8} {a e : Nat} (h : Rrd N w Q v l a e) (o : Nat) (u : Value) : Sl N (w.setCell ⟨Q, o, none⟩ u) v l := by
  have hle := h.le
  exact h.sl.below ((Below.refl N w).setCell (p := ⟨Q, o, none⟩) hle u)

theorem Rrd.err {N : Nat} {w : World} {Q : Nat} {v : Value} {l : List UInt8} {a e : Nat} (h : Rrd N w Q v l a e) (e' : Nat) : Rrd N (w.setCell ⟨Q, 2, none⟩ (.int .i64 (e' : Int))) Q v l a e' := by
  have hlt := h.lt
  refine ⟨h.le, ?_, h.set _ _⟩
  show (w.heap.modify Q _)[Q]? = _
  rw [Array.getElem?_eq_getElem (by rw [Array.size_modify]; exact hlt), Array.getElem_modify_self, (Array.getElem?_eq_some_iff.1 h.at0).2]
  rfl

theorem Rrd.at' {N : Nat} {w : World} {Q : Nat} {v : Value} {l : List UInt8} {a e : Nat} (h : Rrd N w Q v l a e) (a' : Nat) : Rrd N (w.setCell ⟨Q, 1, none⟩ (.int .i64 (a' : Int))) Q v l a' e := by
  have hlt := h.lt
  refine ⟨h.le, ?_, h.set _ _⟩
  show (w.heap.modify Q _)[Q]? = _
  rw [Array.getElem?_eq_getElem (by rw [Array.size_modify]; exact hlt), Array.getElem_modify_self, (Array.getElem?_eq_some_iff.1 h.at0).2]
  rfl

set_option maxRecDepth 100000 in
set_option maxHeartbeats 1000000 in
/-- The document's Int of a reader. -/
theorem qInt_any (N Q : Nat) (v : Value) (l : List UInt8) (a e : Nat) (w : World) (h : Rrd N w Q v l a e) (hl : l.length ≤ 20000) (ha : a ≤ l.length) :
    Calls Try.prog 68 #[.pointer (some ⟨Q, 0, none⟩)] w fun r w' =>
      r = .returned (.int .i64 ((pk l a e).1 : Int)) ∧ Rrd N w' Q v l (a + (pk l a e).2.1) (pk l a e).2.2 ∧ w.grownBy w' (some Q) := by
  obtain ⟨k0, k1, k2, f1, f2⟩ := h.cells
  obtain ⟨av, c, rfl, -⟩ := id h.sl
  by_cases he : e = 0
  · subst he
    have hpk : pk l a 0 = intAt l a := rfl
    rw [hpk]
    have hbd := intAt_bd l a
    generalize hr : intAt l a = r at *
    have HR : Hid (intAt l a = r) := hr
    obtain ⟨n, s, e'⟩ := r
    obtain ⟨b1, b2, b3, -⟩ := hbd
    simp only at b1 b2 b3 ⊢
    have b4 := b3 ha
    clear hr hpk b3
    have hcall : ∀ nq, Calls Try.prog 109 #[.slice av l.length c, .int .i64 (a : Int)] (w.drewN nq) fun e w' => e = .returned (tup3 (n, s, e')) ∧ w' = w.drewN nq := fun nq => by
      have := refInt_any N _ l (a : Int) (w.drewN nq) (h.drewN nq).sl (by omega)
      rw [HR.out] at this; exact this
    unfold tup3 at hcall
    simp only at hcall
    have HC := hcall
    clear hcall
    go_enter Try.func68, Try.ntmps68
    go_wp2
    go_quiet ((go_at_call 109; exact Calls.quiet_of_same (HC _)))
    have HF : Hid (∀ nq, Rrd N (((w.drewN nq).setCell ⟨Q, 2, none⟩ (.int .i64 (e' : Int))).setCell ⟨Q, 1, none⟩ (.int .i64 ((a : Int) + (s : Int)))) Q (.slice av l.length c) l (a + s) e') := fun nq => by
      have := ((h.drewN nq).err e').at' (a + s)
      simpa using this
    have HG : Hid (∀ nq, w.grownBy (((w.drewN nq).setCell ⟨Q, 2, none⟩ (.int .i64 (e' : Int))).setCell ⟨Q, 1, none⟩ (.int .i64 ((a : Int) + (s : Int)))) (some Q)) := fun nq =>
      grown_trans (grown_trans (grown_trans (grown_refl w _) (grown_drewN w nq) (by simp)) (grown_set _ _ _ _) (fun k e => .inl e)) (grown_set _ _ _ _) (fun k e => .inl e)
    clear HC h
    go_wp2
    go_ret
    exact ⟨rfl, by simpa using HF.out _, by simpa using HG.out _⟩
  · have hpk : pk l a e = (0, 0, e) := by simp [pk, he]
    rw [hpk]
    have he' : ((e : Int) != 0) = true := by simp; omega
    go_enter Try.func68, Try.ntmps68
    go_wp2
    go_ret
    exact ⟨rfl, h, grown_refl w _⟩

set_option maxRecDepth 100000 in
set_option maxHeartbeats 1000000 in
theorem qBool_any (N Q : Nat) (v : Value) (l : List UInt8) (a e : Nat) (w : World) (h : Rrd N w Q v l a e) (hl : l.length ≤ 20000) (ha : a ≤ l.length) :
    Calls Try.prog 98 #[.pointer (some ⟨Q, 0, none⟩)] w fun r w' =>
      r = .returned (.bool (boolAt l a e).1) ∧ Rrd N w' Q v l (boolAt l a e).2.1 (boolAt l a e).2.2 ∧ w.grownBy w' (some Q) := by
  have hp := qInt_any N Q v l a e w h hl ha
  have hbd := pk_bd l a e
  obtain ⟨k0, k1, k2, f1, f2⟩ := h.cells
  unfold boolAt
  generalize pk l a e = p at *
  obtain ⟨n, s, e'⟩ := p
  obtain ⟨b1, b2, b3, b5⟩ := hbd
  simp only at hp b1 b2 b3 b5 ⊢
  by_cases hn : 1 < n
  · have he0 : e' = 0 := by
      by_cases h : e' = 0
      · exact h
      · have := (b5 h).1; omega
    subst he0
    rw [if_pos hn]
    clear b3 b5
    go_enter Try.func98, Try.ntmps98
    go_wp2_with (go_at_call 68; refine hp.mono ?_; rintro r w1 ⟨rfl, h1, hg⟩; obtain ⟨_, k1', k2', f1', f2'⟩ := h1.cells)
    go_ret
    have := (h1.err 4).at' a
    exact ⟨rfl, this, grown_trans (grown_trans hg (grown_set _ _ _ _) (fun k e => .inl e)) (grown_set _ _ _ _) (fun k e => .inl e)⟩
  · rw [if_neg hn]
    by_cases he0 : e' = 0
    · subst he0
      have hn' : decide ((1 : Int) < (n : Int)) = false := by simp; omega
      clear b3 b5
      go_enter Try.func98, Try.ntmps98
      go_wp2_with (go_at_call 68; refine hp.mono ?_; rintro r w1 ⟨rfl, h1, hg⟩; obtain ⟨_, k1', k2', f1', f2'⟩ := h1.cells)
      go_ret
      refine ⟨?_, h1, hg⟩
      have e1 : ((n : Int) == 1) = (n == 1) := by rw [Bool.eq_iff_iff]; simp; omega
      rw [← e1]; rfl
    · have hn0 : n = 0 := (b5 he0).1
      subst hn0
      have he1 : ((e' : Int) == 0) = false := by rw [beq_eq_false_iff_ne]; omega
      clear b3 b5
      go_enter Try.func98, Try.ntmps98
      go_wp2_with (go_at_call 68; refine hp.mono ?_; rintro r w1 ⟨rfl, h1, hg⟩; obtain ⟨_, k1', k2', f1', f2'⟩ := h1.cells)
      go_ret
      exact ⟨rfl, h1, hg⟩

set_option maxRecDepth 100000 in
set_option maxHeartbeats 1000000 in
theorem qLeft_any (N Q : Nat) (v : Value) (l : List UInt8) (a e : Nat) (w : World) (h : Rrd N w Q v l a e) (hl : l.length ≤ 20000) (ha : a ≤ l.length) :
    Calls Try.prog 110 #[.pointer (some ⟨Q, 0, none⟩)] w fun r w' => r = .returned (.int .i64 ((l.length : Int) - (a : Int))) ∧ ∃ n, w' = w.drewN n := by
  obtain ⟨k0, k1, k2, f1, f2⟩ := h.cells
  obtain ⟨av, c, rfl, -⟩ := id h.sl
  go_enter Try.func110, Try.ntmps110
  go_wp2
  go_quiet (fail)
  go_wp2
  go_ret
  exact ⟨rfl, _, rfl⟩

set_option maxRecDepth 100000 in
set_option maxHeartbeats 1000000 in
theorem qDone_any (N Q : Nat) (v : Value) (l : List UInt8) (a e : Nat) (w : World) (h : Rrd N w Q v l a e) (hl : l.length ≤ 20000) (ha : a ≤ l.length) :
    Calls Try.prog 70 #[.pointer (some ⟨Q, 0, none⟩)] w fun r w' => r = .returned (.int .i64 (doneE l a e : Int)) ∧ ∃ n, w' = w.drewN n := by
  obtain ⟨k0, k1, k2, f1, f2⟩ := h.cells
  by_cases he : e = 0
  · subst he
    by_cases hlt : a < l.length
    · have HE : Hid (doneE l a 0 = 3) := by show doneE l a 0 = 3; simp [doneE, hlt]
      go_enter Try.func70, Try.ntmps70
      go_wp2_with (go_at_call 110; refine (qLeft_any N Q v l a 0 w h hl ha).mono ?_; rintro r w1 ⟨rfl, n, rfl⟩)
      go_ret
      exact ⟨by rw [HE.out]; rfl, _, rfl⟩
    · have HE : Hid (doneE l a 0 = 0) := by show doneE l a 0 = 0; simp [doneE, hlt]
      go_enter Try.func70, Try.ntmps70
      go_wp2_with (go_at_call 110; refine (qLeft_any N Q v l a 0 w h hl ha).mono ?_; rintro r w1 ⟨rfl, n, rfl⟩)
      go_ret
      exact ⟨by rw [HE.out]; rfl, _, rfl⟩
  · have HE : Hid (doneE l a e = e) := by show doneE l a e = e; simp [doneE, he]
    have he' : ((e : Int) == 0) = false := by simp; omega
    go_enter Try.func70, Try.ntmps70
    go_wp2
    go_ret
    exact ⟨by rw [HE.out]; rfl, 0, rfl⟩
end Go.Proofs.Ytfnnbfgfmbiabaa

