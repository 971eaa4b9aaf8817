/-
  Form; Canon; Seq; Put.
-/
import Derived.Test.YtfnnbfgfmbiababJ01
import Derived.RangeFuncNested
import Derived.RangeFuncBound
import Derived.RangeFuncCalls
import Derived.RangeFuncLeaves
import Derived.RangeFuncBox
import Derived.Shelf.Abstract
import Derived.Shelf.RegionOpen
import Derived.WalkKit
import Derived.OwnWalkIn
import Derived.TacticsInMore
import Derived.LoopNIn
import Derived.LoopIn
import Derived.Maps.AppendAt
import Derived.Maps.OwnIn
/-
  One form: a number's bytes, read again, are that number in just these bytes, whatever lies behind; no number's bytes begin another's; they never get fewer.
-/
namespace Go.Proofs.Ytfnnbfgfmbiabab

theorem num_fuel : ∀ (f g n : Nat), n < 128 ^ (f + 1) → f ≤ g → num g n = num f n
  | 0, g, n, h, _ => by rw [num_lt (by simpa using h), num_lt (by simpa using h)]
  | f + 1, 0, n, _, hg => by omega
  | f + 1, g + 1, n, h, hg => by
    by_cases hn : n < 128
    · rw [num_lt hn, num_lt hn]
    · rw [num_ge (by omega), num_ge (by omega), num_fuel f g (n / 128) (by rw [Nat.pow_succ] at h; omega) (by omega)]

theorem pow9 : (128 : Nat) ^ (8 + 1) = 9223372036854775808 := by decide

theorem numB_eq (n : Nat) (h : n ≤ 4611686018427387904) : numB n = num 8 n := num_fuel 8 9 n (by rw [pow9]; omega) (by omega)

theorem ofNat_lo {n : Nat} (h : n < 128) : (UInt8.ofNat n).toNat = n := by simp; omega
theorem ofNat_hi (n : Nat) : (UInt8.ofNat (n % 128 + 128)).toNat = n % 128 + 128 := by simp; omega

theorem ahead_num : ∀ (f g n : Nat) (t : List UInt8), n < 128 ^ (f + 1) → f < g → ahead g (num f n ++ t) = num f n
  | 0, 0, n, t, _, hg => by omega
  | f + 1, 0, n, t, _, hg => by omega
  | 0, g + 1, n, t, h, _ => by
    have hn : n < 128 := by simpa using h
    rw [num_lt hn]
    simp only [List.cons_append, List.nil_append, ahead, ofNat_lo hn, hn, if_true]
  | f + 1, g + 1, n, t, h, hg => by
    by_cases hn : n < 128
    · rw [num_lt hn]
      simp only [List.cons_append, List.nil_append, ahead, ofNat_lo hn, hn, if_true]
    · rw [num_ge (by omega)]
      have hi := ofNat_hi n
      simp only [List.cons_append, ahead]
      rw [if_neg (by omega), ahead_num f g (n / 128) t (by rw [Nat.pow_succ] at h; omega) (by omega)]

theorem val_num : ∀ (f n : Nat), n < 128 ^ (f + 1) → val (num f n) = n
  | 0, n, h => by
    have hn : n < 128 := by simpa using h
    rw [num_lt hn]; simp only [val, ofNat_lo hn]; omega
  | f + 1, n, h => by
    by_cases hn : n < 128
    · rw [num_lt hn]; simp only [val, ofNat_lo hn]; omega
    · rw [num_ge (by omega)]
      simp only [val, ofNat_hi, val_num f (n / 128) (by rw [Nat.pow_succ] at h; omega)]
      omega

theorem lastB_cons (x : UInt8) (l : List UInt8) (h : l ≠ []) : lastB (x :: l) = lastB l := by
  unfold lastB
  cases l with
  | nil => exact absurd rfl h
  | cons y l => simp [List.getLastD]

theorem last_num : ∀ (f n : Nat), n < 128 ^ (f + 1) → lastB (num f n) < 128 ∧ (lastB (num f n) = 0 → n = 0)
  | 0, n, h => by
    have hn : n < 128 := by simpa using h
    have h2 := ofNat_lo hn
    rw [num_lt hn]; simp only [lastB, List.getLastD_cons, List.getLastD_nil]; omega
  | f + 1, n, h => by
    by_cases hn : n < 128
    · have h2 := ofNat_lo hn
      rw [num_lt hn]; simp only [lastB, List.getLastD_cons, List.getLastD_nil]; omega
    · rw [num_ge (by omega), lastB_cons _ _ (num_ne _ _)]
      have := last_num f (n / 128) (by rw [Nat.pow_succ] at h; omega)
      exact ⟨this.1, fun e => by have := this.2 e; omega⟩

/-- There and back: a number's bytes, with anything behind them. -/
theorem intAt_num (n : Nat) (t : List UInt8) (h : n ≤ 4611686018427387904) : intAt (numB n ++ t) ((0 : Nat) : Int) = (n, (numB n).length, 0) := by
  have hlt : n < 128 ^ (8 + 1) := by rw [pow9]; omega
  have hp := num_len_pos 8 n
  have hl := last_num 8 n hlt
  unfold intAt
  rw [numB_eq n h, if_neg (by simp; omega)]
  simp only [Int.toNat_natCast, List.drop_zero]
  rw [ahead_num 8 9 n t hlt (by omega)]
  unfold verdict
  have hz : ¬ (lastB (num 8 n) = 0 ∧ 1 < (num 8 n).length) := by
    rintro ⟨h1, h2⟩
    have := hl.2 h1
    subst this
    rw [num_lt (by omega)] at h2
    simp at h2
  rw [if_neg (by omega), if_neg (by omega), if_neg hz, val_num 8 n hlt, if_neg (by omega)]

theorem numB_front (a b : Nat) (ha : a ≤ 4611686018427387904) (hb : b ≤ 4611686018427387904) (hl : (numB a).length ≤ (numB b).length) : (numB a = (numB b).take (numB a).length) ↔ a = b := by
  constructor
  · intro h
    have h1 := intAt_num a ((numB b).drop (numB a).length) ha
    have h2 := intAt_num b [] hb
    have h3 : numB a ++ (numB b).drop (numB a).length = numB b := by
      conv => lhs; arg 1; rw [h]
      exact List.take_append_drop _ _
    rw [h3] at h1
    rw [List.append_nil, h1] at h2
    exact congrArg Prod.fst h2
  · rintro rfl
    simp

theorem num_len_mono : ∀ (f a b : Nat), a ≤ b → (num f a).length ≤ (num f b).length
  | 0, a, b, _ => by simp [num]
  | f + 1, a, b, h => by
    by_cases ha : a < 128
    · rw [num_lt ha]; exact num_len_pos (f + 1) b
    · rw [num_ge (by omega), num_ge (by omega)]
      have := num_len_mono f (a / 128) (b / 128) (Nat.div_le_div_right h)
      simpa using this
end Go.Proofs.Ytfnnbfgfmbiabab

/-
  What is read as a number, written again, is just those bytes; its fronts are none.
-/
namespace Go.Proofs.Ytfnnbfgfmbiabab

/-- All bytes but the last have 80 (hex) added; the last has not. -/
def Good : List UInt8 → Prop
  | [] => False
  | [x] => x.toNat < 128
  | x :: y :: l => 128 ≤ x.toNat ∧ Good (y :: l)

theorem ahead_good : ∀ (f : Nat) (l : List UInt8), ahead f l ≠ [] → lastB (ahead f l) < 128 → Good (ahead f l)
  | 0, l, h, _ => by simp [ahead] at h
  | f + 1, [], h, _ => by simp [ahead] at h
  | f + 1, x :: l, h, hl => by
    by_cases hx : x.toNat < 128
    · simp only [ahead, hx, if_true, Good]
    · simp only [ahead, hx, if_false] at hl ⊢
      cases hq : ahead f l with
      | nil => rw [hq] at hl; simp only [lastB, List.getLastD_cons, List.getLastD_nil] at hl; omega
      | cons y q =>
        rw [hq] at hl
        rw [lastB_cons _ _ (by simp)] at hl
        have := ahead_good f l (by rw [hq]; simp) (by rw [hq]; exact hl)
        rw [hq] at this
        exact ⟨by omega, this⟩

theorem ahead_front : ∀ (f : Nat) (l : List UInt8), ahead f l = l.take (ahead f l).length
  | 0, l => by simp [ahead]
  | f + 1, [] => by simp [ahead]
  | f + 1, x :: l => by
    by_cases hx : x.toNat < 128
    · simp [ahead, hx]
    · have := ahead_front f l
      simp only [ahead, hx, if_false, List.length_cons, List.take_succ_cons]
      exact congrArg (x :: ·) this

theorem Good.val_pos : ∀ {p : List UInt8}, Good p → lastB p ≠ 0 → 0 < val p
  | [], h, _ => h.elim
  | [x], h, hl => by
    simp only [lastB, List.getLastD_cons, List.getLastD_nil] at hl
    simp only [Good] at h
    simp only [val]; omega
  | x :: y :: l, h, hl => by
    rw [lastB_cons _ _ (by simp)] at hl
    have := Good.val_pos h.2 hl
    simp only [val] at this ⊢; omega

theorem Good.canon : ∀ {p : List UInt8} (f : Nat), Good p → (1 < p.length → lastB p ≠ 0) → p.length ≤ f + 1 → num f (val p) = p
  | [], _, h, _, _ => h.elim
  | [x], f, h, _, _ => by
    simp only [Good] at h
    have e : val [x] = x.toNat := by simp only [val]; omega
    rw [e, num_lt h]; simp
  | x :: y :: l, 0, h, _, hf => by simp at hf
  | x :: y :: l, f + 1, h, hl, hf => by
    have hl' := hl (by simp)
    rw [lastB_cons _ _ (by simp)] at hl'
    have hp := Good.val_pos h.2 hl'
    have ih := Good.canon f h.2 (fun _ => hl') (by simpa using hf)
    have hx := h.1
    have hx2 := x.toNat_lt
    have e : val (x :: y :: l) = x.toNat % 128 + 128 * val (y :: l) := rfl
    rw [e, num_ge (by omega)]
    have e1 : (x.toNat % 128 + 128 * val (y :: l)) / 128 = val (y :: l) := by omega
    have e2 : (x.toNat % 128 + 128 * val (y :: l)) % 128 + 128 = x.toNat := by omega
    rw [e1, e2, ih]; simp

theorem Good.hi : ∀ {p : List UInt8}, Good p → ∀ j, j + 1 < p.length → 128 ≤ (byteAt p j).toNat
  | [], h, _, _ => h.elim
  | [x], _, j, hj => by simp at hj
  | x :: y :: l, h, 0, _ => by simpa [byteAt] using h.1
  | x :: y :: l, h, j + 1, hj => by
    have := Good.hi h.2 j (by simpa using hj)
    simpa [byteAt] using this

theorem verdict_ok (p : List UInt8) (h : (verdict p).2.2 = 0) : verdict p = (val p, p.length, 0) ∧ lastB p < 128 ∧ (1 < p.length → lastB p ≠ 0) ∧ val p ≤ 4611686018427387904 := by
  unfold verdict at h ⊢
  split at h
  · simp at h
  · split at h
    · simp at h
    · split at h
      · simp at h
      · split at h
        · simp at h
        · rename_i h1 h2 h3 h4
          rw [if_neg h1, if_neg h2, if_neg h3, if_neg h4]
          exact ⟨rfl, by omega, fun hp hz => h3 ⟨hz, hp⟩, by omega⟩

/-- The whole of it. -/
theorem intAt_fronts (l : List UInt8) (i : Int) (h : (intAt l i).2.2 = 0) :
    ∃ a k n : Nat, i = (a : Int) ∧ intAt l i = (n, k, 0) ∧ 1 ≤ k ∧ k ≤ 9 ∧ a + k ≤ l.length ∧ n ≤ 4611686018427387904 ∧ numB n = (l.drop a).take k ∧ intAt (l.take (a + k - 1)) (a : Int) = (0, 0, 2) := by
  by_cases hi : i < 0 ∨ (l.length : Int) ≤ i
  · rw [intAt_off l i hi] at h; simp at h
  · obtain ⟨a, rfl⟩ := Int.eq_ofNat_of_zero_le (show 0 ≤ i by omega)
    have e : intAt l (a : Int) = verdict (ahead 9 (l.drop a)) := by
      unfold intAt; rw [if_neg hi]; simp only [Int.toNat_natCast]
    rw [e] at h ⊢
    obtain ⟨h1, h2, h3, h4⟩ := verdict_ok _ h
    have hal : a < l.length := by omega
    have hne : ahead 9 (l.drop a) ≠ [] := by
      rw [drop_consB l a hal]
      simp only [ahead]; split <;> simp
    have hg := ahead_good 9 (l.drop a) hne h2
    have hfr := ahead_front 9 (l.drop a)
    have h9 := ahead_len_le 9 (l.drop a)
    have hll := ahead_len_le' 9 (l.drop a)
    have hpos : 0 < (ahead 9 (l.drop a)).length := List.length_pos_iff.2 hne
    have hhi := hg.hi
    have hc := hg.canon 9 h3 (by omega)
    generalize ahead 9 (l.drop a) = p at *
    simp only [List.length_drop] at hll
    refine ⟨a, p.length, val p, rfl, h1, hpos, h9, by omega, h4, ?_, ?_⟩
    · rw [← hfr]; exact hc
    · by_cases hk : p.length = 1
      · apply intAt_off
        right
        simp; omega
      · refine verdict_short _ a (p.length - 1) (by omega) (by simp; omega) (by simp; omega) (fun j hj => ?_)
        have hb := hhi j (by omega)
        rw [hfr, byteAt_take _ _ _ (by omega), byteAt_drop] at hb
        rw [byteAt_take _ _ _ (by omega)]
        exact hb
end Go.Proofs.Ytfnnbfgfmbiabab

/-
  The two iterators: bytesOf yields the bytes of a number, bytesAhead the bytes that a number may have; whoever goes over them may stop at any.
-/
namespace Go.Proofs.Ytfnnbfgfmbiabab
open Go.RowKit Go.Shelf
attribute [local go_sem] Oper.semAt_some

set_option maxRecDepth 100000 in
set_option maxHeartbeats 1000000 in
theorem bytesOf1_in (n : Nat) (hn : 1 ≤ n) (l Bn n₀ m : Nat) (hm : m ≤ 4611686018427387904) (J Jx : List UInt8 → World → Prop)
    (hY : ∀ pre x W, J pre W → pre.length < (numB m).length → YieldAt Fence.wide (n - 1) Try.prog l #[encB x] W fun e W' =>
      (e = .returned (.bool true) ∧ J (pre ++ [x]) W' ∧ Below n₀ W W') ∨ (e = .returned (.bool false) ∧ Jx (pre ++ [x]) W'))
    (W : World) (hBn : W.cell? ⟨Bn, 0, none⟩ = some (.int .i64 (m : Int))) (h0 : J [] W) :
    CallsIn Fence.wide n Try.prog 108 #[.func (.yield l) #[] #[], .pointer (some ⟨Bn, 0, none⟩)] W fun e W' => (∃ v, e = .returned v) ∧
      ((∃ ys, ys = numB m ∧ J ys W') ∨ (∃ pre, pre <+: numB m ∧ Jx pre W')) := by
  refine callsIn_of_wp Try.func108 rfl trivial ?_ rfl
  simp only [Try.ntmps108, List.size_toArray, List.length_cons, List.length_nil, Nat.reduceAdd, Nat.reduceSub, Array.replicate_succ, Array.replicate_zero, List.push_toArray, List.append_toArray, List.nil_append, List.cons_append]
  gi_wp2
  gi_loopw [3] (fun p wr => ∃ (f q : Nat) (pre : List UInt8), p = .int .i64 (q : Int) ∧ q < 128 ^ (f + 1) ∧ q ≤ 4611686018427387904 ∧ pre ++ num f q = numB m ∧ J pre wr)
    (fun p _ => (intOf p).toNat)
  case atStart =>
    exact ⟨9, m, [], rfl, by have : (128:Nat)^10 = 1180591620717411303424 := by decide
                             omega, hm, rfl, h0⟩
  case round =>
    obtain ⟨f, q, pre, rfl, hq, hq2, hx, hJs⟩ := hrel
    have HQ : Hid (q < 128 ^ (f + 1)) := hq
    have HX : Hid (pre ++ num f q = numB m) := hx
    clear hq hx
    by_cases hlt : 128 ≤ q
    · have hlen : pre.length < (numB m).length := by rw [← HX.out]; have := num_len_pos f q; simp; omega
      obtain ⟨fn, tmps, assign, body, hy, hR⟩ := hY pre (UInt8.ofNat (q % 128 + 128)) wr hJs hlen
      clear hlen
      rw [show encB (UInt8.ofNat (q % 128 + 128)) = .int .u8 ((q : Int) % 128 + 128) by rw [← u8_hi]; simp] at hy
      have hor := or128 q
      gi_wp2
      refine hR.mono ?_
      rintro e W3 (⟨rfl, hJ3, hk3⟩ | ⟨rfl, hJx3⟩)
      · clear hor hy hR
        gi_wp2
        go_roundw
        case rel =>
          cases f with
          | zero => have := HQ.out; simp at this; omega
          | succ f =>
            refine ⟨f, q / 128, _, ?_, ?_, by omega, ?_, hJ3⟩
            · go_num
            · have := HQ.out; rw [Nat.pow_succ] at this; omega
            · have := HX.out; rw [num_ge hlt] at this; simpa using this
        case measure => simp [intOf]; omega
      · clear hor hy hR
        gi_wp2
        refine bodyPost_ret (results_none rfl _ _ _) rfl ?_
        refine ⟨⟨_, rfl⟩, .inr ⟨_, ?_, hJx3⟩⟩
        cases f with
        | zero => have := HQ.out; simp at this; omega
        | succ f => have := HX.out; rw [num_ge hlt] at this; exact ⟨num f (q / 128), by simpa using this⟩
    · have hlen : pre.length < (numB m).length := by rw [← HX.out]; have := num_len_pos f q; simp; omega
      obtain ⟨fn, tmps, assign, body, hy, hR⟩ := hY pre (UInt8.ofNat q) wr hJs hlen
      clear hlen
      rw [← u8_lo q (by omega)] at hy
      have HE : Hid (pre ++ [UInt8.ofNat q] = numB m) := by have := HX.out; rw [num_lt (by omega)] at this; exact this
      gi_wp2
      refine hR.mono ?_
      rintro e W3 (⟨rfl, hJ3, hk3⟩ | ⟨rfl, hJx3⟩)
      · clear hy hR
        gi_wp2
        go_end0
        exact ⟨⟨_, rfl⟩, .inl ⟨_, HE.out, hJ3⟩⟩
      · clear hy hR
        gi_wp2
        go_end0
        exact ⟨⟨_, rfl⟩, .inr ⟨_, by rw [HE.out]; exact List.prefix_refl _, hJx3⟩⟩

set_option maxHeartbeats 1000000 in
theorem bytesOf_in (n : Nat) (m : Int) (w : World) :
    CallsIn Fence.wide n Try.prog 105 #[.int .i64 m] w fun e w' => e = .returned (.func (.func 108) #[] #[.pointer (some ⟨w.heap.size, 0, none⟩)]) ∧ w' = w.alloc (.cells #[.int .i64 m] 3) := by
  refine callsIn_of_wp Try.func105 rfl trivial ?_ rfl
  simp only [Try.ntmps105, List.size_toArray, List.length_cons, List.length_nil, Nat.reduceAdd, Nat.reduceSub, Array.replicate_succ, Array.replicate_zero, List.push_toArray, List.append_toArray, List.nil_append, List.cons_append]
  gi_wp2
  go_ret
  exact ⟨rfl, rfl⟩

theorem bytesOf_stops (n : Nat) (hn : 1 ≤ n) (Bn n₀ m : Nat) (hm : m ≤ 4611686018427387904) (w : World) (hBn : Bn < w.heap.size)
    (hc : w.cell? ⟨Bn, 0, none⟩ = some (.int .i64 (m : Int))) :
    SeqStopsK Fence.wide n Try.prog 108 #[.pointer (some ⟨Bn, 0, none⟩)] (fun x : UInt8 => #[encB x]) (Below n₀) (fun ys => ys = numB m) (fun pre => pre <+: numB m) (numB m).length w := fun l J Jx W hW _ _ hY h0 =>
  bytesOf1_in n hn l Bn n₀ m hm J Jx hY W ((hW.cell (p := ⟨Bn, 0, none⟩) hBn).trans hc) h0
end Go.Proofs.Ytfnnbfgfmbiabab

/-
  wire.Size, wire.PutInt: for every int what the document says.
-/
namespace Go.Proofs.Ytfnnbfgfmbiabab
open Go.RowKit Go.Shelf
attribute [local go_sem] Oper.semAt_some

/-- The block of a slice stayed its own, or is new. -/
def SameOrNew (w : World) (v v' : Value) : Prop := v'.ownBlock = v.ownBlock ∨ ∃ k, v'.ownBlock = some k ∧ w.heap.size ≤ k

theorem Ow.shape {N : Nat} {w : World} {v : Value} {l : List UInt8} (h : Ow N w v l) : ∃ a cap, v = .slice a l.length cap ∧ l.length ≤ cap ∧ cap ≤ maxLen := by
  rcases h.2 with ⟨rfl, h2⟩ | ⟨g, cap, cur, rfl, _, _, h3, h4, _⟩
  · exact ⟨none, 0, by rw [h2], by omega, by unfold maxLen; omega⟩
  · exact ⟨_, _, rfl, h3, h4⟩

theorem ownFrom_grown {β : Type} {w₀ : World} {row : Option Nat} {B : Nat} (hB : w₀.heap.size ≤ B) : OwnFrom B (fun (_ : β) W => w₀.grownBy W row) :=
  fun _ W W' r hs hg hr => ⟨hg.os.trans hs.os, hg.tape.trans hs.tape, hg.output.trans hs.output, Nat.le_trans hs.size hg.size, fun k hk hne =>
    (hg.block k (Nat.lt_of_lt_of_le hk hs.size) (fun e => by have := (hr k e.symm).1; omega)).trans (hs.block k hk hne)⟩

theorem grown_trans {w W W' : World} {row r : Option Nat} (h : w.grownBy W row) (hg : W.grownBy W' r) (hr : ∀ k, r = some k → row = some k ∨ w.heap.size ≤ k) : w.grownBy W' row :=
  ⟨hg.os.trans h.os, hg.tape.trans h.tape, hg.output.trans h.output, Nat.le_trans h.size hg.size, fun k hk hne =>
    (hg.block k (Nat.lt_of_lt_of_le hk h.size) (fun e => by
      rcases hr k e.symm with h' | h'
      · exact hne h'.symm
      · omega)).trans (h.block k hk hne)⟩

theorem grown_refl (w : World) (row : Option Nat) : w.grownBy w row := ⟨rfl, rfl, rfl, Nat.le_refl _, fun _ _ _ => rfl⟩

theorem SameOrNew.row {w : World} {v v' : Value} (h : SameOrNew w v v') : ∀ k, v'.ownBlock = some k → v.ownBlock = some k ∨ w.heap.size ≤ k := by
  intro k hk
  rcases h with h | ⟨j, h1, h2⟩
  · exact .inl (h ▸ hk)
  · rw [h1] at hk; cases hk; exact .inr h2

theorem SameOrNew.step {w W : World} {v v1 v2 : Value} (h : SameOrNew w v v1) (hs : w.heap.size ≤ W.heap.size) (h2 : v2.ownBlock = v1.ownBlock ∨ v2.ownBlock = some W.heap.size) : SameOrNew w v v2 := by
  rcases h2 with h2 | h2
  · rcases h with h | ⟨k, h3, h4⟩
    · exact .inl (h2.trans h)
    · exact .inr ⟨k, h2.trans h3, h4⟩
  · exact .inr ⟨_, h2, hs⟩

set_option maxRecDepth 100000 in
set_option maxHeartbeats 2000000 in
theorem appendInt_in (n : Nat) (hn : 3 ≤ n) (N : Nat) (v : Value) (l : List UInt8) (m : Nat) (hm : m ≤ 4611686018427387904) (w : World) (hN : N ≤ w.heap.size) (hl : l.length ≤ 1073741824) (hv : Ow N w v l) :
    CallsIn Fence.wide n Try.prog 88 #[v, .int .i64 (m : Int)] w fun e w' => ∃ v', e = .returned v' ∧ Ow N w' v' (l ++ numB m) ∧ w.grownBy w' v.ownBlock ∧ SameOrNew w v v' := by
  have h1 : 1 ≤ n := by omega
  obtain ⟨i0, hi, hz0, hz1, hz2⟩ := info_parts info5
  obtain ⟨a0, cap0, rfl, -, -⟩ := hv.shape
  generalize hv0 : Value.slice a0 l.length cap0 = v0 at hv
  refine callsIn_of_wp_marks Try.func88 rfl trivial ?_ rfl
  rw [← hv0]
  have HV0 : Hid (Value.slice a0 l.length cap0 = v0) := hv0
  clear hv0
  simp only [Try.ntmps88, List.size_toArray, List.length_cons, List.length_nil, Nat.reduceAdd, Nat.reduceSub, Array.replicate_succ, Array.replicate_zero, List.push_toArray, List.append_toArray, List.nil_append, List.cons_append]
  gi_wp2_with (refine ⟨trivial, ?_⟩; gi_at_call 105; refine (bytesOf_in (n - 1) _ _).mono ?_; rintro e w' ⟨rfl, hw⟩; subst w')
  have bO := Boxed.new w 23 (.slice a0 l.length cap0)
  have bN := Boxed.new (w.alloc (.cells #[.slice a0 l.length cap0] 23)) 3 (.int .i64 (m : Int))
  rw [World.size_alloc] at bN
  have g0 : w.grownBy ((w.alloc (.cells #[.slice a0 l.length cap0] 23)).alloc (.cells #[.int .i64 (m : Int)] 3)) v0.ownBlock := grown_trans (grown_trans (grown_refl w _) (World.grownBy_alloc _ _ none) (by simp)) (World.grownBy_alloc _ _ none) (by simp)
  have hv' : World.ownsRow w N 5 1 (.slice a0 l.length cap0) l.length (l.map encB) := by rw [HV0.out]; exact hv
  refine wpIn_rangeFunc_ownG rfl h1 (gf := 108) (lb := #[.pointer (some ⟨w.heap.size + 1, 0, none⟩)]) rfl trivial (enters_of Try.func108 (by kernel_rfl) rfl)
    (bytesOf_stops (n - 1) (by omega) (w.heap.size + 1) N m hm _ (by simp) bN.cell) belowK_t (belowK_b (by simp; omega)) (Below.refl _ _) (fun _ => rfl)
    (fun pre W => (∃ v, Boxed W w.heap.size 23 v ∧ W.ownsRow N 5 1 v (l ++ pre).length ((l ++ pre).map encB) ∧ SameOrNew w v0 v) ∧ w.grownBy W v0.ownBlock)
    (fun _ _ _ => False)
    (OwnFrom.and (Own.from (holdsRow_own N w.heap.size 23 5 1 (fun pre => (l ++ pre).length) (fun pre => (l ++ pre).map encB) (fun _ v => SameOrNew w v0 v)) _) (ownFrom_grown (by simp; omega)))
    (fun _ _ _ _ _ hs _ _ => hs)
    ⟨⟨_, bO.alloc _, by simpa using (hv'.alloc _).alloc _, .inl (by rw [HV0.out])⟩, g0⟩
    (fun x => { tmps := #[.slice a0 l.length cap0, .int .i64 (m : Int), .pointer (some ⟨w.heap.size, 0, none⟩), undef, .slice none 0 0, encB x, .int .i64 (m : Int), .func (.func 108) #[] #[.pointer (some ⟨w.heap.size + 1, 0, none⟩)], encB x, undef, undef, undef, undef, undef], defers := [] }) ?assign ?body ?done ?stop
  case assign =>
    intro l x W K hK
    unfold encB at hK ⊢
    gi_wp2
    exact hK
  case body =>
    rintro l' pre x W ⟨⟨v, hv, hrow, hsn⟩, hg⟩ hlt
    have hc := hv.cell
    have hlen : (numB m).length ≤ 10 := num_len_le 9 m
    have hp : pre.length ≤ 10 := by omega
    have hll : (l ++ pre).length ≤ 1073741834 := by simp; omega
    have hsz : N ≤ W.heap.size := Nat.le_trans hN hg.size
    clear hlt hlen
    generalize hlp : l ++ pre = lp at hrow hll
    have HLP : Hid (l ++ pre = lp) := hlp
    clear hlp
    unfold encB
    gi_wp2_with (gi_at_builtin; refine wpListIn_append_own_at _ rfl _ _ 23 rfl N 5 i0 (.int .u8 0) 1 1 Try.underlying23 hi hz0 hz1 hz2 rfl (by decide) _ _ _ rfl (hrow.alloc _) ⟨W.heap.size, 0, none⟩ 1 1 [.int .u8 (x.toNat : Int)] rfl rfl (cell_one_new _ _ _) (by simp [Value.oneCell']) (by unfold maxLen; omega) (by omega) (by simp; omega) ?_; intro v' w1 hown' hgrow _ hnew; obtain ⟨g', cap', rfl⟩ := ownsRow_succ hown'; obtain ⟨hv1, hv2, hr2, hk2, hb2⟩ := hv.appended (by decide) hrow hsz hN hown' hgrow; have hc1 := hv1.cell; have hf1 := hv1.frozen)
    refine ⟨hk2.from _, hb2, ⟨_, hv2, ?_, ?_⟩, ?_⟩
    · have := HLP.out
      rw [← List.append_assoc, this, List.map_append, List.length_append]
      exact hr2
    · exact hsn.step (W := W.alloc (.cells #[.int .u8 (x.toNat : Int)] 5)) (by have := hg.size; simp; omega) hnew
    · exact grown_trans (grown_trans (grown_trans hg (World.grownBy_alloc _ _ none) (by simp)) hgrow hsn.row) (grownBy_setCell' _ _ _) (fun k e => .inr (by cases e; exact Nat.le_refl _))
  case done =>
    rintro D ys W hD rfl ⟨⟨v, hv, hrow, hsn⟩, hg⟩ hK
    have hc := hv.cell
    gi_wp2
    refine ⟨by simp, .inl ⟨_, _, rfl, run_takeDeferred hK, ?_⟩⟩
    exact ⟨_, results_tmp rfl _ _ _, v, rfl, ownsRow_putObj hrow _ hK rfl, by rw [HV0.out]; exact grown_trans hg (grownBy_putObj' _ _ _) (fun k e => .inr (by cases e; simp at hD; omega)), by rw [HV0.out]; exact hsn⟩
  case stop =>
    rintro D c pre W _ _ h _
    exact h.elim

theorem appendInt_any (N : Nat) (v : Value) (l : List UInt8) (m : Nat) (hm : m ≤ 4611686018427387904) (w : World) (hN : N ≤ w.heap.size) (hl : l.length ≤ 1073741824) (hv : Ow N w v l) :
    Calls Try.prog 88 #[v, .int .i64 (m : Int)] w fun e w' => ∃ v', e = .returned v' ∧ Ow N w' v' (l ++ numB m) ∧ w.grownBy w' v.ownBlock ∧ SameOrNew w v v' :=
  callsIn_wide.1 (appendInt_in 3 (by decide) N v l m hm w hN hl hv)

end Go.Proofs.Ytfnnbfgfmbiabab

