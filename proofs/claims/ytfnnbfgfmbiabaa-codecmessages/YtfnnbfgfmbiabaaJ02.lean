/-
  Bits; Seq; Put; Ahead.
-/
import Derived.WalkKit
import Derived.Laws.Bits64b
import Derived.Test.YtfnnbfgfmbiabaaJ01
import Derived.RangeFuncNested
import Derived.RangeFuncBound
import Derived.RangeFuncCalls
import Derived.RangeFuncLeaves
import Derived.RangeFuncBox
import Derived.Shelf.Abstract
import Derived.Shelf.RegionOpen
import Derived.OwnWalkIn
import Derived.TacticsInMore
import Derived.LoopNIn
import Derived.LoopIn
import Derived.Maps.AppendAt
import Derived.Maps.OwnIn
/-
  Bits: the byte with 80 (hex) added, the byte without it, seven bits laid above what was there.
-/
namespace Go.Proofs.Ytfnnbfgfmbiabaa

theorem or128 (q : Nat) : bits BinOp.or IntKind.u8 ((q : Int) % 256) 128 = (q : Int) % 128 + 128 := by
  have h : ∀ x : Fin 256, bits BinOp.or IntKind.u8 (x.val : Int) 128 = (x.val : Int) % 128 + 128 := by decide +kernel
  have := h ⟨q % 256, by omega⟩
  rw [show ((q : Int) % 256) = ((q % 256 : Nat) : Int) by omega, this]
  simp only
  omega

theorem clear128 (x : UInt8) : bits BinOp.andNot IntKind.u8 (x.toNat : Int) 128 = ((x.toNat % 128 : Nat) : Int) := by
  have h : ∀ x : Fin 256, bits BinOp.andNot IntKind.u8 (x.val : Int) 128 = ((x.val % 128 : Nat) : Int) := by decide +kernel
  exact h ⟨x.toNat, x.toNat_lt⟩

theorem bits_or_i64_nat (a b : Nat) (ha : a < 9223372036854775808) (hb : b < 9223372036854775808) :
    bits .or .i64 (a : Int) (b : Int) = ((a ||| b : Nat) : Int) := by
  have hab : a ||| b < 2 ^ 63 := Nat.or_lt_two_pow (by omega) (by omega)
  have e : (BitVec.ofInt 64 (a : Int) ||| BitVec.ofInt 64 (b : Int)).toNat = a ||| b := by
    rw [BitVec.toNat_or]
    simp only [BitVec.toNat_ofInt]
    rw [show ((a : Int) % ((2 ^ 64 : Nat) : Int)).toNat = a by omega, show ((b : Int) % ((2 ^ 64 : Nat) : Int)).toNat = b by omega]
  show IntKind.i64.wrap ((BitVec.ofInt 64 (a : Int) ||| BitVec.ofInt 64 (b : Int)).toNat : Int) = _
  rw [e, IntKind.wrap_i64]
  omega

/-- 'n | c << (7 * k)', n below 2^(7 k). -/
theorem lay_above (n c k : Nat) (hk : k ≤ 8) (hn : n < 128 ^ k) (hc : c < 128) :
    bits .or .i64 (n : Int) (((c * 128 ^ k : Nat)) : Int) = ((n + 128 ^ k * c : Nat) : Int) := by
  have h3 : (128 : Nat) ^ k ≤ 128 ^ 8 := Nat.pow_le_pow_right (by decide) hk
  have h4 : (128 : Nat) ^ 8 = 72057594037927936 := by decide
  have h5 : c * 128 ^ k ≤ 127 * 72057594037927936 := Nat.mul_le_mul (by omega) (by omega)
  rw [bits_or_i64_nat _ _ (by omega) (by omega)]
  have e : (128 : Nat) ^ k = 2 ^ (7 * k) := by rw [Nat.pow_mul]
  rw [Nat.or_comm, Nat.mul_comm c, e, ← Nat.two_pow_add_eq_or_of_lt (by rw [← e]; exact hn), Nat.add_comm]
end Go.Proofs.Ytfnnbfgfmbiabaa

/-
  The two iterators: bytesOf yields the bytes of a number, bytesAhead the bytes that a number may have; whoever goes over them may stop at any.
-/
namespace Go.Proofs.Ytfnnbfgfmbiabaa
open Go.RowKit Go.Shelf
attribute [local go_sem] Oper.semAt_some

set_option maxRecDepth 100000 in
set_option maxHeartbeats 1000000 in
theorem bytesOf1_in (n : Nat) (hn : 1 ≤ n) (l Bn n₀ m : Nat) (hm : m ≤ 4611686018427387904) (J Jx : List UInt8 → World → Prop)
    (hY : ∀ pre x W, J pre W → pre.length < (numB m).length → YieldAt Fence.wide (n - 1) Try.prog l #[encB x] W fun e W' =>
      (e = .returned (.bool true) ∧ J (pre ++ [x]) W' ∧ Below n₀ W W') ∨ (e = .returned (.bool false) ∧ Jx (pre ++ [x]) W'))
    (W : World) (hBn : W.cell? ⟨Bn, 0, none⟩ = some (.int .i64 (m : Int))) (h0 : J [] W) :
    CallsIn Fence.wide n Try.prog 126 #[.func (.yield l) #[] #[], .pointer (some ⟨Bn, 0, none⟩)] W fun e W' => (∃ v, e = .returned v) ∧
      ((∃ ys, ys = numB m ∧ J ys W') ∨ (∃ pre, pre <+: numB m ∧ Jx pre W')) := by
  refine callsIn_of_wp Try.func126 rfl trivial ?_ rfl
  simp only [Try.ntmps126, List.size_toArray, List.length_cons, List.length_nil, Nat.reduceAdd, Nat.reduceSub, Array.replicate_succ, Array.replicate_zero, List.push_toArray, List.append_toArray, List.nil_append, List.cons_append]
  gi_wp2
  gi_loopw [3] (fun p wr => ∃ (f q : Nat) (pre : List UInt8), p = .int .i64 (q : Int) ∧ q < 128 ^ (f + 1) ∧ q ≤ 4611686018427387904 ∧ pre ++ num f q = numB m ∧ J pre wr)
    (fun p _ => (intOf p).toNat)
  case atStart =>
    exact ⟨9, m, [], rfl, by have : (128:Nat)^10 = 1180591620717411303424 := by decide
                             omega, hm, rfl, h0⟩
  case round =>
    obtain ⟨f, q, pre, rfl, hq, hq2, hx, hJs⟩ := hrel
    have HQ : Hid (q < 128 ^ (f + 1)) := hq
    have HX : Hid (pre ++ num f q = numB m) := hx
    clear hq hx
    by_cases hlt : 128 ≤ q
    · have hlen : pre.length < (numB m).length := by rw [← HX.out]; have := num_len_pos f q; simp; omega
      obtain ⟨fn, tmps, assign, body, hy, hR⟩ := hY pre (UInt8.ofNat (q % 128 + 128)) wr hJs hlen
      clear hlen
      rw [show encB (UInt8.ofNat (q % 128 + 128)) = .int .u8 ((q : Int) % 128 + 128) by rw [← u8_hi]; simp] at hy
      have hor := or128 q
      gi_wp2
      refine hR.mono ?_
      rintro e W3 (⟨rfl, hJ3, hk3⟩ | ⟨rfl, hJx3⟩)
      · clear hor hy hR
        gi_wp2
        go_roundw
        case rel =>
          cases f with
          | zero => have := HQ.out; simp at this; omega
          | succ f =>
            refine ⟨f, q / 128, _, ?_, ?_, by omega, ?_, hJ3⟩
            · go_num
            · have := HQ.out; rw [Nat.pow_succ] at this; omega
            · have := HX.out; rw [num_ge hlt] at this; simpa using this
        case measure => simp [intOf]; omega
      · clear hor hy hR
        gi_wp2
        refine bodyPost_ret (results_none rfl _ _ _) rfl ?_
        refine ⟨⟨_, rfl⟩, .inr ⟨_, ?_, hJx3⟩⟩
        cases f with
        | zero => have := HQ.out; simp at this; omega
        | succ f => have := HX.out; rw [num_ge hlt] at this; exact ⟨num f (q / 128), by simpa using this⟩
    · have hlen : pre.length < (numB m).length := by rw [← HX.out]; have := num_len_pos f q; simp; omega
      obtain ⟨fn, tmps, assign, body, hy, hR⟩ := hY pre (UInt8.ofNat q) wr hJs hlen
      clear hlen
      rw [← u8_lo q (by omega)] at hy
      have HE : Hid (pre ++ [UInt8.ofNat q] = numB m) := by have := HX.out; rw [num_lt (by omega)] at this; exact this
      gi_wp2
      refine hR.mono ?_
      rintro e W3 (⟨rfl, hJ3, hk3⟩ | ⟨rfl, hJx3⟩)
      · clear hy hR
        gi_wp2
        go_end0
        exact ⟨⟨_, rfl⟩, .inl ⟨_, HE.out, hJ3⟩⟩
      · clear hy hR
        gi_wp2
        go_end0
        exact ⟨⟨_, rfl⟩, .inr ⟨_, by rw [HE.out]; exact List.prefix_refl _, hJx3⟩⟩

set_option maxHeartbeats 1000000 in
theorem bytesOf_in (n : Nat) (m : Int) (w : World) :
    CallsIn Fence.wide n Try.prog 120 #[.int .i64 m] w fun e w' => e = .returned (.func (.func 126) #[] #[.pointer (some ⟨w.heap.size, 0, none⟩)]) ∧ w' = w.alloc (.cells #[.int .i64 m] 3) := by
  refine callsIn_of_wp Try.func120 rfl trivial ?_ rfl
  simp only [Try.ntmps120, List.size_toArray, List.length_cons, List.length_nil, Nat.reduceAdd, Nat.reduceSub, Array.replicate_succ, Array.replicate_zero, List.push_toArray, List.append_toArray, List.nil_append, List.cons_append]
  gi_wp2
  go_ret
  exact ⟨rfl, rfl⟩

theorem bytesOf_stops (n : Nat) (hn : 1 ≤ n) (Bn n₀ m : Nat) (hm : m ≤ 4611686018427387904) (w : World) (hBn : Bn < w.heap.size)
    (hc : w.cell? ⟨Bn, 0, none⟩ = some (.int .i64 (m : Int))) :
    SeqStopsK Fence.wide n Try.prog 126 #[.pointer (some ⟨Bn, 0, none⟩)] (fun x : UInt8 => #[encB x]) (Below n₀) (fun ys => ys = numB m) (fun pre => pre <+: numB m) (numB m).length w := fun l J Jx W hW _ _ hY h0 =>
  bytesOf1_in n hn l Bn n₀ m hm J Jx hY W ((hW.cell (p := ⟨Bn, 0, none⟩) hBn).trans hc) h0
end Go.Proofs.Ytfnnbfgfmbiabaa

/-
  wire.Size, wire.PutInt: for every int what the document says.
-/
namespace Go.Proofs.Ytfnnbfgfmbiabaa
open Go.RowKit Go.Shelf
attribute [local go_sem] Oper.semAt_some

/-- The block of a slice stayed its own, or is new. -/
def SameOrNew (w : World) (v v' : Value) : Prop := v'.ownBlock = v.ownBlock ∨ ∃ k, v'.ownBlock = some k ∧ w.heap.size ≤ k

theorem Ow.shape {N : Nat} {w : World} {v : Value} {l : List UInt8} (h : Ow N w v l) : ∃ a cap, v = .slice a l.length cap ∧ l.length ≤ cap ∧ cap ≤ maxLen := by
  rcases h.2 with ⟨rfl, h2⟩ | ⟨g, cap, cur, rfl, _, _, h3, h4, _⟩
  · exact ⟨none, 0, by rw [h2], by omega, by unfold maxLen; omega⟩
  · exact ⟨_, _, rfl, h3, h4⟩

theorem ownFrom_grown {β : Type} {w₀ : World} {row : Option Nat} {B : Nat} (hB : w₀.heap.size ≤ B) : OwnFrom B (fun (_ : β) W => w₀.grownBy W row) :=
  fun _ W W' r hs hg hr => ⟨hg.os.trans hs.os, hg.tape.trans hs.tape, hg.output.trans hs.output, Nat.le_trans hs.size hg.size, fun k hk hne =>
    (hg.block k (Nat.lt_of_lt_of_le hk hs.size) (fun e => by have := (hr k e.symm).1; omega)).trans (hs.block k hk hne)⟩

theorem grown_trans {w W W' : World} {row r : Option Nat} (h : w.grownBy W row) (hg : W.grownBy W' r) (hr : ∀ k, r = some k → row = some k ∨ w.heap.size ≤ k) : w.grownBy W' row :=
  ⟨hg.os.trans h.os, hg.tape.trans h.tape, hg.output.trans h.output, Nat.le_trans h.size hg.size, fun k hk hne =>
    (hg.block k (Nat.lt_of_lt_of_le hk h.size) (fun e => by
      rcases hr k e.symm with h' | h'
      · exact hne h'.symm
      · omega)).trans (h.block k hk hne)⟩

theorem grown_refl (w : World) (row : Option Nat) : w.grownBy w row := ⟨rfl, rfl, rfl, Nat.le_refl _, fun _ _ _ => rfl⟩

theorem SameOrNew.row {w : World} {v v' : Value} (h : SameOrNew w v v') : ∀ k, v'.ownBlock = some k → v.ownBlock = some k ∨ w.heap.size ≤ k := by
  intro k hk
  rcases h with h | ⟨j, h1, h2⟩
  · exact .inl (h ▸ hk)
  · rw [h1] at hk; cases hk; exact .inr h2

theorem SameOrNew.step {w W : World} {v v1 v2 : Value} (h : SameOrNew w v v1) (hs : w.heap.size ≤ W.heap.size) (h2 : v2.ownBlock = v1.ownBlock ∨ v2.ownBlock = some W.heap.size) : SameOrNew w v v2 := by
  rcases h2 with h2 | h2
  · rcases h with h | ⟨k, h3, h4⟩
    · exact .inl (h2.trans h)
    · exact .inr ⟨k, h2.trans h3, h4⟩
  · exact .inr ⟨_, h2, hs⟩

set_option maxRecDepth 100000 in
set_option maxHeartbeats 2000000 in
theorem appendInt_in (n : Nat) (hn : 3 ≤ n) (N : Nat) (v : Value) (l : List UInt8) (m : Nat) (hm : m ≤ 4611686018427387904) (w : World) (hN : N ≤ w.heap.size) (hl : l.length ≤ 1073741824) (hv : Ow N w v l) :
    CallsIn Fence.wide n Try.prog 103 #[v, .int .i64 (m : Int)] w fun e w' => ∃ v', e = .returned v' ∧ Ow N w' v' (l ++ numB m) ∧ w.grownBy w' v.ownBlock ∧ SameOrNew w v v' := by
  have h1 : 1 ≤ n := by omega
  obtain ⟨i0, hi, hz0, hz1, hz2⟩ := info_parts info5
  obtain ⟨a0, cap0, rfl, -, -⟩ := hv.shape
  generalize hv0 : Value.slice a0 l.length cap0 = v0 at hv
  refine callsIn_of_wp_marks Try.func103 rfl trivial ?_ rfl
  rw [← hv0]
  have HV0 : Hid (Value.slice a0 l.length cap0 = v0) := hv0
  clear hv0
  simp only [Try.ntmps103, List.size_toArray, List.length_cons, List.length_nil, Nat.reduceAdd, Nat.reduceSub, Array.replicate_succ, Array.replicate_zero, List.push_toArray, List.append_toArray, List.nil_append, List.cons_append]
  gi_wp2_with (refine ⟨trivial, ?_⟩; gi_at_call 120; refine (bytesOf_in (n - 1) _ _).mono ?_; rintro e w' ⟨rfl, hw⟩; subst w')
  have bO := Boxed.new w 22 (.slice a0 l.length cap0)
  have bN := Boxed.new (w.alloc (.cells #[.slice a0 l.length cap0] 22)) 3 (.int .i64 (m : Int))
  rw [World.size_alloc] at bN
  have g0 : w.grownBy ((w.alloc (.cells #[.slice a0 l.length cap0] 22)).alloc (.cells #[.int .i64 (m : Int)] 3)) v0.ownBlock := grown_trans (grown_trans (grown_refl w _) (World.grownBy_alloc _ _ none) (by simp)) (World.grownBy_alloc _ _ none) (by simp)
  have hv' : World.ownsRow w N 5 1 (.slice a0 l.length cap0) l.length (l.map encB) := by rw [HV0.out]; exact hv
  refine wpIn_rangeFunc_ownG rfl h1 (gf := 126) (lb := #[.pointer (some ⟨w.heap.size + 1, 0, none⟩)]) rfl trivial (enters_of Try.func126 (by kernel_rfl) rfl)
    (bytesOf_stops (n - 1) (by omega) (w.heap.size + 1) N m hm _ (by simp) bN.cell) belowK_t (belowK_b (by simp; omega)) (Below.refl _ _) (fun _ => rfl)
    (fun pre W => (∃ v, Boxed W w.heap.size 22 v ∧ W.ownsRow N 5 1 v (l ++ pre).length ((l ++ pre).map encB) ∧ SameOrNew w v0 v) ∧ w.grownBy W v0.ownBlock)
    (fun _ _ _ => False)
    (OwnFrom.and (Own.from (holdsRow_own N w.heap.size 22 5 1 (fun pre => (l ++ pre).length) (fun pre => (l ++ pre).map encB) (fun _ v => SameOrNew w v0 v)) _) (ownFrom_grown (by simp; omega)))
    (fun _ _ _ _ _ hs _ _ => hs)
    ⟨⟨_, bO.alloc _, by simpa using (hv'.alloc _).alloc _, .inl (by rw [HV0.out])⟩, g0⟩
    (fun x => { tmps := #[.slice a0 l.length cap0, .int .i64 (m : Int), .pointer (some ⟨w.heap.size, 0, none⟩), undef, .slice none 0 0, encB x, .int .i64 (m : Int), .func (.func 126) #[] #[.pointer (some ⟨w.heap.size + 1, 0, none⟩)], encB x, undef, undef, undef, undef, undef], defers := [] }) ?assign ?body ?done ?stop
  case assign =>
    intro l x W K hK
    unfold encB at hK ⊢
    gi_wp2
    exact hK
  case body =>
    rintro l' pre x W ⟨⟨v, hv, hrow, hsn⟩, hg⟩ hlt
    have hc := hv.cell
    have hlen : (numB m).length ≤ 10 := num_len_le 9 m
    have hp : pre.length ≤ 10 := by omega
    have hll : (l ++ pre).length ≤ 1073741834 := by simp; omega
    have hsz : N ≤ W.heap.size := Nat.le_trans hN hg.size
    clear hlt hlen
    generalize hlp : l ++ pre = lp at hrow hll
    have HLP : Hid (l ++ pre = lp) := hlp
    clear hlp
    unfold encB
    gi_wp2_with (gi_at_builtin; refine wpListIn_append_own_at _ rfl _ _ 22 rfl N 5 i0 (.int .u8 0) 1 1 Try.underlying22 hi hz0 hz1 hz2 rfl (by decide) _ _ _ rfl (hrow.alloc _) ⟨W.heap.size, 0, none⟩ 1 1 [.int .u8 (x.toNat : Int)] rfl rfl (cell_one_new _ _ _) (by simp [Value.oneCell']) (by unfold maxLen; omega) (by omega) (by simp; omega) ?_; intro v' w1 hown' hgrow _ hnew; obtain ⟨g', cap', rfl⟩ := ownsRow_succ hown'; obtain ⟨hv1, hv2, hr2, hk2, hb2⟩ := hv.appended (by decide) hrow hsz hN hown' hgrow; have hc1 := hv1.cell; have hf1 := hv1.frozen)
    refine ⟨hk2.from _, hb2, ⟨_, hv2, ?_, ?_⟩, ?_⟩
    · have := HLP.out
      rw [← List.append_assoc, this, List.map_append, List.length_append]
      exact hr2
    · exact hsn.step (W := W.alloc (.cells #[.int .u8 (x.toNat : Int)] 5)) (by have := hg.size; simp; omega) hnew
    · exact grown_trans (grown_trans (grown_trans hg (World.grownBy_alloc _ _ none) (by simp)) hgrow hsn.row) (grownBy_setCell' _ _ _) (fun k e => .inr (by cases e; exact Nat.le_refl _))
  case done =>
    rintro D ys W hD rfl ⟨⟨v, hv, hrow, hsn⟩, hg⟩ hK
    have hc := hv.cell
    gi_wp2
    refine ⟨by simp, .inl ⟨_, _, rfl, run_takeDeferred hK, ?_⟩⟩
    exact ⟨_, results_tmp rfl _ _ _, v, rfl, ownsRow_putObj hrow _ hK rfl, by rw [HV0.out]; exact grown_trans hg (grownBy_putObj' _ _ _) (fun k e => .inr (by cases e; simp at hD; omega)), by rw [HV0.out]; exact hsn⟩
  case stop =>
    rintro D c pre W _ _ h _
    exact h.elim

theorem appendInt_any (N : Nat) (v : Value) (l : List UInt8) (m : Nat) (hm : m ≤ 4611686018427387904) (w : World) (hN : N ≤ w.heap.size) (hl : l.length ≤ 1073741824) (hv : Ow N w v l) :
    Calls Try.prog 103 #[v, .int .i64 (m : Int)] w fun e w' => ∃ v', e = .returned v' ∧ Ow N w' v' (l ++ numB m) ∧ w.grownBy w' v.ownBlock ∧ SameOrNew w v v' :=
  callsIn_wide.1 (appendInt_in 3 (by decide) N v l m hm w hN hl hv)

end Go.Proofs.Ytfnnbfgfmbiabaa

/-
  The iterator bytesAhead: it yields the bytes that a number may have, up to the one that ends it.
-/
namespace Go.Proofs.Ytfnnbfgfmbiabaa
open Go.RowKit Go.Shelf
attribute [local go_sem] Oper.semAt_some

theorem ahead_stop (l : List UInt8) (k : Nat) (hk : k < 9) (h : k < l.length) (h3 : ∀ j, j < k → 128 ≤ (byteAt l j).toNat) (h4 : (byteAt l k).toNat < 128) : ahead 9 l = l.take k ++ [byteAt l k] := by
  have := (ahead_end l 0 k hk (by omega) (fun j hj => by simpa using h3 j hj) (by simpa using h4)).1
  simp only [List.drop_zero] at this
  rw [this, take_snocB _ _ h]

theorem ahead_all (l : List UInt8) (k : Nat) (hk : k = min l.length 9) (h3 : ∀ j, j < k → 128 ≤ (byteAt l j).toNat) : ahead 9 l = l.take k := by
  rw [ahead_go k 9 l (by omega) (by omega) h3]
  by_cases h9 : k = 9
  · subst h9; simp [ahead]
  · have : l.drop k = [] := List.drop_eq_nil_of_le (by omega)
    rw [this]
    cases 9 - k <;> simp [ahead]

theorem take_prefix_ahead (l : List UInt8) (k : Nat) (hk : k < 9) (h : k < l.length) (h3 : ∀ j, j < k → 128 ≤ (byteAt l j).toNat) : l.take k ++ [byteAt l k] <+: ahead 9 l := by
  by_cases h4 : (byteAt l k).toNat < 128
  · rw [ahead_stop l k hk h h3 h4]; exact List.prefix_refl _
  · rw [ahead_go (k + 1) 9 l (by omega) (by omega) (fun j hj => by
      by_cases e : j = k
      · subst e; omega
      · exact h3 j (by omega)), take_snocB _ _ h]
    exact List.prefix_append _ _

theorem ahead_len_gt (l : List UInt8) (k : Nat) (hk : k < 9) (h : k < l.length) (h3 : ∀ j, j < k → 128 ≤ (byteAt l j).toNat) : k < (ahead 9 l).length := by
  have := (take_prefix_ahead l k hk h h3).length_le
  simp at this; omega

/-- Bytes from an address on. -/
def CellsAt (W : World) (b off : Nat) (l : List UInt8) : Prop := ∀ i, i < l.length → W.cell? ⟨b, off + i, none⟩ = some (.int .u8 ((byteAt l i).toNat : Int))

theorem CellsAt.below {n₀ : Nat} {W W' : World} {b off : Nat} {l : List UInt8} (h : CellsAt W b off l) (hb : b < n₀) (hB : Below n₀ W W') : CellsAt W' b off l :=
  fun i hi => (hB.cell (p := ⟨b, off + i, none⟩) hb).trans (h i hi)

set_option maxRecDepth 100000 in
set_option maxHeartbeats 2000000 in
theorem ahead1_in (n : Nat) (hn : 1 ≤ n) (l' Bn n₀ b off cap : Nat) (l : List UInt8) (hl0 : 0 < l.length) (hlc : l.length ≤ cap) (hcm : cap ≤ maxLen) (hb : b < n₀) (J Jx : List UInt8 → World → Prop)
    (hY : ∀ pre x W, J pre W → pre.length < (ahead 9 l).length → YieldAt Fence.wide (n - 1) Try.prog l' #[encB x] W fun e W' =>
      (e = .returned (.bool true) ∧ J (pre ++ [x]) W' ∧ Below n₀ W W') ∨ (e = .returned (.bool false) ∧ Jx (pre ++ [x]) W'))
    (W : World) (hBn : W.cell? ⟨Bn, 0, none⟩ = some (.slice (some ⟨b, off, none⟩) l.length cap)) (hc : CellsAt W b off l) (h0 : J [] W) :
    CallsIn Fence.wide n Try.prog 128 #[.func (.yield l') #[] #[], .pointer (some ⟨Bn, 0, none⟩)] W fun e W' => (∃ v, e = .returned v) ∧
      ((∃ ys, ys = ahead 9 l ∧ J ys W') ∨ (∃ pre, pre <+: ahead 9 l ∧ Jx pre W')) := by
  unfold maxLen at hcm
  have HC : Hid (CellsAt W b off l) := hc
  clear hc
  have hsp : l.length ≤ 9 ∨ 9 < l.length := by omega
  refine callsIn_of_wp Try.func128 rfl trivial ?_ rfl
  simp only [Try.ntmps128, List.size_toArray, List.length_cons, List.length_nil, Nat.reduceAdd, Nat.reduceSub, Array.replicate_succ, Array.replicate_zero, List.push_toArray, List.append_toArray, List.nil_append, List.cons_append]
  rcases hsp with hsp | hsp
  all_goals
    gi_wp2
    gi_loopw [11] (fun p wr => ∃ k : Nat, p = .int .i64 (k : Int) ∧ k ≤ 9 ∧ k ≤ l.length ∧ (∀ j, j < k → 128 ≤ (byteAt l j).toNat) ∧ CellsAt wr b off l ∧ J (l.take k) wr)
      (fun p _ => 9 - (intOf p).toNat)
    case atStart => exact ⟨0, rfl, by omega, by omega, fun j hj => by omega, HC.out, h0⟩
    case round =>
      obtain ⟨k, rfl, hk9, hkl, hj, hcw, hJs⟩ := hrel
      have HJ : Hid (∀ j, j < k → 128 ≤ (byteAt l j).toNat) := hj
      have HCW : Hid (CellsAt wr b off l) := hcw
      clear hj hcw
      by_cases hlt : k < l.length ∧ k < 9
      · obtain ⟨hlt1, hlt2⟩ := hlt
        have hcl := HCW.out k hlt1
        have hlen := ahead_len_gt l k hlt2 hlt1 HJ.out
        obtain ⟨fn, tmps, assign, body, hy, hR⟩ := hY (l.take k) (byteAt l k) wr hJs (by simp; omega)
        have HP : Hid (l.take k ++ [byteAt l k] <+: ahead 9 l) := take_prefix_ahead l k hlt2 hlt1 HJ.out
        have HT : Hid (l.take (k + 1) = l.take k ++ [byteAt l k]) := take_snocB l k hlt1
        have HS : Hid ((byteAt l k).toNat < 128 → ahead 9 l = l.take k ++ [byteAt l k]) := ahead_stop l k hlt2 hlt1 HJ.out
        have HS2 : Hid (¬ (byteAt l k).toNat < 128 → ∀ j, j < k + 1 → 128 ≤ (byteAt l j).toNat) := by
          intro h j hj
          by_cases e : j = k
          · subst e; omega
          · exact HJ.out j (by omega)
        clear hlen
        generalize byteAt l k = x at hcl hy hR HP HT HS HS2
        unfold encB at hy
        by_cases hx : (x.toNat : Int) < 128
        · gi_wp2
          refine hR.mono ?_
          rintro e W3 (⟨rfl, hJ3, hk3⟩ | ⟨rfl, hJx3⟩)
          · clear hy hR
            gi_wp2
            refine bodyPost_ret (results_none rfl _ _ _) rfl ?_
            exact ⟨⟨_, rfl⟩, .inl ⟨_, (HS.out (by omega)).symm, hJ3⟩⟩
          · clear hy hR
            gi_wp2
            refine bodyPost_ret (results_none rfl _ _ _) rfl ?_
            exact ⟨⟨_, rfl⟩, .inr ⟨_, HP.out, hJx3⟩⟩
        · gi_wp2
          refine hR.mono ?_
          rintro e W3 (⟨rfl, hJ3, hk3⟩ | ⟨rfl, hJx3⟩)
          · clear hy hR
            gi_wp2
            go_roundw
            case rel => exact ⟨k + 1, by go_num, by omega, by omega, HS2.out (by omega), HCW.out.below hb hk3, by rw [HT.out]; exact hJ3⟩
            case measure => simp [intOf]; omega
          · clear hy hR
            gi_wp2
            refine bodyPost_ret (results_none rfl _ _ _) rfl ?_
            exact ⟨⟨_, rfl⟩, .inr ⟨_, HP.out, hJx3⟩⟩
      · gi_wp2
        go_end0
        exact ⟨⟨_, rfl⟩, .inl ⟨_, (ahead_all l k (by omega) HJ.out).symm, hJs⟩⟩

set_option maxHeartbeats 1000000 in
theorem bytesAhead_in (n : Nat) (a : Option Addr) (len cap : Nat) (w : World) :
    CallsIn Fence.wide n Try.prog 127 #[.slice a len cap] w fun e w' => e = .returned (.func (.func 128) #[] #[.pointer (some ⟨w.heap.size, 0, none⟩)]) ∧ w' = w.alloc (.cells #[.slice a len cap] 22) := by
  refine callsIn_of_wp Try.func127 rfl trivial ?_ rfl
  simp only [Try.ntmps127, List.size_toArray, List.length_cons, List.length_nil, Nat.reduceAdd, Nat.reduceSub, Array.replicate_succ, Array.replicate_zero, List.push_toArray, List.append_toArray, List.nil_append, List.cons_append]
  gi_wp2
  go_ret
  exact ⟨rfl, rfl⟩

theorem bytesAhead_stops (n : Nat) (hn : 1 ≤ n) (Bn n₀ b off cap : Nat) (l : List UInt8) (hl0 : 0 < l.length) (hlc : l.length ≤ cap) (hcm : cap ≤ maxLen) (hb : b < n₀) (w : World) (hBn : Bn < w.heap.size) (hn₀ : n₀ ≤ w.heap.size)
    (hc : w.cell? ⟨Bn, 0, none⟩ = some (.slice (some ⟨b, off, none⟩) l.length cap)) (hcl : CellsAt w b off l) :
    SeqStopsK Fence.wide n Try.prog 128 #[.pointer (some ⟨Bn, 0, none⟩)] (fun x : UInt8 => #[encB x]) (Below n₀) (fun ys => ys = ahead 9 l) (fun pre => pre <+: ahead 9 l) (ahead 9 l).length w := fun l' J Jx W hW _ _ hY h0 =>
  ahead1_in n hn l' Bn n₀ b off cap l hl0 hlc hcm hb J Jx hY W ((hW.cell (p := ⟨Bn, 0, none⟩) hBn).trans hc) (hcl.below hb (hW.mono hn₀)) h0
end Go.Proofs.Ytfnnbfgfmbiabaa

