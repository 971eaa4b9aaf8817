/-
  Ahead; Int; Mem.
-/
import Derived.Test.YtfnnbfgfmbiababJ02
import Derived.Test.YtfnnbfgfmbiababJ01
import Derived.Laws.AppendOwnNone
/-
  The iterator bytesAhead: it yields the bytes that a number may have, up to the one that ends it.
-/
namespace Go.Proofs.Ytfnnbfgfmbiabab
open Go.RowKit Go.Shelf
attribute [local go_sem] Oper.semAt_some

theorem ahead_stop (l : List UInt8) (k : Nat) (hk : k < 9) (h : k < l.length) (h3 : ∀ j, j < k → 128 ≤ (byteAt l j).toNat) (h4 : (byteAt l k).toNat < 128) : ahead 9 l = l.take k ++ [byteAt l k] := by
  have := (ahead_end l 0 k hk (by omega) (fun j hj => by simpa using h3 j hj) (by simpa using h4)).1
  simp only [List.drop_zero] at this
  rw [this, take_snocB _ _ h]

theorem ahead_all (l : List UInt8) (k : Nat) (hk : k = min l.length 9) (h3 : ∀ j, j < k → 128 ≤ (byteAt l j).toNat) : ahead 9 l = l.take k := by
  rw [ahead_go k 9 l (by omega) (by omega) h3]
  by_cases h9 : k = 9
  · subst h9; simp [ahead]
  · have : l.drop k = [] := List.drop_eq_nil_of_le (by omega)
    rw [this]
    cases 9 - k <;> simp [ahead]

theorem take_prefix_ahead (l : List UInt8) (k : Nat) (hk : k < 9) (h : k < l.length) (h3 : ∀ j, j < k → 128 ≤ (byteAt l j).toNat) : l.take k ++ [byteAt l k] <+: ahead 9 l := by
  by_cases h4 : (byteAt l k).toNat < 128
  · rw [ahead_stop l k hk h h3 h4]; exact List.prefix_refl _
  · rw [ahead_go (k + 1) 9 l (by omega) (by omega) (fun j hj => by
      by_cases e : j = k
      · subst e; omega
      · exact h3 j (by omega)), take_snocB _ _ h]
    exact List.prefix_append _ _

theorem ahead_len_gt (l : List UInt8) (k : Nat) (hk : k < 9) (h : k < l.length) (h3 : ∀ j, j < k → 128 ≤ (byteAt l j).toNat) : k < (ahead 9 l).length := by
  have := (take_prefix_ahead l k hk h h3).length_le
  simp at this; omega

/-- Bytes from an address on. -/
def CellsAt (W : World) (b off : Nat) (l : List UInt8) : Prop := ∀ i, i < l.length → W.cell? ⟨b, off + i, none⟩ = some (.int .u8 ((byteAt l i).toNat : Int))

theorem CellsAt.below {n₀ : Nat} {W W' : World} {b off : Nat} {l : List UInt8} (h : CellsAt W b off l) (hb : b < n₀) (hB : Below n₀ W W') : CellsAt W' b off l :=
  fun i hi => (hB.cell (p := ⟨b, off + i, none⟩) hb).trans (h i hi)

set_option maxRecDepth 100000 in
set_option maxHeartbeats 2000000 in
theorem ahead1_in (n : Nat) (hn : 1 ≤ n) (l' Bn n₀ b off cap : Nat) (l : List UInt8) (hl0 : 0 < l.length) (hlc : l.length ≤ cap) (hcm : cap ≤ maxLen) (hb : b < n₀) (J Jx : List UInt8 → World → Prop)
    (hY : ∀ pre x W, J pre W → pre.length < (ahead 9 l).length → YieldAt Fence.wide (n - 1) Try.prog l' #[encB x] W fun e W' =>
      (e = .returned (.bool true) ∧ J (pre ++ [x]) W' ∧ Below n₀ W W') ∨ (e = .returned (.bool false) ∧ Jx (pre ++ [x]) W'))
    (W : World) (hBn : W.cell? ⟨Bn, 0, none⟩ = some (.slice (some ⟨b, off, none⟩) l.length cap)) (hc : CellsAt W b off l) (h0 : J [] W) :
    CallsIn Fence.wide n Try.prog 111 #[.func (.yield l') #[] #[], .pointer (some ⟨Bn, 0, none⟩)] W fun e W' => (∃ v, e = .returned v) ∧
      ((∃ ys, ys = ahead 9 l ∧ J ys W') ∨ (∃ pre, pre <+: ahead 9 l ∧ Jx pre W')) := by
  unfold maxLen at hcm
  have HC : Hid (CellsAt W b off l) := hc
  clear hc
  have hsp : l.length ≤ 9 ∨ 9 < l.length := by omega
  refine callsIn_of_wp Try.func111 rfl trivial ?_ rfl
  simp only [Try.ntmps111, List.size_toArray, List.length_cons, List.length_nil, Nat.reduceAdd, Nat.reduceSub, Array.replicate_succ, Array.replicate_zero, List.push_toArray, List.append_toArray, List.nil_append, List.cons_append]
  rcases hsp with hsp | hsp
  all_goals
    gi_wp2
    gi_loopw [11] (fun p wr => ∃ k : Nat, p = .int .i64 (k : Int) ∧ k ≤ 9 ∧ k ≤ l.length ∧ (∀ j, j < k → 128 ≤ (byteAt l j).toNat) ∧ CellsAt wr b off l ∧ J (l.take k) wr)
      (fun p _ => 9 - (intOf p).toNat)
    case atStart => exact ⟨0, rfl, by omega, by omega, fun j hj => by omega, HC.out, h0⟩
    case round =>
      obtain ⟨k, rfl, hk9, hkl, hj, hcw, hJs⟩ := hrel
      have HJ : Hid (∀ j, j < k → 128 ≤ (byteAt l j).toNat) := hj
      have HCW : Hid (CellsAt wr b off l) := hcw
      clear hj hcw
      by_cases hlt : k < l.length ∧ k < 9
      · obtain ⟨hlt1, hlt2⟩ := hlt
        have hcl := HCW.out k hlt1
        have hlen := ahead_len_gt l k hlt2 hlt1 HJ.out
        obtain ⟨fn, tmps, assign, body, hy, hR⟩ := hY (l.take k) (byteAt l k) wr hJs (by simp; omega)
        have HP : Hid (l.take k ++ [byteAt l k] <+: ahead 9 l) := take_prefix_ahead l k hlt2 hlt1 HJ.out
        have HT : Hid (l.take (k + 1) = l.take k ++ [byteAt l k]) := take_snocB l k hlt1
        have HS : Hid ((byteAt l k).toNat < 128 → ahead 9 l = l.take k ++ [byteAt l k]) := ahead_stop l k hlt2 hlt1 HJ.out
        have HS2 : Hid (¬ (byteAt l k).toNat < 128 → ∀ j, j < k + 1 → 128 ≤ (byteAt l j).toNat) := by
          intro h j hj
          by_cases e : j = k
          · subst e; omega
          · exact HJ.out j (by omega)
        clear hlen
        generalize byteAt l k = x at hcl hy hR HP HT HS HS2
        unfold encB at hy
        by_cases hx : (x.toNat : Int) < 128
        · gi_wp2
          refine hR.mono ?_
          rintro e W3 (⟨rfl, hJ3, hk3⟩ | ⟨rfl, hJx3⟩)
          · clear hy hR
            gi_wp2
            refine bodyPost_ret (results_none rfl _ _ _) rfl ?_
            exact ⟨⟨_, rfl⟩, .inl ⟨_, (HS.out (by omega)).symm, hJ3⟩⟩
          · clear hy hR
            gi_wp2
            refine bodyPost_ret (results_none rfl _ _ _) rfl ?_
            exact ⟨⟨_, rfl⟩, .inr ⟨_, HP.out, hJx3⟩⟩
        · gi_wp2
          refine hR.mono ?_
          rintro e W3 (⟨rfl, hJ3, hk3⟩ | ⟨rfl, hJx3⟩)
          · clear hy hR
            gi_wp2
            go_roundw
            case rel => exact ⟨k + 1, by go_num, by omega, by omega, HS2.out (by omega), HCW.out.below hb hk3, by rw [HT.out]; exact hJ3⟩
            case measure => simp [intOf]; omega
          · clear hy hR
            gi_wp2
            refine bodyPost_ret (results_none rfl _ _ _) rfl ?_
            exact ⟨⟨_, rfl⟩, .inr ⟨_, HP.out, hJx3⟩⟩
      · gi_wp2
        go_end0
        exact ⟨⟨_, rfl⟩, .inl ⟨_, (ahead_all l k (by omega) HJ.out).symm, hJs⟩⟩

set_option maxHeartbeats 1000000 in
theorem bytesAhead_in (n : Nat) (a : Option Addr) (len cap : Nat) (w : World) :
    CallsIn Fence.wide n Try.prog 109 #[.slice a len cap] w fun e w' => e = .returned (.func (.func 111) #[] #[.pointer (some ⟨w.heap.size, 0, none⟩)]) ∧ w' = w.alloc (.cells #[.slice a len cap] 23) := by
  refine callsIn_of_wp Try.func109 rfl trivial ?_ rfl
  simp only [Try.ntmps109, List.size_toArray, List.length_cons, List.length_nil, Nat.reduceAdd, Nat.reduceSub, Array.replicate_succ, Array.replicate_zero, List.push_toArray, List.append_toArray, List.nil_append, List.cons_append]
  gi_wp2
  go_ret
  exact ⟨rfl, rfl⟩

theorem bytesAhead_stops (n : Nat) (hn : 1 ≤ n) (Bn n₀ b off cap : Nat) (l : List UInt8) (hl0 : 0 < l.length) (hlc : l.length ≤ cap) (hcm : cap ≤ maxLen) (hb : b < n₀) (w : World) (hBn : Bn < w.heap.size) (hn₀ : n₀ ≤ w.heap.size)
    (hc : w.cell? ⟨Bn, 0, none⟩ = some (.slice (some ⟨b, off, none⟩) l.length cap)) (hcl : CellsAt w b off l) :
    SeqStopsK Fence.wide n Try.prog 111 #[.pointer (some ⟨Bn, 0, none⟩)] (fun x : UInt8 => #[encB x]) (Below n₀) (fun ys => ys = ahead 9 l) (fun pre => pre <+: ahead 9 l) (ahead 9 l).length w := fun l' J Jx W hW _ _ hY h0 =>
  ahead1_in n hn l' Bn n₀ b off cap l hl0 hlc hcm hb J Jx hY W ((hW.cell (p := ⟨Bn, 0, none⟩) hBn).trans hc) (hcl.below hb (hW.mono hn₀)) h0
end Go.Proofs.Ytfnnbfgfmbiabab

/-
  wire.Int: at any place of any bytes what the document says.
-/
namespace Go.Proofs.Ytfnnbfgfmbiabab
open Go.RowKit Go.Shelf
attribute [local go_sem] Oper.semAt_some

/-- Seven bits, moved up. -/
def sh7 (c k : Nat) : Nat := c * 128 ^ k

theorem sh7_run (x : UInt8) (k : Nat) (hk : k ≤ 8) :
    Op.shift BinOp.shl IntKind.i64 (IntKind.i64.wrap ((x.toNat : Int) % 128)) IntKind.i64 (IntKind.i64.wrap (7 * (k : Int))) = pure (.int .i64 ((sh7 (x.toNat % 128) k : Nat) : Int)) := by
  have e1 : IntKind.i64.wrap ((x.toNat : Int) % 128) = (x.toNat : Int) % 128 := by rw [IntKind.wrap_i64]; omega
  have e2 : IntKind.i64.wrap (7 * (k : Int)) = 7 * (k : Int) := by rw [IntKind.wrap_i64]; omega
  rw [e1, e2, shift_shl_i64 _ _ _ (by omega) (by omega)]
  have h3 : (128 : Nat) ^ k ≤ 128 ^ 8 := Nat.pow_le_pow_right (by decide) hk
  have h4 : (128 : Nat) ^ 8 = 72057594037927936 := by decide
  have h5 : (x.toNat % 128) * 128 ^ k ≤ 127 * 72057594037927936 := Nat.mul_le_mul (by omega) (by omega)
  have e3 : (7 * (k : Int)).toNat = 7 * k := by omega
  have e4 : ((x.toNat : Int) % 128) * 2 ^ (7 * k) = ((sh7 (x.toNat % 128) k : Nat) : Int) := by
    unfold sh7
    have e5 : (128 : Nat) ^ k = 2 ^ (7 * k) := by rw [Nat.pow_mul]
    rw [e5]
    simp
  rw [e3, e4]
  have h6 : sh7 (x.toNat % 128) k ≤ 127 * 72057594037927936 := h5
  congr 2
  rw [IntKind.wrap_i64]; omega

theorem sh7_wrap (x : UInt8) (k : Nat) (hk : k ≤ 8) : IntKind.i64.wrap ((x.toNat : Int) % 128 * 2 ^ (7 * (k : Int)).toNat) = ((sh7 (x.toNat % 128) k : Nat) : Int) := by
  have h := sh7_run x k hk
  have e1 : IntKind.i64.wrap ((x.toNat : Int) % 128) = (x.toNat : Int) % 128 := by rw [IntKind.wrap_i64]; omega
  have e2 : IntKind.i64.wrap (7 * (k : Int)) = 7 * (k : Int) := by rw [IntKind.wrap_i64]; omega
  rw [e1, e2, shift_shl_i64 _ _ _ (by omega) (by omega)] at h
  have := congrArg (fun s => s.run Try.prog default) h
  simpa using this

theorem lastB_one (pre : List UInt8) (x : UInt8) : lastB (pre ++ [x]) = x.toNat := lastB_snoc pre x

/-- What one round leaves. -/
theorem int_round {W w : World} {pre : List UInt8} {x : UInt8} (B : Nat) (c0 : Boxed W w.heap.size 3 (.int .i64 (val pre : Int))) (c1 : Boxed W (w.heap.size + 1) 3 (.int .i64 (pre.length : Int))) (c2 : Boxed W (w.heap.size + 1 + 1) 5 (.int .u8 (lastB pre : Int))) (hB : Below w.heap.size w W)
    (W3 : World) (hW3 : W3 = ((((W.setCell ⟨w.heap.size, 0, none⟩ (.int .i64 (val (pre ++ [x]) : Int))).setCell ⟨w.heap.size + 1, 0, none⟩ (.int .i64 ((pre.length : Int) + 1))).setCell ⟨w.heap.size + 1 + 1, 0, none⟩ (.int .u8 (x.toNat : Int)))).drew) :
    KeepsFrom B W W3 ∧ Below w.heap.size W W3 ∧ Boxed W3 w.heap.size 3 (.int .i64 (val (pre ++ [x]) : Int)) ∧ Boxed W3 (w.heap.size + 1) 3 (.int .i64 ((pre ++ [x]).length : Int)) ∧ Boxed W3 (w.heap.size + 1 + 1) 5 (.int .u8 (lastB (pre ++ [x]) : Int)) ∧ Below w.heap.size w W3 := by
  subst hW3
  have hb : Below w.heap.size W ((((W.setCell ⟨w.heap.size, 0, none⟩ (.int .i64 (val (pre ++ [x]) : Int))).setCell ⟨w.heap.size + 1, 0, none⟩ (.int .i64 ((pre.length : Int) + 1))).setCell ⟨w.heap.size + 1 + 1, 0, none⟩ (.int .u8 (x.toNat : Int)))).drew :=
    ((((Below.refl _ W).setCell (p := ⟨w.heap.size, 0, none⟩) (Nat.le_refl _) _).setCell (p := ⟨w.heap.size + 1, 0, none⟩) (by simp) _).setCell (p := ⟨w.heap.size + 1 + 1, 0, none⟩) (by simp; omega) _).drew
  refine ⟨(((((KeepsOthers.setCell _ _ _).trans (KeepsOthers.setCell _ _ _)).trans (KeepsOthers.setCell _ _ _)).trans (KeepsOthers.drew _))).from _, hb, ?_, ?_, ?_, hB.trans hb⟩
  · exact ((c0.set _).other (by omega) _).other (by omega) _
  · have := (((c1.other (B' := w.heap.size) (by omega) (.int .i64 (val (pre ++ [x]) : Int))).set (.int .i64 ((pre.length : Int) + 1))).other (B' := w.heap.size + 1 + 1) (by omega) (.int .u8 (x.toNat : Int)))
    have e : (((pre ++ [x]).length : Nat) : Int) = (pre.length : Int) + 1 := by simp
    rw [e]; exact this
  · rw [lastB_one]
    exact ((c2.other (by omega) _).other (by omega) _).set _

theorem sh7_or (pre : List UInt8) (x : UInt8) (hk : pre.length ≤ 8) : bits .or .i64 (val pre : Int) ((sh7 (x.toNat % 128) pre.length : Nat) : Int) = (val (pre ++ [x]) : Int) := by
  have := lay_above (val pre) (x.toNat % 128) pre.length hk (val_lt pre) (by omega)
  unfold sh7
  rw [this, val_append]; simp [val]

set_option maxRecDepth 100000 in
set_option maxHeartbeats 2000000 in
theorem wInt_in (n : Nat) (hn : 3 ≤ n) (N : Nat) (v : Value) (l : List UInt8) (i : Int) (w : World) (hN : N ≤ w.heap.size) (hv : Sl N w v l) :
    CallsIn Fence.wide n Try.prog 106 #[v, .int .i64 i] w fun e w' => e = .returned (tup3 (intAt l i)) ∧ Below w.heap.size w w' := by
  have h1n : 1 ≤ n := by omega
  obtain ⟨a0, cap, rfl, hc, hm, g⟩ := hv
  by_cases h0 : i < 0
  · rw [intAt_off l i (.inl h0)]; unfold tup3
    refine callsIn_of_wp_marks Try.func106 rfl trivial ?_ rfl
    simp only [Try.ntmps106, List.size_toArray, List.length_cons, List.length_nil, Nat.reduceAdd, Nat.reduceSub, Array.replicate_succ, Array.replicate_zero, List.push_toArray, List.append_toArray, List.nil_append, List.cons_append]
    gi_wp2
    exact ⟨_, results_tmp3 rfl _ _ _, rfl, Below.refl _ _⟩
  · by_cases h1 : (l.length : Int) ≤ i
    · rw [intAt_off l i (.inr h1)]; unfold tup3
      have h0' : decide (i < 0) = false := by simpa using h0
      refine callsIn_of_wp_marks Try.func106 rfl trivial ?_ rfl
      simp only [Try.ntmps106, List.size_toArray, List.length_cons, List.length_nil, Nat.reduceAdd, Nat.reduceSub, Array.replicate_succ, Array.replicate_zero, List.push_toArray, List.append_toArray, List.nil_append, List.cons_append]
      gi_wp2
      exact ⟨_, results_tmp3 rfl _ _ _, rfl, Below.refl _ _⟩
    · obtain ⟨a, rfl⟩ := Int.eq_ofNat_of_zero_le (Int.not_lt.1 h0)
      have hal : a < l.length := by omega
      obtain ⟨b, off, rfl, hbN, hcell⟩ := Sl.cellAt g (by omega)
      have HC : Hid (CellsAt w b (off + a) (l.drop a)) := by
        intro i hi
        rw [Nat.add_assoc, byteAt_drop]
        exact hcell (a + i) (by simp at hi; omega)
      have hm' := hm
      unfold maxLen at hm
      clear g h1 h0 hcell
      have h0' : decide ((a : Int) < 0) = false := by simp
      have h1' : decide ((l.length : Int) ≤ (a : Int)) = false := by simp; omega
      refine callsIn_of_wp_marks Try.func106 rfl trivial ?_ rfl
      simp only [Try.ntmps106, List.size_toArray, List.length_cons, List.length_nil, Nat.reduceAdd, Nat.reduceSub, Array.replicate_succ, Array.replicate_zero, List.push_toArray, List.append_toArray, List.nil_append, List.cons_append]
      gi_wp2_with (refine ⟨trivial, ?_⟩; gi_at_call 109; refine (bytesAhead_in (n - 1) _ _ _ _).mono ?_; rintro e w' ⟨rfl, hw⟩; subst w')
      obtain ⟨W0, hW0⟩ : ∃ W0, ((((w.alloc (Obj.cells #[Value.int IntKind.i64 0] 3)).alloc (Obj.cells #[Value.int IntKind.i64 0] 3)).alloc (Obj.cells #[Value.int IntKind.u8 0] 5)).alloc (Obj.cells #[Value.slice (some { block := b, off := off + a }) (l.length - a) (cap - a)] 23)) = W0 := ⟨_, rfl⟩
      rw [hW0]
      have hsz : W0.heap.size = w.heap.size + 4 := by rw [← hW0]; simp
      have b0 : Boxed W0 w.heap.size 3 (.int .i64 0) := by rw [← hW0]; exact (((Boxed.new w 3 (.int .i64 0)).alloc _).alloc _).alloc _
      have b1 : Boxed W0 (w.heap.size + 1) 3 (.int .i64 0) := by
        rw [← hW0]; have := Boxed.new (w.alloc (Obj.cells #[Value.int IntKind.i64 0] 3)) 3 (.int .i64 0)
        rw [World.size_alloc] at this; exact (this.alloc _).alloc _
      have b2 : Boxed W0 (w.heap.size + 1 + 1) 5 (.int .u8 0) := by
        rw [← hW0]; have := Boxed.new ((w.alloc (Obj.cells #[Value.int IntKind.i64 0] 3)).alloc (Obj.cells #[Value.int IntKind.i64 0] 3)) 5 (.int .u8 0)
        rw [World.size_alloc, World.size_alloc] at this; exact this.alloc _
      have b3 : Boxed W0 (w.heap.size + 1 + 1 + 1) 23 (.slice (some ⟨b, off + a, none⟩) (l.length - a) (cap - a)) := by
        rw [← hW0]; have := Boxed.new (((w.alloc (Obj.cells #[Value.int IntKind.i64 0] 3)).alloc (Obj.cells #[Value.int IntKind.i64 0] 3)).alloc (Obj.cells #[Value.int IntKind.u8 0] 5)) 23 (.slice (some ⟨b, off + a, none⟩) (l.length - a) (cap - a))
        rw [World.size_alloc, World.size_alloc, World.size_alloc] at this; exact this
      have hB0 : Below w.heap.size w W0 := by
        rw [← hW0]; exact ((((Below.refl _ w).alloc (Nat.le_refl _) _).alloc (by simp) _).alloc (by simp; omega) _).alloc (by simp; omega) _
      clear hW0
      have hpl : (l.drop a).length = l.length - a := by simp
      have b3c := b3.cell
      rw [← hpl] at b3c
      refine wpIn_rangeFunc_ownG rfl h1n (gf := 111) (lb := #[.pointer (some ⟨w.heap.size + 1 + 1 + 1, 0, none⟩)]) rfl trivial (enters_of Try.func111 (by kernel_rfl) rfl)
        (bytesAhead_stops (n - 1) (by omega) (w.heap.size + 1 + 1 + 1) w.heap.size b (off + a) (cap - a) (l.drop a) (by omega) (by omega) (by omega) (by omega) W0 (by omega) (by omega) b3c (HC.out.below (n₀ := w.heap.size) (by omega) hB0)) belowK_t (belowK_b (by omega)) (Below.refl _ _) (fun _ => rfl)
        (fun pre W => Boxed W w.heap.size 3 (.int .i64 (val pre : Int)) ∧ Boxed W (w.heap.size + 1) 3 (.int .i64 (pre.length : Int)) ∧ Boxed W (w.heap.size + 1 + 1) 5 (.int .u8 (lastB pre : Int)) ∧ Below w.heap.size w W)
        (fun _ _ _ => False)
        (OwnFrom.and (Own.from (boxed_own _ _ _) _) (OwnFrom.and (Own.from (boxed_own _ _ _) _) (OwnFrom.and (Own.from (boxed_own _ _ _) _) (ownFrom_below (Nat.le_refl _) (by omega)))))
        (fun _ _ _ _ _ hs _ _ => hs)
        ⟨b0, b1, b2, hB0⟩
        (fun x => { tmps := #[.slice (some ⟨b, off, none⟩) l.length cap, .int .i64 (a : Int), undef, undef, .int .i64 0, .int .i64 0, .int .i64 0, .pointer (some ⟨w.heap.size, 0, none⟩), .pointer (some ⟨w.heap.size + 1, 0, none⟩), .pointer (some ⟨w.heap.size + 1 + 1, 0, none⟩), encB x, .int .i64 (a : Int), .bool false, .bool false, .int .i64 (a : Int), .slice (some ⟨b, off, none⟩) l.length cap, .int .i64 (l.length : Int), .bool false, .bool false, .slice (some ⟨b, off, none⟩) l.length cap, .int .i64 (a : Int), .slice (some ⟨b, off + a, none⟩) (l.length - a) (cap - a), .func (.func 111) #[] #[.pointer (some ⟨w.heap.size + 1 + 1 + 1, 0, none⟩)], encB x, undef, undef, undef, undef, undef, undef, undef, undef, undef, undef, undef, undef, undef, undef, undef, undef, undef, undef, undef, undef, undef, undef, undef, undef, undef, undef, undef, undef, undef, undef, undef, undef], defers := [] }) ?assign ?body ?done ?stop
      case assign =>
        intro l x W K hK
        unfold encB at hK ⊢
        gi_wp2
        exact hK
      case body =>
        rintro l' pre x W ⟨c0, c1, c2, hB⟩ hlt
        have hlt9 : pre.length ≤ 8 := by have := ahead_len_le 9 (l.drop a); omega
        have d0 := c0.cell
        have d1 := c1.cell
        have d2 := c2.cell
        have f0 := c0.frozen
        have f1 := c1.frozen
        have f2 := c2.frozen
        clear hlt
        have hcl := clear128 x
        have hsh := sh7_run x pre.length hlt9
        have hor := sh7_or pre x hlt9
        unfold encB
        gi_wp2
        have e1 : IntKind.i64.wrap ((x.toNat : Int) % 128) = (x.toNat : Int) % 128 := by rw [IntKind.wrap_i64]; omega
        have e2 : IntKind.i64.wrap (7 * (pre.length : Int)) = 7 * (pre.length : Int) := by rw [IntKind.wrap_i64]; omega
        have e3 := sh7_wrap x pre.length hlt9
        have hcl' : bits BinOp.andNot IntKind.u8 (x.toNat : Int) 128 = (x.toNat : Int) % 128 := by rw [hcl]; omega
        have HFIN : Hid _ := int_round (x := x) W0.heap.size c0 c1 c2 hB
        refine region_round (by kernel_rfl) (by kernel_rfl) ?_
        refine wpAnyIn_take (i := 1) (v := .int .u8 (x.toNat : Int)) rfl rfl (by kernel_rfl) (by kernel_rfl) (by kernel_rfl) (fun _ _ _ h => h) ⟨.inl ⟨rfl, fun w => by simp [execOp, go_sem]⟩, fun w => rfl⟩ ?_
        refine wpAnyIn_take (i := 2) (v := .int .u8 ((x.toNat : Int) % 128)) rfl rfl (by kernel_rfl) (by kernel_rfl) (by kernel_rfl) (fun _ _ _ h => h) ⟨.inl ⟨rfl, fun w => by simp [execOp, go_sem, hcl']⟩, fun w => rfl⟩ ?_
        refine wpAnyIn_take (i := 3) (v := .int .i64 ((x.toNat : Int) % 128)) rfl rfl (by kernel_rfl) (by kernel_rfl) (by kernel_rfl) (fun _ _ _ h => h) ⟨.inl ⟨rfl, fun w => by simp [execOp, go_sem, e1]⟩, fun w => rfl⟩ ?_
        refine wpAnyIn_ready (rs := [0, 4]) (by kernel_rfl) (by simp) (AllReadyIn.cons rfl (fun K hK => ?A) (AllReadyIn.cons rfl (fun K hK => ?B) AllReadyIn.nil))
        case A =>
          simp [go_sem, execOp, d0]
          refine hK _ _ ?_
          clear hK K
          refine wpAnyIn_ready (rs := [4]) (by kernel_rfl) (by simp) (AllReadyIn.cons rfl (fun K hK => ?A2) AllReadyIn.nil)
          case A2 =>
            simp [go_sem, execOp, d1]
            refine hK _ _ ?_
            clear hK K
            refine wpAnyIn_take (i := 5) (v := .int .i64 (7 * (pre.length : Int))) rfl rfl (by kernel_rfl) (by kernel_rfl) (by kernel_rfl) (fun _ _ _ h => h) ⟨.inl ⟨rfl, fun w => by simp [execOp, go_sem, e2]⟩, fun w => rfl⟩ ?_
            refine wpAnyIn_take (i := 6) (v := .int .i64 ((sh7 (x.toNat % 128) pre.length : Nat) : Int)) rfl rfl (by kernel_rfl) (by kernel_rfl) (by kernel_rfl) (fun _ _ _ h => h) ⟨.inl ⟨rfl, fun w => by simp [execOp, go_sem, e3]⟩, fun w => rfl⟩ ?_
            refine wpAnyIn_take (i := 7) (v := .int .i64 (val (pre ++ [x]) : Int)) rfl rfl (by kernel_rfl) (by kernel_rfl) (by kernel_rfl) (fun _ _ _ h => h) ⟨.inl ⟨rfl, fun w => by simp [execOp, go_sem, hor]⟩, fun w => rfl⟩ ?_
            refine wpAnyIn_ready (rs := [8]) (by kernel_rfl) (by simp) (AllReadyIn.cons rfl (fun K hK => ?Z) AllReadyIn.nil)
            case Z =>
              simp [go_sem, execOp, d0, f0]
              refine hK _ _ ?_
              clear hK K
              refine wpAnyIn_done (by kernel_rfl) ?_ _
              have c1' : Boxed (W.setCell ⟨w.heap.size, 0, none⟩ (.int .i64 (val (pre ++ [x]) : Int))).drew (w.heap.size + 1) 3 (.int .i64 (pre.length : Int)) := c1.other (by omega) _
              have c2' : Boxed (W.setCell ⟨w.heap.size, 0, none⟩ (.int .i64 (val (pre ++ [x]) : Int))).drew (w.heap.size + 1 + 1) 5 (.int .u8 (lastB pre : Int)) := c2.other (by omega) _
              have d1' := c1'.cell
              have d2' := c2'.cell
              have f1' := c1'.frozen
              have f2' := c2'.frozen
              clear hsh hor hcl hcl' e1 e2 e3
              gi_wp2
              exact HFIN.out _ (by simp)
        case B =>
          simp [go_sem, execOp, d1]
          refine hK _ _ ?_
          clear hK K
          refine wpAnyIn_take (i := 5) (v := .int .i64 (7 * (pre.length : Int))) rfl rfl (by kernel_rfl) (by kernel_rfl) (by kernel_rfl) (fun _ _ _ h => h) ⟨.inl ⟨rfl, fun w => by simp [execOp, go_sem, e2]⟩, fun w => rfl⟩ ?_
          refine wpAnyIn_take (i := 6) (v := .int .i64 ((sh7 (x.toNat % 128) pre.length : Nat) : Int)) rfl rfl (by kernel_rfl) (by kernel_rfl) (by kernel_rfl) (fun _ _ _ h => h) ⟨.inl ⟨rfl, fun w => by simp [execOp, go_sem, e3]⟩, fun w => rfl⟩ ?_
          refine wpAnyIn_ready (rs := [0]) (by kernel_rfl) (by simp) (AllReadyIn.cons rfl (fun K hK => ?B2) AllReadyIn.nil)
          case B2 =>
            simp [go_sem, execOp, d0]
            refine hK _ _ ?_
            clear hK K
            refine wpAnyIn_take (i := 7) (v := .int .i64 (val (pre ++ [x]) : Int)) rfl rfl (by kernel_rfl) (by kernel_rfl) (by kernel_rfl) (fun _ _ _ h => h) ⟨.inl ⟨rfl, fun w => by simp [execOp, go_sem, hor]⟩, fun w => rfl⟩ ?_
            refine wpAnyIn_ready (rs := [8]) (by kernel_rfl) (by simp) (AllReadyIn.cons rfl (fun K hK => ?Z) AllReadyIn.nil)
            case Z =>
              simp [go_sem, execOp, d0, f0]
              refine hK _ _ ?_
              clear hK K
              refine wpAnyIn_done (by kernel_rfl) ?_ _
              have c1' : Boxed (W.setCell ⟨w.heap.size, 0, none⟩ (.int .i64 (val (pre ++ [x]) : Int))).drew (w.heap.size + 1) 3 (.int .i64 (pre.length : Int)) := c1.other (by omega) _
              have c2' : Boxed (W.setCell ⟨w.heap.size, 0, none⟩ (.int .i64 (val (pre ++ [x]) : Int))).drew (w.heap.size + 1 + 1) 5 (.int .u8 (lastB pre : Int)) := c2.other (by omega) _
              have d1' := c1'.cell
              have d2' := c2'.cell
              have f1' := c1'.frozen
              have f2' := c2'.frozen
              clear hsh hor hcl hcl' e1 e2 e3
              gi_wp2
              exact HFIN.out _ (by simp)
      case done =>
        rintro D ys W hD hys ⟨c0, c1, c2, hB⟩ hK
        have HV : Hid (intAt l (a : Int) = verdict ys) := by
          show intAt l (a : Int) = verdict ys
          unfold intAt
          rw [if_neg (by omega), hys]
          simp only [Int.toNat_natCast]
        have hvb : val ys < 9223372036854775808 := by
          have h1 := val_lt ys
          have h2 : ys.length ≤ 9 := by rw [hys]; exact ahead_len_le 9 _
          have h3 : 128 ^ ys.length ≤ 128 ^ 9 := Nat.pow_le_pow_right (by decide) h2
          have h4 : (128 : Nat) ^ 9 = 9223372036854775808 := by decide
          omega
        have hlb : lastB ys < 256 := by unfold lastB; exact UInt8.toNat_lt _
        have hln : ys.length ≤ 9 := by rw [hys]; exact ahead_len_le 9 _
        have HB' : Hid (Below w.heap.size w (W.putObj D (.deferred none))) := hB.trans (belowK_b (w := w) (Nat.le_refl _) W D _ _ (by omega) hK rfl rfl)
        have HBd : Hid (Below w.heap.size w (W.drew.putObj D (.deferred none))) := hB.drew.trans (belowK_b (w := w) (Nat.le_refl _) W.drew D _ _ (by omega) hK rfl rfl)
        clear hys
        have d0 := c0.cell
        have d1 := c1.cell
        have d2 := c2.cell
        unfold verdict at HV
        generalize lastB ys = la at *
        generalize val ys = vv at *
        generalize ys.length = sz at *
        by_cases k1 : 128 ≤ la
        · by_cases k2 : sz < 9
          · rw [if_pos ⟨k1, k2⟩] at HV
            gi_wp2
            refine ⟨by simp, .inl ⟨_, _, rfl, run_takeDeferred hK, ?_⟩⟩
            exact ⟨_, results_tmp3 rfl _ _ _, by rw [HV.out]; rfl, HB'.out⟩
          · rw [if_neg (by omega), if_pos k1] at HV
            have k2' : decide ((sz : Int) < 9) = false := by simp; omega
            gi_wp2
            refine ⟨by simp, .inl ⟨_, _, rfl, run_takeDeferred hK, ?_⟩⟩
            exact ⟨_, results_tmp3 rfl _ _ _, by rw [HV.out]; rfl, HB'.out⟩
        · rw [if_neg (by omega), if_neg k1] at HV
          have k1' : decide ((128 : Int) ≤ (la : Int)) = false := by simp; omega
          by_cases k3 : la = 0 ∧ 1 < sz
          · rw [if_pos k3] at HV
            obtain ⟨k3, k4⟩ := k3
            have k3' : ((la : Int) == 0) = true := by simp [k3]
            gi_wp2
            refine ⟨by simp, .inl ⟨_, _, rfl, run_takeDeferred hK, ?_⟩⟩
            exact ⟨_, results_tmp3 rfl _ _ _, by rw [HV.out]; rfl, HB'.out⟩
          · rw [if_neg k3] at HV
            have k5 : ((la : Int) == 0) = false ∨ (((la : Int) == 0) = true ∧ decide ((1 : Int) < (sz : Int)) = false) := by
              by_cases h : la = 0
              · exact .inr ⟨by simp [h], by simp; omega⟩
              · exact .inl (by rw [beq_eq_false_iff_ne]; omega)
            clear k3
            by_cases k6 : 4611686018427387904 < vv
            · rw [if_pos k6] at HV
              rcases k5 with k5 | ⟨k5, k5'⟩
              all_goals
                gi_wp2
                refine ⟨by simp, .inl ⟨_, _, rfl, run_takeDeferred hK, ?_⟩⟩
                exact ⟨_, results_tmp3 rfl _ _ _, by rw [HV.out]; rfl, HB'.out⟩
            · rw [if_neg k6] at HV
              rcases k5 with k5 | ⟨k5, k5'⟩
              all_goals
                gi_wp2
                gi_region
                all_goals gi_wp2
                all_goals
                  refine ⟨by simp, .inl ⟨_, _, rfl, run_takeDeferred (w := W.drew) hK, ?_⟩⟩
                  exact ⟨_, results_tmp3 rfl _ _ _, by rw [HV.out]; rfl, HBd.out⟩
      case stop =>
        rintro D c pre W _ _ h _
        exact h.elim

theorem wInt_any (N : Nat) (v : Value) (l : List UInt8) (i : Int) (w : World) (hN : N ≤ w.heap.size) (hv : Sl N w v l) :
    Calls Try.prog 106 #[v, .int .i64 i] w fun e w' => e = .returned (tup3 (intAt l i)) ∧ Below w.heap.size w w' :=
  callsIn_wide.1 (wInt_in 3 (by decide) N v l i w hN hv)
end Go.Proofs.Ytfnnbfgfmbiabab

/-
  Bytes in memory: what an append of bytes onto bytes of the call's own leaves; copies.
-/
namespace Go.Proofs.Ytfnnbfgfmbiabab
open Go.RowKit Go.Shelf

theorem Ow.sl {N M : Nat} {w : World} {v : Value} {l : List UInt8} (h : Ow N w v l) (hM : w.heap.size ≤ M) : Sl M w v l := by
  obtain ⟨a, cap, rfl, h1, h2⟩ := h.shape
  refine ⟨a, cap, rfl, h1, h2, ?_⟩
  rcases h.2 with ⟨_, h0⟩ | ⟨g, cap', cur, hv, hg, hh, hc1, hc2, hc3, hc4⟩
  · exact .inl (List.length_eq_zero_iff.1 h0)
  · cases hv
    refine .inr ⟨g, 0, rfl, Nat.lt_of_lt_of_le (Array.getElem?_eq_some_iff.1 hh).1 hM, fun i hi => ?_⟩
    simp only [Nat.mul_one] at hc4
    have h5 : cur.toList[i]? = some (encB (l[i]?.getD 0)) := by
      have : (cur.toList.take l.length)[i]? = (l.map encB)[i]? := by rw [hc4]
      rw [List.getElem?_take, if_pos hi, List.getElem?_map] at this
      rw [this, List.getElem?_eq_getElem hi]; rfl
    simp only [World.cell?, hh, Nat.zero_add]
    simpa using h5

theorem Sl.mono {N M : Nat} {w : World} {v : Value} {l : List UInt8} (h : Sl N w v l) (hM : N ≤ M) : Sl M w v l := by
  obtain ⟨a, cap, rfl, h1, h2, h3⟩ := h
  refine ⟨a, cap, rfl, h1, h2, ?_⟩
  rcases h3 with h3 | ⟨b, off, e, hb, hc⟩
  · exact .inl h3
  · exact .inr ⟨b, off, e, by omega, hc⟩

theorem Sl.below {N : Nat} {w w' : World} {v : Value} {l : List UInt8} (h : Sl N w v l) (hB : Below N w w') : Sl N w' v l := by
  obtain ⟨a, cap, rfl, h1, h2, h3⟩ := h
  refine ⟨a, cap, rfl, h1, h2, ?_⟩
  rcases h3 with h3 | ⟨b, off, e, hb, hc⟩
  · exact .inl h3
  · exact .inr ⟨b, off, e, hb, fun i hi => (hB.cell (p := ⟨b, off + i, none⟩) hb).trans (hc i hi)⟩

theorem run_append_ow (ty : TypeId) (w : World) (N M : Nat) (v xv : Value) (l m : List UInt8) (hv : Ow N w v l) (hsl : Sl M w xv m) (hlen : l.length + m.length ≤ 1099511627776) (hN : N ≤ w.heap.size) :
    ∃ v' w', (Builtin.append_ #[23, 23] ty #[v, xv]).run Try.prog w = .ok v' w' ∧ Ow N w' v' (l ++ m) ∧ w.grownBy w' v.ownBlock ∧ (v'.ownBlock = v.ownBlock ∨ v'.ownBlock = some w.heap.size) := by
  obtain ⟨i0, hi, hz0, hz1, hz2⟩ := info_parts info5
  obtain ⟨a, cap, rfl, h1, h2, h3⟩ := hsl
  have key : ∀ ad : Addr, (∀ j u, (m.map encB)[j]? = some u → w.cell? (ad.add j) = some u) → ∃ v' w', (Builtin.append_ #[23, 23] ty #[v, .slice (some ad) m.length cap]).run Try.prog w = .ok v' w' ∧ Ow N w' v' (l ++ m) ∧ w.grownBy w' v.ownBlock ∧ (v'.ownBlock = v.ownBlock ∨ v'.ownBlock = some w.heap.size) := by
    intro ad had
    obtain ⟨v', w', r1, r2, r3, _, r5⟩ := run_append_own_at (P := Try.prog) w N 23 ty 5 i0 (.int .u8 0) 1 1 Try.underlying23 hi hz0 hz1 hz2 rfl (by decide) v l.length (l.map encB) hv ad m.length cap (m.map encB) (by simp) had (by intro u hu; obtain ⟨x, _, rfl⟩ := List.mem_map.1 hu; rfl) (by unfold maxLen; omega) (by omega) hN
    exact ⟨v', w', r1, by unfold Ow; simpa using r2, r3, r5⟩
  rcases h3 with rfl | ⟨b, off, rfl, hb, hc⟩
  · cases a with
    | none =>
      refine ⟨v, w, ?_, by simpa using hv, grown_refl w _, .inl rfl⟩
      rcases hv.2 with ⟨rfl, _⟩ | ⟨g, cap', cur, rfl, _, _, hnc, _⟩
      · simp [Builtin.append_, run_underlying Try.underlying23, sizeOf, typeInfo, hi, Builtin.lenOf, Builtin.firstCells]
      · simp [Builtin.append_, run_underlying Try.underlying23, sizeOf, typeInfo, hi, Builtin.lenOf, Builtin.firstCells, hnc, storeCells]
    | some ad => exact key ad (by simp)
  · refine key _ (fun j u hj => ?_)
    simp only [List.getElem?_map, Option.map_eq_some_iff] at hj
    obtain ⟨x, hx, rfl⟩ := hj
    have hlt := (List.getElem?_eq_some_iff.1 hx).1
    have := hc j hlt
    rw [hx] at this
    rw [Addr.add_lit]
    simpa using this

/-- An append of bytes onto bytes of the call's own, as a law of the walk. -/
theorem wpList_append_ow {ops : Array Oper} {rest : List Oper} {o : Oper} {a : Act} {Q : Exit → Act → World → Prop} {w : World} (hgd : o.guard = none) (s x : Operand)
    (ho : o.op = .call { callee := .builtin .append, args := #[s, x], argTypes := #[23, 23] })
    (N M : Nat) (v xv : Value) (l m : List UInt8) (hs : a.eval s = v) (hv : Ow N w v l) (hx : a.eval x = xv) (hsl : Sl M w xv m) (hlen : l.length + m.length ≤ 1099511627776) (hN : N ≤ w.heap.size)
    (h : ∀ v' w', Ow N w' v' (l ++ m) → w.grownBy w' v.ownBlock → (v'.ownBlock = v.ownBlock ∨ v'.ownBlock = some w.heap.size) → wpList Try.prog ops Q rest (a.put o.dst v') w') :
    wpList Try.prog ops Q (o :: rest) a w := by
  refine wpList_plain hgd fun K hK => ?_
  obtain ⟨v', w', hr, h2, h3, h4⟩ := run_append_ow o.type w N M v xv l m hv hsl hlen hN
  unfold Oper.wp execOp
  simp only [ho, resolve, invoke, builtin, Sem.run_bind, Sem.run_pure, Result.andThen_ok, List.map_toArray, List.map_cons, List.map_nil, hs, hx, hr]
  exact hK _ _ (h v' w' h2 h3 h4)

theorem Ow.nil (N : Nat) (w : World) : Ow N w (.slice none 0 0) [] := World.ownsRow_nil _ _ _ _

set_option maxRecDepth 100000 in
set_option maxHeartbeats 400000 in
/-- wire.fresh: a copy in new memory. -/
theorem fresh_any (M : Nat) (v : Value) (l : List UInt8) (w : World) (hv : Sl M w v l) (hl : l.length ≤ 1099511627776) :
    Calls Try.prog 77 #[v] w fun e w' => ∃ v', e = .returned v' ∧ Ow w.heap.size w' v' l ∧ Below w.heap.size w w' := by
  obtain ⟨a, cap, rfl, -⟩ := id hv
  go_enter Try.func77, Try.ntmps77
  go_wp2_with (at_builtin; refine wpList_append_ow rfl _ _ rfl w.heap.size M _ _ [] l rfl (Ow.nil _ _) rfl hv (by simpa using hl) (Nat.le_refl _) ?_; intro v' w1 hO hg _)
  go_ret
  exact ⟨v', rfl, hO, (Below.refl _ _).grown hg (Nat.le_refl _) (fun k e => by cases e)⟩

set_option maxRecDepth 100000 in
set_option maxHeartbeats 400000 in
/-- The document's Bytes: a copy in new memory. -/
theorem bytes_any (M : Nat) (v : Value) (l : List UInt8) (w : World) (hv : Sl M w v l) (hM : M ≤ w.heap.size) (hl : l.length ≤ 1099511627776) :
    Calls Try.prog 26 #[v] w fun e w' => ∃ v', e = .returned v' ∧ Ow w.heap.size w' v' l ∧ Below w.heap.size w w' := by
  obtain ⟨a, cap, rfl, -⟩ := id hv
  go_enter Try.func26, Try.ntmps26
  have hO0 : Ow w.heap.size (w.alloc (.cells #[] 5)) (.slice (some ⟨w.heap.size, 0, none⟩) 0 0) [] :=
    ⟨by simp, .inr ⟨w.heap.size, 0, #[], rfl, Nat.le_refl _, World.alloc_heap_new w _, by simp, by unfold maxLen; omega, by simp, by simp⟩⟩
  have hB0 : Below w.heap.size w (w.alloc (.cells #[] 5)) := (Below.refl _ w).alloc (Nat.le_refl _) _
  have hv1 := hv.below (hB0.mono hM)
  go_wp2_with (at_builtin; refine wpList_append_ow rfl _ _ rfl w.heap.size M _ _ [] l rfl hO0 rfl hv1 (by simpa using hl) (by simp) ?_; intro v' w1 hO hg _)
  go_ret
  exact ⟨v', rfl, hO, hB0.grown hg (by simp) (fun k e => by cases e; exact Nat.le_refl _)⟩
end Go.Proofs.Ytfnnbfgfmbiabab

