/-
  wire.Int: at any place of any bytes what the document says.
-/
import Derived.Test.YtfnnbfgfmbiababAhead
import Derived.Test.YtfnnbfgfmbiababRound
namespace Go.Proofs.Ytfnnbfgfmbiabab
open Go.RowKit Go.Shelf
attribute [local go_sem] Oper.semAt_some

/-- Seven bits, moved up. -/
def sh7 (c k : Nat) : Nat := c * 128 ^ k

theorem sh7_run (x : UInt8) (k : Nat) (hk : k ≤ 8) :
    Op.shift BinOp.shl IntKind.i64 (IntKind.i64.wrap ((x.toNat : Int) % 128)) IntKind.i64 (IntKind.i64.wrap (7 * (k : Int))) = pure (.int .i64 ((sh7 (x.toNat % 128) k : Nat) : Int)) := by
  have e1 : IntKind.i64.wrap ((x.toNat : Int) % 128) = (x.toNat : Int) % 128 := by rw [IntKind.wrap_i64]; omega
  have e2 : IntKind.i64.wrap (7 * (k : Int)) = 7 * (k : Int) := by rw [IntKind.wrap_i64]; omega
  rw [e1, e2, shift_shl_i64 _ _ _ (by omega) (by omega)]
  have h3 : (128 : Nat) ^ k ≤ 128 ^ 8 := Nat.pow_le_pow_right (by decide) hk
  have h4 : (128 : Nat) ^ 8 = 72057594037927936 := by decide
  have h5 : (x.toNat % 128) * 128 ^ k ≤ 127 * 72057594037927936 := Nat.mul_le_mul (by omega) (by omega)
  have e3 : (7 * (k : Int)).toNat = 7 * k := by omega
  have e4 : ((x.toNat : Int) % 128) * 2 ^ (7 * k) = ((sh7 (x.toNat % 128) k : Nat) : Int) := by
    unfold sh7
    have e5 : (128 : Nat) ^ k = 2 ^ (7 * k) := by rw [Nat.pow_mul]
    rw [e5]
    simp
  rw [e3, e4]
  have h6 : sh7 (x.toNat % 128) k ≤ 127 * 72057594037927936 := h5
  congr 2
  rw [IntKind.wrap_i64]; omega

theorem sh7_wrap (x : UInt8) (k : Nat) (hk : k ≤ 8) : IntKind.i64.wrap ((x.toNat : Int) % 128 * 2 ^ (7 * (k : Int)).toNat) = ((sh7 (x.toNat % 128) k : Nat) : Int) := by
  have h := sh7_run x k hk
  have e1 : IntKind.i64.wrap ((x.toNat : Int) % 128) = (x.toNat : Int) % 128 := by rw [IntKind.wrap_i64]; omega
  have e2 : IntKind.i64.wrap (7 * (k : Int)) = 7 * (k : Int) := by rw [IntKind.wrap_i64]; omega
  rw [e1, e2, shift_shl_i64 _ _ _ (by omega) (by omega)] at h
  have := congrArg (fun s => s.run Try.prog default) h
  simpa using this

theorem lastB_one (pre : List UInt8) (x : UInt8) : lastB (pre ++ [x]) = x.toNat := lastB_snoc pre x

/-- What one round leaves. -/
theorem int_round {W w : World} {pre : List UInt8} {x : UInt8} (B : Nat) (c0 : Boxed W w.heap.size 3 (.int .i64 (val pre : Int))) (c1 : Boxed W (w.heap.size + 1) 3 (.int .i64 (pre.length : Int))) (c2 : Boxed W (w.heap.size + 1 + 1) 5 (.int .u8 (lastB pre : Int))) (hB : Below w.heap.size w W)
    (W3 : World) (hW3 : W3 = ((((W.setCell ⟨w.heap.size, 0, none⟩ (.int .i64 (val (pre ++ [x]) : Int))).setCell ⟨w.heap.size + 1, 0, none⟩ (.int .i64 ((pre.length : Int) + 1))).setCell ⟨w.heap.size + 1 + 1, 0, none⟩ (.int .u8 (x.toNat : Int)))).drew) :
    KeepsFrom B W W3 ∧ Below w.heap.size W W3 ∧ Boxed W3 w.heap.size 3 (.int .i64 (val (pre ++ [x]) : Int)) ∧ Boxed W3 (w.heap.size + 1) 3 (.int .i64 ((pre ++ [x]).length : Int)) ∧ Boxed W3 (w.heap.size + 1 + 1) 5 (.int .u8 (lastB (pre ++ [x]) : Int)) ∧ Below w.heap.size w W3 := by
  subst hW3
  have hb : Below w.heap.size W ((((W.setCell ⟨w.heap.size, 0, none⟩ (.int .i64 (val (pre ++ [x]) : Int))).setCell ⟨w.heap.size + 1, 0, none⟩ (.int .i64 ((pre.length : Int) + 1))).setCell ⟨w.heap.size + 1 + 1, 0, none⟩ (.int .u8 (x.toNat : Int)))).drew :=
    ((((Below.refl _ W).setCell (p := ⟨w.heap.size, 0, none⟩) (Nat.le_refl _) _).setCell (p := ⟨w.heap.size + 1, 0, none⟩) (by simp) _).setCell (p := ⟨w.heap.size + 1 + 1, 0, none⟩) (by simp; omega) _).drew
  refine ⟨(((((KeepsOthers.setCell _ _ _).trans (KeepsOthers.setCell _ _ _)).trans (KeepsOthers.setCell _ _ _)).trans (KeepsOthers.drew _))).from _, hb, ?_, ?_, ?_, hB.trans hb⟩
  · exact ((c0.set _).other (by omega) _).other (by omega) _
  · have := (((c1.other (B' := w.heap.size) (by omega) (.int .i64 (val (pre ++ [x]) : Int))).set (.int .i64 ((pre.length : Int) + 1))).other (B' := w.heap.size + 1 + 1) (by omega) (.int .u8 (x.toNat : Int)))
    have e : (((pre ++ [x]).length : Nat) : Int) = (pre.length : Int) + 1 := by simp
    rw [e]; exact this
  · rw [lastB_one]
    exact ((c2.other (by omega) _).other (by omega) _).set _

theorem sh7_or (pre : List UInt8) (x : UInt8) (hk : pre.length ≤ 8) : bits .or .i64 (val pre : Int) ((sh7 (x.toNat % 128) pre.length : Nat) : Int) = (val (pre ++ [x]) : Int) := by
  have := lay_above (val pre) (x.toNat % 128) pre.length hk (val_lt pre) (by omega)
  unfold sh7
  rw [this, val_append]; simp [val]

set_option maxRecDepth 100000 in
set_option maxHeartbeats 2000000 in
theorem wInt_in (n : Nat) (hn : 3 ≤ n) (N : Nat) (v : Value) (l : List UInt8) (i : Int) (w : World) (hN : N ≤ w.heap.size) (hv : Sl N w v l) :
    CallsIn Fence.wide n Try.prog 106 #[v, .int .i64 i] w fun e w' => e = .returned (tup3 (intAt l i)) ∧ Below w.heap.size w w' := by
  have h1n : 1 ≤ n := by omega
  obtain ⟨a0, cap, rfl, hc, hm, g⟩ := hv
  by_cases h0 : i < 0
  · rw [intAt_off l i (.inl h0)]; unfold tup3
    refine callsIn_of_wp_marks Try.func106 rfl trivial ?_ rfl
    simp only [Try.ntmps106, List.size_toArray, List.length_cons, List.length_nil, Nat.reduceAdd, Nat.reduceSub, Array.replicate_succ, Array.replicate_zero, List.push_toArray, List.append_toArray, List.nil_append, List.cons_append]
    gi_wp2
    exact ⟨_, results_tmp3 rfl _ _ _, rfl, Below.refl _ _⟩
  · by_cases h1 : (l.length : Int) ≤ i
    · rw [intAt_off l i (.inr h1)]; unfold tup3
      have h0' : decide (i < 0) = false := by simpa using h0
      refine callsIn_of_wp_marks Try.func106 rfl trivial ?_ rfl
      simp only [Try.ntmps106, List.size_toArray, List.length_cons, List.length_nil, Nat.reduceAdd, Nat.reduceSub, Array.replicate_succ, Array.replicate_zero, List.push_toArray, List.append_toArray, List.nil_append, List.cons_append]
      gi_wp2
      exact ⟨_, results_tmp3 rfl _ _ _, rfl, Below.refl _ _⟩
    · obtain ⟨a, rfl⟩ := Int.eq_ofNat_of_zero_le (Int.not_lt.1 h0)
      have hal : a < l.length := by omega
      obtain ⟨b, off, rfl, hbN, hcell⟩ := Sl.cellAt g (by omega)
      have HC : Hid (CellsAt w b (off + a) (l.drop a)) := by
        intro i hi
        rw [Nat.add_assoc, byteAt_drop]
        exact hcell (a + i) (by simp at hi; omega)
      have hm' := hm
      unfold maxLen at hm
      clear g h1 h0 hcell
      have h0' : decide ((a : Int) < 0) = false := by simp
      have h1' : decide ((l.length : Int) ≤ (a : Int)) = false := by simp; omega
      refine callsIn_of_wp_marks Try.func106 rfl trivial ?_ rfl
      simp only [Try.ntmps106, List.size_toArray, List.length_cons, List.length_nil, Nat.reduceAdd, Nat.reduceSub, Array.replicate_succ, Array.replicate_zero, List.push_toArray, List.append_toArray, List.nil_append, List.cons_append]
      gi_wp2_with (refine ⟨trivial, ?_⟩; gi_at_call 109; refine (bytesAhead_in (n - 1) _ _ _ _).mono ?_; rintro e w' ⟨rfl, hw⟩; subst w')
      obtain ⟨W0, hW0⟩ : ∃ W0, ((((w.alloc (Obj.cells #[Value.int IntKind.i64 0] 3)).alloc (Obj.cells #[Value.int IntKind.i64 0] 3)).alloc (Obj.cells #[Value.int IntKind.u8 0] 5)).alloc (Obj.cells #[Value.slice (some { block := b, off := off + a }) (l.length - a) (cap - a)] 23)) = W0 := ⟨_, rfl⟩
      rw [hW0]
      have hsz : W0.heap.size = w.heap.size + 4 := by rw [← hW0]; simp
      have b0 : Boxed W0 w.heap.size 3 (.int .i64 0) := by rw [← hW0]; exact (((Boxed.new w 3 (.int .i64 0)).alloc _).alloc _).alloc _
      have b1 : Boxed W0 (w.heap.size + 1) 3 (.int .i64 0) := by
        rw [← hW0]; have := Boxed.new (w.alloc (Obj.cells #[Value.int IntKind.i64 0] 3)) 3 (.int .i64 0)
        rw [World.size_alloc] at this; exact (this.alloc _).alloc _
      have b2 : Boxed W0 (w.heap.size + 1 + 1) 5 (.int .u8 0) := by
        rw [← hW0]; have := Boxed.new ((w.alloc (Obj.cells #[Value.int IntKind.i64 0] 3)).alloc (Obj.cells #[Value.int IntKind.i64 0] 3)) 5 (.int .u8 0)
        rw [World.size_alloc, World.size_alloc] at this; exact this.alloc _
      have b3 : Boxed W0 (w.heap.size + 1 + 1 + 1) 23 (.slice (some ⟨b, off + a, none⟩) (l.length - a) (cap - a)) := by
        rw [← hW0]; have := Boxed.new (((w.alloc (Obj.cells #[Value.int IntKind.i64 0] 3)).alloc (Obj.cells #[Value.int IntKind.i64 0] 3)).alloc (Obj.cells #[Value.int IntKind.u8 0] 5)) 23 (.slice (some ⟨b, off + a, none⟩) (l.length - a) (cap - a))
        rw [World.size_alloc, World.size_alloc, World.size_alloc] at this; exact this
      have hB0 : Below w.heap.size w W0 := by
        rw [← hW0]; exact ((((Below.refl _ w).alloc (Nat.le_refl _) _).alloc (by simp) _).alloc (by simp; omega) _).alloc (by simp; omega) _
      clear hW0
      have hpl : (l.drop a).length = l.length - a := by simp
      have b3c := b3.cell
      rw [← hpl] at b3c
      refine wpIn_rangeFunc_ownG rfl h1n (gf := 111) (lb := #[.pointer (some ⟨w.heap.size + 1 + 1 + 1, 0, none⟩)]) rfl trivial (enters_of Try.func111 (by kernel_rfl) rfl)
        (bytesAhead_stops (n - 1) (by omega) (w.heap.size + 1 + 1 + 1) w.heap.size b (off + a) (cap - a) (l.drop a) (by omega) (by omega) (by omega) (by omega) W0 (by omega) (by omega) b3c (HC.out.below (n₀ := w.heap.size) (by omega) hB0)) belowK_t (belowK_b (by omega)) (Below.refl _ _) (fun _ => rfl)
        (fun pre W => Boxed W w.heap.size 3 (.int .i64 (val pre : Int)) ∧ Boxed W (w.heap.size + 1) 3 (.int .i64 (pre.length : Int)) ∧ Boxed W (w.heap.size + 1 + 1) 5 (.int .u8 (lastB pre : Int)) ∧ Below w.heap.size w W)
        (fun _ _ _ => False)
        (OwnFrom.and (Own.from (boxed_own _ _ _) _) (OwnFrom.and (Own.from (boxed_own _ _ _) _) (OwnFrom.and (Own.from (boxed_own _ _ _) _) (ownFrom_below (Nat.le_refl _) (by omega)))))
        (fun _ _ _ _ _ hs _ _ => hs)
        ⟨b0, b1, b2, hB0⟩
        (fun x => { tmps := #[.slice (some ⟨b, off, none⟩) l.length cap, .int .i64 (a : Int), undef, undef, .int .i64 0, .int .i64 0, .int .i64 0, .pointer (some ⟨w.heap.size, 0, none⟩), .pointer (some ⟨w.heap.size + 1, 0, none⟩), .pointer (some ⟨w.heap.size + 1 + 1, 0, none⟩), encB x, .int .i64 (a : Int), .bool false, .bool false, .int .i64 (a : Int), .slice (some ⟨b, off, none⟩) l.length cap, .int .i64 (l.length : Int), .bool false, .bool false, .slice (some ⟨b, off, none⟩) l.length cap, .int .i64 (a : Int), .slice (some ⟨b, off + a, none⟩) (l.length - a) (cap - a), .func (.func 111) #[] #[.pointer (some ⟨w.heap.size + 1 + 1 + 1, 0, none⟩)], encB x, undef, undef, undef, undef, undef, undef, undef, undef, undef, undef, undef, undef, undef, undef, undef, undef, undef, undef, undef, undef, undef, undef, undef, undef, undef, undef, undef, undef, undef, undef, undef, undef], defers := [] }) ?assign ?body ?done ?stop
      case assign =>
        intro l x W K hK
        unfold encB at hK ⊢
        gi_wp2
        exact hK
      case body =>
        rintro l' pre x W ⟨c0, c1, c2, hB⟩ hlt
        have hlt9 : pre.length ≤ 8 := by have := ahead_len_le 9 (l.drop a); omega
        have d0 := c0.cell
        have d1 := c1.cell
        have d2 := c2.cell
        have f0 := c0.frozen
        have f1 := c1.frozen
        have f2 := c2.frozen
        clear hlt
        have hcl := clear128 x
        have hsh := sh7_run x pre.length hlt9
        have hor := sh7_or pre x hlt9
        unfold encB
        gi_wp2
        have e1 : IntKind.i64.wrap ((x.toNat : Int) % 128) = (x.toNat : Int) % 128 := by rw [IntKind.wrap_i64]; omega
        have e2 : IntKind.i64.wrap (7 * (pre.length : Int)) = 7 * (pre.length : Int) := by rw [IntKind.wrap_i64]; omega
        have e3 := sh7_wrap x pre.length hlt9
        have hcl' : bits BinOp.andNot IntKind.u8 (x.toNat : Int) 128 = (x.toNat : Int) % 128 := by rw [hcl]; omega
        have HFIN : Hid _ := int_round (x := x) W0.heap.size c0 c1 c2 hB
        refine region_round (by kernel_rfl) (by kernel_rfl) ?_
        refine wpAnyIn_take (i := 1) (v := .int .u8 (x.toNat : Int)) rfl rfl (by kernel_rfl) (by kernel_rfl) (by kernel_rfl) (fun _ _ _ h => h) ⟨.inl ⟨rfl, fun w => by simp [execOp, go_sem]⟩, fun w => rfl⟩ ?_
        refine wpAnyIn_take (i := 2) (v := .int .u8 ((x.toNat : Int) % 128)) rfl rfl (by kernel_rfl) (by kernel_rfl) (by kernel_rfl) (fun _ _ _ h => h) ⟨.inl ⟨rfl, fun w => by simp [execOp, go_sem, hcl']⟩, fun w => rfl⟩ ?_
        refine wpAnyIn_take (i := 3) (v := .int .i64 ((x.toNat : Int) % 128)) rfl rfl (by kernel_rfl) (by kernel_rfl) (by kernel_rfl) (fun _ _ _ h => h) ⟨.inl ⟨rfl, fun w => by simp [execOp, go_sem, e1]⟩, fun w => rfl⟩ ?_
        refine wpAnyIn_ready (rs := [0, 4]) (by kernel_rfl) (by simp) (AllReadyIn.cons rfl (fun K hK => ?A) (AllReadyIn.cons rfl (fun K hK => ?B) AllReadyIn.nil))
        case A =>
          simp [go_sem, execOp, d0]
          refine hK _ _ ?_
          clear hK K
          refine wpAnyIn_ready (rs := [4]) (by kernel_rfl) (by simp) (AllReadyIn.cons rfl (fun K hK => ?A2) AllReadyIn.nil)
          case A2 =>
            simp [go_sem, execOp, d1]
            refine hK _ _ ?_
            clear hK K
            refine wpAnyIn_take (i := 5) (v := .int .i64 (7 * (pre.length : Int))) rfl rfl (by kernel_rfl) (by kernel_rfl) (by kernel_rfl) (fun _ _ _ h => h) ⟨.inl ⟨rfl, fun w => by simp [execOp, go_sem, e2]⟩, fun w => rfl⟩ ?_
            refine wpAnyIn_take (i := 6) (v := .int .i64 ((sh7 (x.toNat % 128) pre.length : Nat) : Int)) rfl rfl (by kernel_rfl) (by kernel_rfl) (by kernel_rfl) (fun _ _ _ h => h) ⟨.inl ⟨rfl, fun w => by simp [execOp, go_sem, e3]⟩, fun w => rfl⟩ ?_
            refine wpAnyIn_take (i := 7) (v := .int .i64 (val (pre ++ [x]) : Int)) rfl rfl (by kernel_rfl) (by kernel_rfl) (by kernel_rfl) (fun _ _ _ h => h) ⟨.inl ⟨rfl, fun w => by simp [execOp, go_sem, hor]⟩, fun w => rfl⟩ ?_
            refine wpAnyIn_ready (rs := [8]) (by kernel_rfl) (by simp) (AllReadyIn.cons rfl (fun K hK => ?Z) AllReadyIn.nil)
            case Z =>
              simp [go_sem, execOp, d0, f0]
              refine hK _ _ ?_
              clear hK K
              refine wpAnyIn_done (by kernel_rfl) ?_ _
              have c1' : Boxed (W.setCell ⟨w.heap.size, 0, none⟩ (.int .i64 (val (pre ++ [x]) : Int))).drew (w.heap.size + 1) 3 (.int .i64 (pre.length : Int)) := c1.other (by omega) _
              have c2' : Boxed (W.setCell ⟨w.heap.size, 0, none⟩ (.int .i64 (val (pre ++ [x]) : Int))).drew (w.heap.size + 1 + 1) 5 (.int .u8 (lastB pre : Int)) := c2.other (by omega) _
              have d1' := c1'.cell
              have d2' := c2'.cell
              have f1' := c1'.frozen
              have f2' := c2'.frozen
              clear hsh hor hcl hcl' e1 e2 e3
              gi_wp2
              exact HFIN.out _ (by simp)
        case B =>
          simp [go_sem, execOp, d1]
          refine hK _ _ ?_
          clear hK K
          refine wpAnyIn_take (i := 5) (v := .int .i64 (7 * (pre.length : Int))) rfl rfl (by kernel_rfl) (by kernel_rfl) (by kernel_rfl) (fun _ _ _ h => h) ⟨.inl ⟨rfl, fun w => by simp [execOp, go_sem, e2]⟩, fun w => rfl⟩ ?_
          refine wpAnyIn_take (i := 6) (v := .int .i64 ((sh7 (x.toNat % 128) pre.length : Nat) : Int)) rfl rfl (by kernel_rfl) (by kernel_rfl) (by kernel_rfl) (fun _ _ _ h => h) ⟨.inl ⟨rfl, fun w => by simp [execOp, go_sem, e3]⟩, fun w => rfl⟩ ?_
          refine wpAnyIn_ready (rs := [0]) (by kernel_rfl) (by simp) (AllReadyIn.cons rfl (fun K hK => ?B2) AllReadyIn.nil)
          case B2 =>
            simp [go_sem, execOp, d0]
            refine hK _ _ ?_
            clear hK K
            refine wpAnyIn_take (i := 7) (v := .int .i64 (val (pre ++ [x]) : Int)) rfl rfl (by kernel_rfl) (by kernel_rfl) (by kernel_rfl) (fun _ _ _ h => h) ⟨.inl ⟨rfl, fun w => by simp [execOp, go_sem, hor]⟩, fun w => rfl⟩ ?_
            refine wpAnyIn_ready (rs := [8]) (by kernel_rfl) (by simp) (AllReadyIn.cons rfl (fun K hK => ?Z) AllReadyIn.nil)
            case Z =>
              simp [go_sem, execOp, d0, f0]
              refine hK _ _ ?_
              clear hK K
              refine wpAnyIn_done (by kernel_rfl) ?_ _
              have c1' : Boxed (W.setCell ⟨w.heap.size, 0, none⟩ (.int .i64 (val (pre ++ [x]) : Int))).drew (w.heap.size + 1) 3 (.int .i64 (pre.length : Int)) := c1.other (by omega) _
              have c2' : Boxed (W.setCell ⟨w.heap.size, 0, none⟩ (.int .i64 (val (pre ++ [x]) : Int))).drew (w.heap.size + 1 + 1) 5 (.int .u8 (lastB pre : Int)) := c2.other (by omega) _
              have d1' := c1'.cell
              have d2' := c2'.cell
              have f1' := c1'.frozen
              have f2' := c2'.frozen
              clear hsh hor hcl hcl' e1 e2 e3
              gi_wp2
              exact HFIN.out _ (by simp)
      case done =>
        rintro D ys W hD hys ⟨c0, c1, c2, hB⟩ hK
        have HV : Hid (intAt l (a : Int) = verdict ys) := by
          show intAt l (a : Int) = verdict ys
          unfold intAt
          rw [if_neg (by omega), hys]
          simp only [Int.toNat_natCast]
        have hvb : val ys < 9223372036854775808 := by
          have h1 := val_lt ys
          have h2 : ys.length ≤ 9 := by rw [hys]; exact ahead_len_le 9 _
          have h3 : 128 ^ ys.length ≤ 128 ^ 9 := Nat.pow_le_pow_right (by decide) h2
          have h4 : (128 : Nat) ^ 9 = 9223372036854775808 := by decide
          omega
        have hlb : lastB ys < 256 := by unfold lastB; exact UInt8.toNat_lt _
        have hln : ys.length ≤ 9 := by rw [hys]; exact ahead_len_le 9 _
        have HB' : Hid (Below w.heap.size w (W.putObj D (.deferred none))) := hB.trans (belowK_b (w := w) (Nat.le_refl _) W D _ _ (by omega) hK rfl rfl)
        have HBd : Hid (Below w.heap.size w (W.drew.putObj D (.deferred none))) := hB.drew.trans (belowK_b (w := w) (Nat.le_refl _) W.drew D _ _ (by omega) hK rfl rfl)
        clear hys
        have d0 := c0.cell
        have d1 := c1.cell
        have d2 := c2.cell
        unfold verdict at HV
        generalize lastB ys = la at *
        generalize val ys = vv at *
        generalize ys.length = sz at *
        by_cases k1 : 128 ≤ la
        · by_cases k2 : sz < 9
          · rw [if_pos ⟨k1, k2⟩] at HV
            gi_wp2
            refine ⟨by simp, .inl ⟨_, _, rfl, run_takeDeferred hK, ?_⟩⟩
            exact ⟨_, results_tmp3 rfl _ _ _, by rw [HV.out]; rfl, HB'.out⟩
          · rw [if_neg (by omega), if_pos k1] at HV
            have k2' : decide ((sz : Int) < 9) = false := by simp; omega
            gi_wp2
            refine ⟨by simp, .inl ⟨_, _, rfl, run_takeDeferred hK, ?_⟩⟩
            exact ⟨_, results_tmp3 rfl _ _ _, by rw [HV.out]; rfl, HB'.out⟩
        · rw [if_neg (by omega), if_neg k1] at HV
          have k1' : decide ((128 : Int) ≤ (la : Int)) = false := by simp; omega
          by_cases k3 : la = 0 ∧ 1 < sz
          · rw [if_pos k3] at HV
            obtain ⟨k3, k4⟩ := k3
            have k3' : ((la : Int) == 0) = true := by simp [k3]
            gi_wp2
            refine ⟨by simp, .inl ⟨_, _, rfl, run_takeDeferred hK, ?_⟩⟩
            exact ⟨_, results_tmp3 rfl _ _ _, by rw [HV.out]; rfl, HB'.out⟩
          · rw [if_neg k3] at HV
            have k5 : ((la : Int) == 0) = false ∨ (((la : Int) == 0) = true ∧ decide ((1 : Int) < (sz : Int)) = false) := by
              by_cases h : la = 0
              · exact .inr ⟨by simp [h], by simp; omega⟩
              · exact .inl (by rw [beq_eq_false_iff_ne]; omega)
            clear k3
            by_cases k6 : 4611686018427387904 < vv
            · rw [if_pos k6] at HV
              rcases k5 with k5 | ⟨k5, k5'⟩
              all_goals
                gi_wp2
                refine ⟨by simp, .inl ⟨_, _, rfl, run_takeDeferred hK, ?_⟩⟩
                exact ⟨_, results_tmp3 rfl _ _ _, by rw [HV.out]; rfl, HB'.out⟩
            · rw [if_neg k6] at HV
              rcases k5 with k5 | ⟨k5, k5'⟩
              all_goals
                gi_wp2
                gi_region
                all_goals gi_wp2
                all_goals
                  refine ⟨by simp, .inl ⟨_, _, rfl, run_takeDeferred (w := W.drew) hK, ?_⟩⟩
                  exact ⟨_, results_tmp3 rfl _ _ _, by rw [HV.out]; rfl, HBd.out⟩
      case stop =>
        rintro D c pre W _ _ h _
        exact h.elim

theorem wInt_any (N : Nat) (v : Value) (l : List UInt8) (i : Int) (w : World) (hN : N ≤ w.heap.size) (hv : Sl N w v l) :
    Calls Try.prog 106 #[v, .int .i64 i] w fun e w' => e = .returned (tup3 (intAt l i)) ∧ Below w.heap.size w w' :=
  callsIn_wide.1 (wInt_in 3 (by decide) N v l i w hN hv)
end Go.Proofs.Ytfnnbfgfmbiabab
