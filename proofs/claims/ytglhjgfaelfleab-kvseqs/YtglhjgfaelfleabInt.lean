/-
  wire.Int: at any place of any bytes what the document says.
-/
import Derived.Test.YtglhjgfaelfleabAhead
import Derived.Test.YtglhjgfaelfleabRound
namespace Go.Proofs.Ytglhjgfaelfleab
open Go.RowKit Go.Shelf
attribute [local go_sem] Oper.semAt_some

/-- Seven bits, moved up. -/
def sh7 (c k : Nat) : Nat := c * 128 ^ k

theorem sh7_run (x : UInt8) (k : Nat) (hk : k ≤ 8) :
    Op.shift BinOp.shl IntKind.i64 (IntKind.i64.wrap ((x.toNat : Int) % 128)) IntKind.i64 (IntKind.i64.wrap (7 * (k : Int))) = pure (.int .i64 ((sh7 (x.toNat % 128) k : Nat) : Int)) := by
  have e1 : IntKind.i64.wrap ((x.toNat : Int) % 128) = (x.toNat : Int) % 128 := by rw [IntKind.wrap_i64]; omega
  have e2 : IntKind.i64.wrap (7 * (k : Int)) = 7 * (k : Int) := by rw [IntKind.wrap_i64]; omega
  rw [e1, e2, shift_shl_i64 _ _ _ (by omega) (by omega)]
  have h3 : (128 : Nat) ^ k ≤ 128 ^ 8 := Nat.pow_le_pow_right (by decide) hk
  have h4 : (128 : Nat) ^ 8 = 72057594037927936 := by decide
  have h5 : (x.toNat % 128) * 128 ^ k ≤ 127 * 72057594037927936 := Nat.mul_le_mul (by omega) (by omega)
  have e3 : (7 * (k : Int)).toNat = 7 * k := by omega
  have e4 : ((x.toNat : Int) % 128) * 2 ^ (7 * k) = ((sh7 (x.toNat % 128) k : Nat) : Int) := by
    unfold sh7
    have e5 : (128 : Nat) ^ k = 2 ^ (7 * k) := by rw [Nat.pow_mul]
    rw [e5]
    simp
  rw [e3, e4]
  have h6 : sh7 (x.toNat % 128) k ≤ 127 * 72057594037927936 := h5
  congr 2
  rw [IntKind.wrap_i64]; omega

theorem sh7_wrap (x : UInt8) (k : Nat) (hk : k ≤ 8) : IntKind.i64.wrap ((x.toNat : Int) % 128 * 2 ^ (7 * (k : Int)).toNat) = ((sh7 (x.toNat % 128) k : Nat) : Int) := by
  have h := sh7_run x k hk
  have e1 : IntKind.i64.wrap ((x.toNat : Int) % 128) = (x.toNat : Int) % 128 := by rw [IntKind.wrap_i64]; omega
  have e2 : IntKind.i64.wrap (7 * (k : Int)) = 7 * (k : Int) := by rw [IntKind.wrap_i64]; omega
  rw [e1, e2, shift_shl_i64 _ _ _ (by omega) (by omega)] at h
  have := congrArg (fun s => s.run Try.prog default) h
  simpa using this

theorem lastB_one (pre : List UInt8) (x : UInt8) : lastB (pre ++ [x]) = x.toNat := lastB_snoc pre x

/-- What one round leaves. -/
theorem int_round {W w : World} {pre : List UInt8} {x : UInt8} (B : Nat) (c0 : Boxed W w.heap.size 3 (.int .i64 (val pre : Int))) (c1 : Boxed W (w.heap.size + 1) 3 (.int .i64 (pre.length : Int))) (c2 : Boxed W (w.heap.size + 1 + 1) 5 (.int .u8 (lastB pre : Int))) (hB : Below w.heap.size w W)
    (W3 : World) (hW3 : W3 = ((((W.setCell ⟨w.heap.size, 0, none⟩ (.int .i64 (val (pre ++ [x]) : Int))).setCell ⟨w.heap.size + 1, 0, none⟩ (.int .i64 ((pre.length : Int) + 1))).setCell ⟨w.heap.size + 1 + 1, 0, none⟩ (.int .u8 (x.toNat : Int)))).drew) :
    KeepsFrom B W W3 ∧ Below w.heap.size W W3 ∧ Boxed W3 w.heap.size 3 (.int .i64 (val (pre ++ [x]) : Int)) ∧ Boxed W3 (w.heap.size + 1) 3 (.int .i64 ((pre ++ [x]).length : Int)) ∧ Boxed W3 (w.heap.size + 1 + 1) 5 (.int .u8 (lastB (pre ++ [x]) : Int)) ∧ Below w.heap.size w W3 := by
  subst hW3
  have hb : Below w.heap.size W ((((W.setCell ⟨w.heap.size, 0, none⟩ (.int .i64 (val (pre ++ [x]) : Int))).setCell ⟨w.heap.size + 1, 0, none⟩ (.int .i64 ((pre.length : Int) + 1))).setCell ⟨w.heap.size + 1 + 1, 0, none⟩ (.int .u8 (x.toNat : Int)))).drew :=
    ((((Below.refl _ W).setCell (p := ⟨w.heap.size, 0, none⟩) (Nat.le_refl _) _).setCell (p := ⟨w.heap.size + 1, 0, none⟩) (by simp) _).setCell (p := ⟨w.heap.size + 1 + 1, 0, none⟩) (by simp; omega) _).drew
  refine ⟨(((((KeepsOthers.setCell _ _ _).trans (KeepsOthers.setCell _ _ _)).trans (KeepsOthers.setCell _ _ _)).trans (KeepsOthers.drew _))).from _, hb, ?_, ?_, ?_, hB.trans hb⟩
  · exact ((c0.set _).other (by omega) _).other (by omega) _
  · have := (((c1.other (B' := w.heap.size) (by omega) (.int .i64 (val (pre ++ [x]) : Int))).set (.int .i64 ((pre.length : Int) + 1))).other (B' := w.heap.size + 1 + 1) (by omega) (.int .u8 (x.toNat : Int)))
    have e : (((pre ++ [x]).length : Nat) : Int) = (pre.length : Int) + 1 := by simp
    rw [e]; exact this
  · rw [lastB_one]
    exact ((c2.other (by omega) _).other (by omega) _).set _

theorem sh7_or (pre : List UInt8) (x : UInt8) (hk : pre.length ≤ 8) : bits .or .i64 (val pre : Int) ((sh7 (x.toNat % 128) pre.length : Nat) : Int) = (val (pre ++ [x]) : Int) := by
  have := lay_above (val pre) (x.toNat % 128) pre.length hk (val_lt pre) (by omega)
  unfold sh7
  rw [this, val_append]; simp [val]

end Go.Proofs.Ytglhjgfaelfleab
