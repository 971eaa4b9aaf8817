/-
  What the document's own PutInt answers: for every number its bytes in new memory, else none and the error 1.
-/
import Derived.Test.YtfnnbfgfmbiababLeaf
namespace Go.Proofs.Ytfnnbfgfmbiabab
open Go.RowKit

theorem info5 : (Try.prog.info? 5).map (fun i => (i.zero, i.size, i.bytes)) = some (some (.int .u8 0), 1, 1) := by kernel_rfl

/-- The bytes of a number, none of what is no number. -/
def putB (n : Int) : List UInt8 := if isNumB n then numB n.toNat else []
def putE (n : Int) : Int := if isNumB n then 0 else 1

theorem putB_len (n : Int) : (putB n).length ≤ 10 := by
  unfold putB; split
  · exact num_len_le 9 _
  · simp

/-- v is a slice of bytes of the call's own, from block N on, that reads l. -/
def Ow (N : Nat) (W : World) (v : Value) (l : List UInt8) : Prop := W.ownsRow N 5 1 v l.length (l.map encB)

theorem encB_one (x : UInt8) : (encB x).oneCell' = true := rfl

/-- One byte more, behind an append of the call's own. -/
theorem Ow.snoc {N : Nat} {w' : World} {v' : Value} {l : List UInt8} {x : UInt8} {u : Value} (hu : u = encB x) (h : w'.ownsRow N 5 1 v' (l.length + 1) (l.map encB ++ [u])) : Ow N w' v' (l ++ [x]) := by
  subst hu; unfold Ow; simpa using h

theorem u8_lo (q : Nat) (h : q < 128) : Value.int .u8 (q : Int) = encB (UInt8.ofNat q) := by
  simp [encB]; omega
theorem u8_hi (q : Nat) : Value.int .u8 (((q % 128 + 128 : Nat)) : Int) = encB (UInt8.ofNat (q % 128 + 128)) := by
  simp [encB]; omega

set_option maxRecDepth 100000 in
set_option maxHeartbeats 1000000 in
theorem refPut_any (n : Int) (w : World) : Calls Try.prog 79 #[.int .i64 n] w fun e w' => ∃ v, e = .returned (.tuple #[v, .int .i64 (putE n)]) ∧ Ow w.heap.size w' v (putB n) ∧ Below w.heap.size w w' := by
  obtain ⟨i0, hi, hz0, hz1, hz2⟩ := info_parts info5
  by_cases hN : isNumB n = true
  · have e1 : putE n = 0 := by simp [putE, hN]
    have e2 : putB n = numB n.toNat := by simp [putB, hN]
    rw [e1, e2]
    have hs : sizeOf' n = (numB n.toNat).length := by simp [sizeOf', hN]
    have hpos := num_len_pos 9 n.toNat
    have hrange : 0 ≤ n ∧ n ≤ 4611686018427387904 := by simpa [isNumB] using hN
    clear e1 e2 hN
    obtain ⟨h0, h1⟩ := hrange
    obtain ⟨m, rfl⟩ := Int.eq_ofNat_of_zero_le h0
    have hcall := fun w => refSize_any (m : Int) w
    rw [hs] at hcall
    have ht : (((numB (m : Int).toNat).length : Int) == 0) = false := by rw [beq_eq_false_iff_ne]; unfold numB; omega
    simp only [Int.toNat_natCast] at *
    have HC := hcall
    clear hs hpos h0
    go_enter Try.func79, Try.ntmps79
    go_wp2_with (go_at_call 102; refine (hcall _).mono ?_; rintro e w' ⟨rfl, rfl⟩)
    go_loopw [0, 4] (fun a v wr => ∃ (f q : Nat) (pre : List UInt8), a = .int .i64 (q : Int) ∧ wr.ownsRow w'.heap.size 5 1 v pre.length (pre.map encB) ∧ q < 128 ^ (f + 1) ∧ f ≤ 9 ∧ q ≤ 4611686018427387904 ∧ pre ++ num f q = numB m ∧ pre.length + f = 9 ∧ Below w'.heap.size w' wr) (fun a _ _ => (intOf a).toNat)
    case atStart => exact ⟨9, m, [], rfl, World.ownsRow_nil _ _ _ _, by have : (128:Nat)^10 = 1180591620717411303424 := by decide
                                                                        omega, by omega, by omega, rfl, rfl, Below.refl _ _⟩
    case round =>
      obtain ⟨f, q, pre, rfl, hown, hq, hf, hq2, hl, hpl, hB⟩ := hrel
      have HQ : Hid (q < 128 ^ (f + 1)) := hq
      have HL : Hid (pre ++ num f q = numB m) := hl
      have hpl' : pre.length ≤ 9 := by omega
      have HP : Hid (pre.length + f = 9) := hpl
      have hsz := hB.size
      clear hq hl hpl
      by_cases hlt : 128 ≤ q
      · go_wp2_with (at_builtin; refine wpList_append_own _ rfl _ _ 23 rfl w'.heap.size 5 i0 (.int .u8 0) 1 1 Try.underlying23 hi hz0 hz1 hz2 rfl (by decide) _ _ _ rfl (hown.alloc _) ⟨wr.heap.size, 0, none⟩ 1 1 [.int .u8 ((q : Int) % 128 + 128)] rfl rfl (cell_one_new _ _ _) (by intro u hu; simp at hu; subst hu; rfl) (by unfold maxLen; omega) (by omega) (by simp; omega) ?_; intro v' w1 hown' hgrow _)
        have hB1 : Below w'.heap.size w' w1 := (hB.alloc hsz _).grown hgrow (by simp; omega) (fun k hk => (hown.lt k hk).1)
        have hO := Ow.snoc (x := UInt8.ofNat (q % 128 + 128)) (by rw [← u8_hi]; simp) hown'
        clear hown' hgrow hown hB
        go_wp2
        go_roundw
        case rel =>
          cases f with
          | zero => have := HQ.out; simp at this; omega
          | succ f =>
            refine ⟨f, q / 128, _, by go_num, hO, ?_, by omega, by omega, ?_, ?_, hB1⟩
            · have := HQ.out; rw [Nat.pow_succ] at this; omega
            · have := HL.out; rw [num_ge hlt] at this; simpa using this
            · have := HP.out; simp; omega
        case measure => simp [intOf]; omega
      · go_wp2_with (at_builtin; refine wpList_append_own _ rfl _ _ 23 rfl w'.heap.size 5 i0 (.int .u8 0) 1 1 Try.underlying23 hi hz0 hz1 hz2 rfl (by decide) _ _ _ rfl (hown.alloc _) ⟨wr.heap.size, 0, none⟩ 1 1 [.int .u8 (q : Int)] rfl rfl (cell_one_new _ _ _) (by intro u hu; simp at hu; subst hu; rfl) (by unfold maxLen; omega) (by omega) (by simp; omega) ?_; intro v' w1 hown' hgrow _)
        have hB1 : Below w'.heap.size w' w1 := (hB.alloc hsz _).grown hgrow (by simp; omega) (fun k hk => (hown.lt k hk).1)
        have hO := Ow.snoc (x := UInt8.ofNat q) (by rw [u8_lo q (by omega)]) hown'
        clear hown' hgrow hown hB
        go_wp2
        go_ret2
        refine ⟨_, rfl, ?_, hB1⟩
        have := HL.out
        rw [num_lt (by omega)] at this
        rw [← this]; exact hO
  · have hN' : isNumB n = false := by simpa using hN
    have e1 : putE n = 1 := by simp [putE, hN']
    have e2 : putB n = [] := by simp [putB, hN']
    rw [e1, e2]
    have hs : sizeOf' n = 0 := by simp [sizeOf', hN']
    have hcall := fun w => refSize_any n w
    rw [hs] at hcall
    clear e1 e2 hN hN' hs
    go_enter Try.func79, Try.ntmps79
    go_wp2_with (go_at_call 102; refine (hcall _).mono ?_; rintro e w' ⟨rfl, rfl⟩)
    go_ret2
    exact ⟨_, rfl, World.ownsRow_nil _ _ _ _, Below.refl _ _⟩
end Go.Proofs.Ytfnnbfgfmbiabab
