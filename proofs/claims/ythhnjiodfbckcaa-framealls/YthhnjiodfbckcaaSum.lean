/-
  The sum: frame's shifted, sumOf, Sum and the document's step, Sum.
-/
import Derived.Test.YthhnjiodfbckcaaMem
import Derived.Laws.Bits64b
namespace Go.Proofs.Ythhnjiodfbckcaa
open Go.RowKit Go.Shelf

theorem ofInt_toNat32 (x : BitVec 32) : BitVec.ofInt 32 (x.toNat : Int) = x := by
  apply BitVec.eq_of_toNat_eq
  have := x.isLt
  simp only [BitVec.toNat_ofInt]
  omega

theorem wrap_u32_nat (n : Nat) (h : n < 4294967296) : IntKind.u32.wrap (n : Int) = (n : Int) := by
  rw [IntKind.wrap_u32]; omega

theorem xor_u32 (x y : BitVec 32) : bits .xor .u32 (x.toNat : Int) (y.toNat : Int) = ((x ^^^ y).toNat : Int) := by
  show IntKind.u32.wrap ((BitVec.ofInt 32 (x.toNat : Int) ^^^ BitVec.ofInt 32 (y.toNat : Int)).toNat : Int) = _
  rw [ofInt_toNat32, ofInt_toNat32]
  exact wrap_u32_nat _ (x ^^^ y).isLt

theorem and_u32 (x y : BitVec 32) : bits .and .u32 (x.toNat : Int) (y.toNat : Int) = ((x &&& y).toNat : Int) := by
  show IntKind.u32.wrap ((BitVec.ofInt 32 (x.toNat : Int) &&& BitVec.ofInt 32 (y.toNat : Int)).toNat : Int) = _
  rw [ofInt_toNat32, ofInt_toNat32]
  exact wrap_u32_nat _ (x &&& y).isLt

theorem or_u32 (x y : BitVec 32) : bits .or .u32 (x.toNat : Int) (y.toNat : Int) = ((x ||| y).toNat : Int) := by
  show IntKind.u32.wrap ((BitVec.ofInt 32 (x.toNat : Int) ||| BitVec.ofInt 32 (y.toNat : Int)).toNat : Int) = _
  rw [ofInt_toNat32, ofInt_toNat32]
  exact wrap_u32_nat _ (x ||| y).isLt

theorem lsb_mod (d : BitVec 32) : d.getLsbD 0 = decide (d.toNat % 2 = 1) := by
  rw [BitVec.getLsbD, Nat.testBit_zero]

theorem shr1_toNat (d : BitVec 32) : (d >>> 1).toNat = d.toNat / 2 := by
  rw [BitVec.toNat_ushiftRight, Nat.shiftRight_eq_div_pow]

theorem and1_u32 (d : BitVec 32) : bits .and .u32 (d.toNat : Int) 1 = ((d.toNat % 2 : Nat) : Int) := by
  have := and_u32 d 1#32
  rw [show ((1#32 : BitVec 32).toNat : Int) = 1 from rfl] at this
  rw [this, BitVec.toNat_and, show (1#32 : BitVec 32).toNat = 1 from rfl, Nat.and_one_is_mod]

theorem shifted_step (d : BitVec 32) : bits .xor .u32 ((d.toNat : Int) / 2) (2197175160 * bits .and .u32 (d.toNat : Int) 1 % 4294967296) = ((sh d).toNat : Int) := by
  rw [and1_u32]
  have h1 : (d.toNat : Int) / (2 : Int) = ((d >>> 1).toNat : Int) := by rw [shr1_toNat]; omega
  rw [h1]
  unfold sh
  rw [← xor_u32, lsb_mod]
  congr 1
  rcases Nat.mod_two_eq_zero_or_one d.toNat with h | h
  · simp [h]
  · simp [h, poly]

theorem shN_snoc (k : Nat) (hk : k < 8) (d : BitVec 32) : shN (8 - k) d = shN (8 - (k + 1)) (sh d) := by
  obtain ⟨j, hj⟩ : ∃ j, 8 - k = j + 1 := ⟨8 - k - 1, by omega⟩
  rw [hj, show 8 - (k + 1) = j by omega]; rfl

set_option maxHeartbeats 400000 in
theorem shifted_any (c : BitVec 32) (w : World) : Calls Try.prog 40 #[.int .u32 (c.toNat : Int)] w fun e w' => e = .returned (.int .u32 ((shN 8 c).toNat : Int)) ∧ w' = w := by
  go_enter Try.func40, Try.ntmps40
  go_wp2
  go_loop [0, 3] (fun s i => ∃ (k : Nat) (d : BitVec 32), i = .int .i64 (k : Int) ∧ s = .int .u32 (d.toNat : Int) ∧ k ≤ 8 ∧ shN (8 - k) d = shN 8 c) (fun _ i => 8 - (intOf i).toNat)
  case atStart => exact ⟨0, c, rfl, rfl, by omega, rfl⟩
  case round =>
    obtain ⟨k, d, rfl, rfl, hk, hd⟩ := hrel
    have HD : Hid (shN (8 - k) d = shN 8 c) := hd
    clear hd
    have hdl := d.isLt
    by_cases hlt : k < 8
    · go_wp2
      go_round
      case rel => 
        refine ⟨k + 1, sh d, by go_num, by rw [shifted_step], by omega, ?_⟩
        rw [← shN_snoc k hlt]; exact HD.out
      case measure => simp [intOf]; omega
    · go_wp2
      go_ret
      have := HD.out
      rw [show 8 - k = 0 by omega] at this
      exact ⟨by rw [← this]; rfl, rfl⟩

theorem shifted_byte (d : BitVec 32) (x : UInt8) (w : World) : Calls Try.prog 40 #[.int .u32 ((d.toNat ^^^ x.toNat : Nat) : Int)] w fun e w' => e = .returned (.int .u32 ((crcStep d x).toNat : Int)) ∧ w' = w := by
  have := shifted_any (d ^^^ BitVec.ofNat 32 x.toNat) w
  rw [BitVec.toNat_xor, BitVec.toNat_ofNat, Nat.mod_eq_of_lt (by have := x.toNat_lt; omega)] at this
  exact this

theorem sh_even (d : BitVec 32) (h : d.toNat % 2 = 0) : ((d.toNat : Int) / 2) = ((sh d).toNat : Int) := by
  unfold sh
  rw [lsb_mod, h]
  simp only [Nat.zero_ne_one, decide_false, Bool.false_eq_true, if_false, BitVec.xor_zero, shr1_toNat]
  omega

theorem sh_odd (d : BitVec 32) (h : d.toNat % 2 = 1) : bits .xor .u32 ((d.toNat : Int) / 2) 2197175160 = ((sh d).toNat : Int) := by
  have h1 : (d.toNat : Int) / (2 : Int) = ((d >>> 1).toNat : Int) := by rw [shr1_toNat]; omega
  unfold sh
  rw [lsb_mod, h, h1]
  simp only [decide_true, if_true]
  exact xor_u32 _ poly

theorem xbyte_u32 (c : BitVec 32) (x : UInt8) : bits .xor .u32 (c.toNat : Int) (x.toNat : Int) = ((c ^^^ BitVec.ofNat 32 x.toNat).toNat : Int) := by
  rw [← xor_u32]
  congr 1
  have := x.toNat_lt
  simp only [BitVec.toNat_ofNat]
  omega

set_option maxHeartbeats 400000 in
theorem step_any (c : BitVec 32) (x : UInt8) (w : World) : Calls Try.prog 34 #[.int .u32 (c.toNat : Int), encB x] w fun e w' => e = .returned (.int .u32 ((crcStep c x).toNat : Int)) ∧ w' = w := by
  unfold crcStep encB
  have hxl := x.toNat_lt
  have hcl := c.isLt
  go_enter Try.func34, Try.ntmps34
  go_wp2
  go_loop [0, 5] (fun s i => ∃ (k : Nat) (d : BitVec 32), i = .int .i64 (k : Int) ∧ s = .int .u32 (d.toNat : Int) ∧ k ≤ 8 ∧ shN (8 - k) d = shN 8 (c ^^^ BitVec.ofNat 32 x.toNat)) (fun _ i => 8 - (intOf i).toNat)
  case atStart => exact ⟨0, _, rfl, by rw [xbyte_u32], by omega, rfl⟩
  case round =>
    obtain ⟨k, d, rfl, rfl, hk, hd⟩ := hrel
    have HD : Hid (shN (8 - k) d = shN 8 (c ^^^ BitVec.ofNat 32 x.toNat)) := hd
    clear hd
    have hdl := d.isLt
    by_cases hlt : k < 8
    · rcases Nat.mod_two_eq_zero_or_one d.toNat with h | h
      · have h' : ((d.toNat : Int) % 2 == 1) = false := by rw [beq_eq_false_iff_ne]; omega
        go_wp2
        go_round
        case rel => 
          refine ⟨k + 1, sh d, by go_num, by rw [sh_even d h], by omega, ?_⟩
          rw [← shN_snoc k hlt]; exact HD.out
        case measure => simp [intOf]; omega
      · have h' : ((d.toNat : Int) % 2 == 1) = true := by rw [beq_iff_eq]; omega
        go_wp2
        go_round
        case rel => 
          refine ⟨k + 1, sh d, by go_num, by rw [sh_odd d h], by omega, ?_⟩
          rw [← shN_snoc k hlt]; exact HD.out
        case measure => simp [intOf]; omega
    · go_wp2
      go_ret
      have := HD.out
      rw [show 8 - k = 0 by omega] at this
      exact ⟨by rw [← this]; rfl, rfl⟩

/-- v is a slice of slices of bytes that reads ls, in blocks below N. -/
def Sls (N : Nat) (W : World) (v : Value) (ls : List (List UInt8)) : Prop :=
  ∃ (a : Option Addr) (cap : Nat), v = .slice a ls.length cap ∧ ls.length ≤ cap ∧ cap ≤ maxLen ∧
    (ls = [] ∨ ∃ b off, a = some ⟨b, off, none⟩ ∧ b < N ∧ ∀ i, i < ls.length → ∃ u, W.cell? ⟨b, off + i, none⟩ = some u ∧ Sl N W u (ls[i]?.getD []))

theorem crc_all (ls : List (List UInt8)) : ((~~~ (crcRun (BitVec.allOnes 32) (ls.take ls.length).flatten)).toNat) = crc ls.flatten := by
  rw [List.take_length]; rfl

theorem run_take_snoc (c : BitVec 32) (l : List UInt8) (k : Nat) (h : k < l.length) : crcRun c (l.take (k + 1)) = crcStep (crcRun c (l.take k)) (l[k]?.getD 0) := by
  rw [List.take_succ_eq_append_getElem h, crcRun_append, List.getElem?_eq_getElem h]; rfl

theorem run_takes_snoc (ls : List (List UInt8)) (k : Nat) (h : k < ls.length) : crcRun (crcRun (BitVec.allOnes 32) (ls.take k).flatten) (ls[k]?.getD []) = crcRun (BitVec.allOnes 32) (ls.take (k + 1)).flatten := by
  rw [List.take_succ_eq_append_getElem h, List.flatten_append, crcRun_append, List.getElem?_eq_getElem h]; simp

theorem not_u32 (c : BitVec 32) : bits .xor .u32 IntKind.u32.max (c.toNat : Int) = ((~~~ c).toNat : Int) := by
  rw [show IntKind.u32.max = ((BitVec.allOnes 32).toNat : Int) from rfl, xor_u32, BitVec.allOnes_xor]

set_option maxRecDepth 100000 in
set_option maxHeartbeats 1000000 in
theorem sumOf_any (N : Nat) (v : Value) (ls : List (List UInt8)) (w : World) (hv : Sls N w v ls) :
    Calls Try.prog 30 #[v] w fun e w' => e = .returned (.int .u32 (crc ls.flatten : Int)) ∧ w' = w := by
  obtain ⟨a, cap, rfl, h1, h2, h3⟩ := hv
  unfold maxLen at h2
  go_enter Try.func30, Try.ntmps30
  go_wp2
  go_loop [3, 10] (fun s i => ∃ (k : Nat) (c : BitVec 32), i = .int .i64 (k : Int) ∧ s = .int .u32 (c.toNat : Int) ∧ k ≤ ls.length ∧ c = crcRun (BitVec.allOnes 32) (ls.take k).flatten) (fun _ i => ls.length - (intOf i).toNat)
  case atStart => exact ⟨0, BitVec.allOnes 32, rfl, rfl, by omega, rfl⟩
  case round =>
    obtain ⟨k, c, rfl, rfl, hk, hc⟩ := hrel
    have HC : Hid (c = crcRun (BitVec.allOnes 32) (ls.take k).flatten) := hc
    clear hc
    have hcl := c.isLt
    by_cases hlt : k < ls.length
    · obtain ⟨b, off, rfl, -, h4⟩ := h3.resolve_left (by intro h; rw [h] at hlt; simp at hlt)
      obtain ⟨u, hu, a1, cap1, rfl, hl1, hl2, hl3⟩ := h4 k hlt
      clear h4 h3
      have HT : Hid (crcRun c (ls[k]?.getD []) = crcRun (BitVec.allOnes 32) (ls.take (k + 1)).flatten) := by
        show _ = _
        rw [HC.out]; exact run_takes_snoc ls k hlt
      generalize ls[k]?.getD [] = l at *
      unfold maxLen at hl2
      go_wp2
      go_loop [3, 16] (fun s i => ∃ (j : Nat) (d : BitVec 32), i = .int .i64 (j : Int) ∧ s = .int .u32 (d.toNat : Int) ∧ j ≤ l.length ∧ d = crcRun c (l.take j)) (fun _ i => l.length - (intOf i).toNat)
      case atStart => exact ⟨0, c, rfl, rfl, by omega, rfl⟩
      case round =>
        obtain ⟨j, d, rfl, rfl, hj, hd⟩ := hrel
        have HD : Hid (d = crcRun c (l.take j)) := hd
        clear hd
        have hdl := d.isLt
        by_cases hlt2 : j < l.length
        · obtain ⟨b1, off1, rfl, -, h5⟩ := hl3.resolve_left (by intro h; rw [h] at hlt2; simp at hlt2)
          have hcell := h5 j hlt2
          clear h5 hl3
          have HS : Hid (crcRun c (l.take (j + 1)) = crcStep d (l[j]?.getD 0)) := by
            show _ = _
            rw [HD.out]; exact run_take_snoc c l j hlt2
          unfold encB at hcell
          generalize l[j]?.getD 0 = x at *
          have hx := xbyte_u32 d x
          have hxl := x.toNat_lt
          go_wp2_with (go_at_call 40; refine (shifted_byte d x _).mono ?_; rintro e w' ⟨rfl, hw⟩; subst w')
          go_round
          case rel => exact ⟨j + 1, crcStep d x, by go_num, rfl, by omega, HS.out.symm⟩
          case measure => simp [intOf]; omega
        · clear hl3
          go_wp2
          go_round
          case rel => 
            refine ⟨k + 1, d, by go_num, rfl, by omega, ?_⟩
            rw [← HT.out, HD.out, List.take_of_length_le (by omega)]
          case measure => simp [intOf]; omega
    · clear h3
      have HE : Hid (bits .xor .u32 IntKind.u32.max (c.toNat : Int) = (crc ls.flatten : Int)) := by
        show _ = _
        rw [not_u32, HC.out, show k = ls.length by omega, crc_all]
      go_wp2
      go_ret
      exact ⟨by rw [← HE.out]; rfl, rfl⟩

set_option maxRecDepth 100000 in
set_option maxHeartbeats 1000000 in
/-- The document's Sum. -/
theorem refSum_any (N : Nat) (v : Value) (l : List UInt8) (w : World) (hv : Sl N w v l) :
    Calls Try.prog 16 #[v] w fun e w' => e = .returned (.int .u32 (crc l : Int)) ∧ w' = w := by
  obtain ⟨a, cap, rfl, h1, h2, h3⟩ := hv
  unfold maxLen at h2
  go_enter Try.func16, Try.ntmps16
  go_wp2
  go_loop [3, 4] (fun s i => ∃ (k : Nat) (c : BitVec 32), i = .int .i64 (k : Int) ∧ s = .int .u32 (c.toNat : Int) ∧ k ≤ l.length ∧ c = crcRun (BitVec.allOnes 32) (l.take k)) (fun _ i => l.length - (intOf i).toNat)
  case atStart => exact ⟨0, BitVec.allOnes 32, rfl, rfl, by omega, rfl⟩
  case round =>
    obtain ⟨k, c, rfl, rfl, hk, hc⟩ := hrel
    have HC : Hid (c = crcRun (BitVec.allOnes 32) (l.take k)) := hc
    clear hc
    have hcl := c.isLt
    by_cases hlt : k < l.length
    · obtain ⟨b, off, rfl, -, h4⟩ := h3.resolve_left (by intro h; rw [h] at hlt; simp at hlt)
      have hcell := h4 k hlt
      clear h4 h3
      have HS : Hid (crcRun (BitVec.allOnes 32) (l.take (k + 1)) = crcStep c (l[k]?.getD 0)) := by
        show _ = _
        rw [HC.out]; exact run_take_snoc _ l k hlt
      generalize l[k]?.getD 0 = x at *
      go_wp2_with (go_at_call 34; refine (step_any c x _).mono ?_; rintro e w' ⟨rfl, hw⟩; subst w')
      go_round
      case rel => exact ⟨k + 1, crcStep c x, by go_num, rfl, by omega, HS.out.symm⟩
      case measure => simp [intOf]; omega
    · clear h3
      have HE : Hid (bits .xor .u32 IntKind.u32.max (c.toNat : Int) = (crc l : Int)) := by
        show _ = _
        rw [not_u32, HC.out, show k = l.length by omega, List.take_length]; rfl
      go_wp2
      go_ret
      exact ⟨by rw [← HE.out]; rfl, rfl⟩

/-- Pieces that lie in a block that was just made. -/
theorem sls_new {w : World} {N : Nat} (ls : List (List UInt8)) (vs : List Value) (hn : 0 < ls.length) (hm : ls.length ≤ 1000) (hN : N ≤ w.heap.size) (hlen : vs.length = ls.length) (h : ∀ i, i < ls.length → Sl N w (vs[i]?.getD undef) (ls[i]?.getD [])) (t : TypeId) :
    Sls (w.heap.size + 1) (w.alloc (.cells vs.toArray t)) (.slice (some ⟨w.heap.size, 0, none⟩) ls.length ls.length) ls := by
  refine ⟨_, _, rfl, Nat.le_refl _, by unfold maxLen; omega, .inr ⟨_, _, rfl, by omega, fun i hi => ?_⟩⟩
  have hh : (w.alloc (.cells vs.toArray t)).heap[w.heap.size]? = some (.cells vs.toArray t) := World.alloc_heap_new w _
  have hB0 : Below w.heap.size w (w.alloc (.cells vs.toArray t)) := (Below.refl _ w).alloc (Nat.le_refl _) _
  refine ⟨vs[i]?.getD undef, ?_, (((h i hi).mono hN).below hB0).mono (by omega)⟩
  have : i < vs.length := by omega
  simp only [World.cell?, hh, Nat.zero_add]
  simp [List.getElem?_eq_getElem this]

set_option maxRecDepth 100000 in
set_option maxHeartbeats 1000000 in
/-- frame.Sum -/
theorem sum_any (N : Nat) (v : Value) (l : List UInt8) (w : World) (hv : Sl N w v l) (hN : N ≤ w.heap.size) :
    Calls Try.prog 11 #[v] w fun e w' => e = .returned (.int .u32 (crc l : Int)) ∧ Below w.heap.size w w' := by
  obtain ⟨a, cap, rfl, -⟩ := id hv
  have hS := sls_new (w := w) (N := N) [l] [.slice a l.length cap] (by simp) (by simp) hN rfl (by intro i hi; obtain rfl : i = 0 := (by simpa using hi); simpa using hv) 22
  go_enter Try.func11, Try.ntmps11
  go_wp2_with fail
  refine (sumOf_any _ _ [l] _ hS).mono ?_
  rintro e w' ⟨rfl, hw⟩
  subst w'
  go_wp2
  go_ret
  exact ⟨by simp, (Below.refl _ w).alloc (Nat.le_refl _) _⟩
end Go.Proofs.Ythhnjiodfbckcaa
