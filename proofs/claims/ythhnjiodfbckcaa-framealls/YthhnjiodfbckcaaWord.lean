/-
  Four bytes of a number, written and read: frame's appendWord, wordOf; the document's four, whole.
-/
import Derived.Test.YthhnjiodfbckcaaSum
namespace Go.Proofs.Ythhnjiodfbckcaa
open Go.RowKit Go.Shelf

theorem encB_ofNat (m : Nat) : encB (UInt8.ofNat m) = .int .u8 ((m : Int) % 256) := by
  unfold encB
  rw [UInt8.toNat_ofNat']
  congr 1

theorem le4_take (n k : Nat) (h : k < 4) : (le4 n).take (k + 1) = (le4 n).take k ++ [UInt8.ofNat (n / 2 ^ (8 * k))] := by
  rcases (by omega : k = 0 ∨ k = 1 ∨ k = 2 ∨ k = 3) with rfl | rfl | rfl | rfl <;> simp [le4]

theorem le4_take_len (n k : Nat) (h : k ≤ 4) : ((le4 n).take k).length = k := by simp [le4]; omega

set_option maxRecDepth 100000 in
set_option maxHeartbeats 1000000 in
theorem appendWord_any (N : Nat) (v : Value) (l : List UInt8) (n : Nat) (w : World) (hN : N ≤ w.heap.size) (hl : l.length ≤ 1073741824) (hv : Ow N w v l) :
    Calls Try.prog 41 #[v, .int .u32 (n : Int)] w fun e w' => ∃ v', e = .returned v' ∧ Ow N w' v' (l ++ le4 n) ∧ w.grownBy w' v.ownBlock ∧ SameOrNew w v v' := by
  obtain ⟨a, cap, rfl, -⟩ := hv.shape
  generalize hv0 : Value.slice a l.length cap = v0 at hv
  have HV0 : Hid (Value.slice a l.length cap = v0) := hv0
  clear hv0
  go_enter Try.func41, Try.ntmps41
  rw [← HV0.out]
  go_wp2
  go_loopw [0, 5] (fun o i wr => ∃ k : Nat, i = .int .i64 (8 * k : Int) ∧ k ≤ 4 ∧ ∃ a1 cap1, o = .slice a1 (l.length + k) cap1 ∧ Ow N wr o (l ++ (le4 n).take k) ∧ w.grownBy wr v0.ownBlock ∧ SameOrNew w v0 o) (fun _ i _ => 32 - (intOf i).toNat)
  case atStart => exact ⟨0, rfl, by omega, a, cap, rfl, by rw [HV0.out]; simpa using hv, grown_refl _ _, .inl (by rw [HV0.out])⟩
  case round =>
    obtain ⟨k, rfl, hk, a1, cap1, rfl, hO, hg, hs⟩ := hrel
    have hz := hg.size
    by_cases hlt : k < 4
    · have hlen : (l ++ (le4 n).take k).length = l.length + k := by rw [List.length_append, le4_take_len n k hk]
      have hlen2 : (l ++ (le4 n).take k ++ [UInt8.ofNat (n / 2 ^ (8 * k))]).length = l.length + (k + 1) := by rw [List.length_append, hlen]; simp; omega
      have hs2 := sl_new wr [UInt8.ofNat (n / 2 ^ (8 * k))] #[.int .u8 ((n : Int) / 2 ^ (8 * k) % 256)] (by simp) (by simp) (by simp [encB_ofNat])
      have hO2 := hO.alloc (.cells #[.int .u8 ((n : Int) / 2 ^ (8 * k) % 256)] 5)
      have HF : Hid (∀ v3 w3, Ow N w3 v3 (l ++ (le4 n).take k ++ [UInt8.ofNat (n / 2 ^ (8 * k))]) → (wr.alloc (.cells #[.int .u8 ((n : Int) / 2 ^ (8 * k) % 256)] 5)).grownBy w3 (Value.slice a1 (l.length + k) cap1).ownBlock → (v3.ownBlock = (Value.slice a1 (l.length + k) cap1).ownBlock ∨ v3.ownBlock = some (wr.alloc (.cells #[.int .u8 ((n : Int) / 2 ^ (8 * k) % 256)] 5)).heap.size) →
          ∃ a3 c3, v3 = .slice a3 (l.length + (k + 1)) c3 ∧ Ow N w3 v3 (l ++ (le4 n).take (k + 1)) ∧ w.grownBy w3 v0.ownBlock ∧ SameOrNew w v0 v3) := by
        intro v3 w3 h3 g3 n3
        obtain ⟨a3, c3, rfl, -, -⟩ := h3.shape
        rw [hlen2]
        rw [hlen2] at h3 n3
        refine ⟨a3, c3, rfl, by rw [le4_take n k hlt, ← List.append_assoc]; exact h3, ?_, ?_⟩
        · exact grown_trans (grown_trans hg (Below.grownBy' ((Below.refl _ wr).alloc (Nat.le_refl _) _) none) (fun k e => by cases e)) g3 hs.row
        · exact hs.step (by simp; omega) n3
      clear hv hg hs hO
      go_wp2_with (at_builtin; refine wpList_append_ow rfl _ _ rfl N _ _ _ (l ++ (le4 n).take k) [UInt8.ofNat (n / 2 ^ (8 * k))] rfl hO2 rfl hs2 (by rw [hlen]; simp; omega) (by simp; omega) ?_; intro v3 w3 hO3 hg3 hn3; obtain ⟨a3, c3, rfl, hF⟩ := HF.out v3 w3 hO3 hg3 hn3; clear hO3 hg3 hn3)
      go_roundw
      case rel => exact ⟨k + 1, by go_num, by omega, a3, c3, rfl, hF⟩
      case measure => simp [intOf]; omega
    · have HF : Hid (Ow N wr (.slice a1 (l.length + k) cap1) (l ++ le4 n) ∧ w.grownBy wr v0.ownBlock ∧ SameOrNew w v0 (.slice a1 (l.length + k) cap1)) := by
        refine ⟨?_, hg, hs⟩
        rw [List.take_of_length_le (by rw [le4_len]; omega)] at hO
        exact hO
      clear hv hg hs hO
      go_wp2
      go_ret
      rw [HV0.out]
      exact ⟨_, rfl, HF.out⟩

/-- What the first k bytes of four say. -/
def wordUp : Nat → List UInt8 → Nat
  | 0, _ => 0
  | k + 1, l => wordUp k l + 2 ^ (8 * k) * at0 l k

theorem wordUp_lt : ∀ (k : Nat) (l : List UInt8), wordUp k l < 2 ^ (8 * k)
  | 0, _ => by simp [wordUp]
  | k + 1, l => by
    have h1 := wordUp_lt k l
    have h2 := at0_lt l k
    have h3 : 2 ^ (8 * k) * at0 l k ≤ 2 ^ (8 * k) * 255 := Nat.mul_le_mul_left _ (by omega)
    have h4 : (2 : Nat) ^ (8 * (k + 1)) = 2 ^ (8 * k) * 256 := by rw [Nat.mul_add, Nat.pow_add]
    simp only [wordUp]
    omega

theorem wordUp_four (l : List UInt8) : wordUp 4 l = word4 l := by simp [wordUp, word4]

theorem lay_u32 (n x k : Nat) (hk : k < 4) (hn : n < 2 ^ (8 * k)) (hx : x < 256) : bits .or .u32 (n : Int) ((x : Int) * 2 ^ (8 * k) % 4294967296) = ((n + 2 ^ (8 * k) * x : Nat) : Int) := by
  have hp : (2 : Nat) ^ (8 * k) ≤ 16777216 := by
    have : (2 : Nat) ^ (8 * k) ≤ 2 ^ 24 := Nat.pow_le_pow_right (by decide) (by omega)
    simpa using this
  have hm : 2 ^ (8 * k) * x < 4294967296 := by
    have : 2 ^ (8 * k) * x ≤ 16777216 * 255 := Nat.mul_le_mul hp (by omega)
    omega
  have e1 : ((x : Int) * 2 ^ (8 * k) % 4294967296) = ((BitVec.ofNat 32 (2 ^ (8 * k) * x)).toNat : Int) := by
    rw [BitVec.toNat_ofNat, Nat.mod_eq_of_lt (by omega)]
    have : ((x : Int) * 2 ^ (8 * k)) = ((2 ^ (8 * k) * x : Nat) : Int) := by push_cast; exact Int.mul_comm _ _
    rw [this]
    omega
  have e2 : (n : Int) = ((BitVec.ofNat 32 n).toNat : Int) := by
    rw [BitVec.toNat_ofNat, Nat.mod_eq_of_lt (by omega)]
  rw [e1, e2, or_u32, BitVec.toNat_or, BitVec.toNat_ofNat, BitVec.toNat_ofNat, Nat.mod_eq_of_lt (by omega), Nat.mod_eq_of_lt (by omega), Nat.or_comm, ← Nat.two_pow_add_eq_or_of_lt hn, Nat.add_comm]

set_option maxRecDepth 100000 in
set_option maxHeartbeats 1000000 in
theorem wordOf_any (N : Nat) (v : Value) (l : List UInt8) (w : World) (hv : Sl N w v l) (hl : 4 ≤ l.length) :
    Calls Try.prog 35 #[v] w fun e w' => e = .returned (.int .u32 (word4 l : Int)) ∧ w' = w := by
  obtain ⟨a, cap, rfl, h1, h2, h3⟩ := hv
  unfold maxLen at h2
  obtain ⟨b, off, rfl, -, h4⟩ := h3.resolve_left (by intro h; rw [h] at hl; simp at hl)
  clear h3
  have HW : Hid (wordUp 4 l = word4 l) := wordUp_four l
  go_enter Try.func35, Try.ntmps35
  go_wp2
  go_loop [3, 9] (fun s i => ∃ (k n : Nat), i = .int .i64 (k : Int) ∧ s = .int .u32 (n : Int) ∧ k ≤ 4 ∧ n = wordUp k l) (fun _ i => 4 - (intOf i).toNat)
  case atStart => exact ⟨0, 0, rfl, rfl, by omega, rfl⟩
  case round =>
    obtain ⟨k, n, rfl, rfl, hk, hn⟩ := hrel
    have HN : Hid (n = wordUp k l) := hn
    clear hn
    by_cases hlt : k < 4
    · have hcell := h4 k (by omega)
      have HX : Hid (bits .or .u32 (n : Int) (((l[k]?.getD 0).toNat : Int) * 2 ^ (8 * k) % 4294967296) = ((wordUp (k + 1) l : Nat) : Int)) := by
        show _ = _
        rw [lay_u32 n _ k hlt (by rw [HN.out]; exact wordUp_lt k l) (UInt8.toNat_lt _), HN.out]
        rfl
      unfold encB at hcell
      generalize l[k]?.getD 0 = x at *
      have hxl := x.toNat_lt
      go_wp2
      go_round
      case rel => exact ⟨k + 1, wordUp (k + 1) l, by go_num, by rw [HX.out], by omega, rfl⟩
      case measure => simp [intOf]; omega
    · have HE : Hid (n = word4 l) := by
        show _ = _
        rw [HN.out, show k = 4 by omega, HW.out]
      clear h4
      go_wp2
      go_ret
      exact ⟨by rw [← HE.out]; rfl, rfl⟩

set_option maxRecDepth 100000 in
set_option maxHeartbeats 1000000 in
/-- The document's whole. -/
theorem whole_any (N : Nat) (v : Value) (l : List UInt8) (w : World) (hv : Sl N w v l) (hl : 4 ≤ l.length) :
    Calls Try.prog 37 #[v] w fun e w' => e = .returned (.int .i64 (word4 l : Int)) ∧ ∃ n, w' = w.drewN n := by
  obtain ⟨a, cap, rfl, h1, h2, h3⟩ := hv
  unfold maxLen at h2
  obtain ⟨b, off, rfl, -, h4⟩ := h3.resolve_left (by intro h; rw [h] at hl; simp at hl)
  clear h3
  have c0 := h4 0 (by omega)
  have c1 := h4 1 (by omega)
  have c2 := h4 2 (by omega)
  have c3 := h4 3 (by omega)
  clear h4
  unfold encB at c0 c1 c2 c3
  have HE : Hid (word4 l = (l[0]?.getD 0).toNat + 256 * (l[1]?.getD 0).toNat + 65536 * (l[2]?.getD 0).toNat + 16777216 * (l[3]?.getD 0).toNat) := rfl
  generalize l[0]?.getD 0 = x0 at *
  generalize l[1]?.getD 0 = x1 at *
  generalize l[2]?.getD 0 = x2 at *
  generalize l[3]?.getD 0 = x3 at *
  have l0 := x0.toNat_lt
  have l1 := x1.toNat_lt
  have l2 := x2.toNat_lt
  have l3 := x3.toNat_lt
  rw [Nat.add_zero] at c0
  go_enter Try.func37, Try.ntmps37
  go_wp2
  go_quiet (fail)
  go_wp2
  go_ret
  refine ⟨?_, nq, rfl⟩
  rw [HE.out]
  exact congrArg (fun z : Int => Ending.returned (Value.int .i64 z)) (by omega)

/-- Bytes that were just made are owned. -/
theorem ow_new (w : World) (l : List UInt8) (c : Array Value) (hm : l.length ≤ 1000) (hc : c.toList = l.map encB) : Ow w.heap.size (w.alloc (.cells c 5)) (.slice (some ⟨w.heap.size, 0, none⟩) l.length l.length) l := by
  have hs : c.size = l.length := by rw [← Array.length_toList, hc, List.length_map]
  exact ⟨by simp, .inr ⟨w.heap.size, l.length, c, rfl, Nat.le_refl _, World.alloc_heap_new w _, Nat.le_refl _, by unfold maxLen; omega, by simp [hs], by rw [hc]; exact List.take_of_length_le (by simp)⟩⟩

set_option maxRecDepth 100000 in
set_option maxHeartbeats 1000000 in
/-- The document's four. -/
theorem four_any (n : Nat) (hn : n < 4294967296) (w : World) :
    Calls Try.prog 33 #[.int .u32 (n : Int)] w fun e w' => ∃ v, e = .returned v ∧ Ow w.heap.size w' v (le4 n) ∧ Below w.heap.size w w' := by
  go_enter Try.func33, Try.ntmps33
  go_wp2
  go_ret
  refine ⟨_, rfl, ow_new w (le4 n) _ (by simp [le4]) ?_, (Below.refl _ w).alloc (Nat.le_refl _) _⟩
  simp only [le4, List.map_cons, List.map_nil, encB_ofNat]
  have h4 : ((n / 16777216 : Nat) : Int) % 256 = (n : Int) / 16777216 := by omega
  rw [h4]
  rfl

/-- A part of what is read is read. -/
theorem Sl.cut {N : Nat} {w : World} {a : Option Addr} {cap : Nat} {l : List UInt8} (h : Sl N w (.slice a l.length cap) l) (i j : Nat) (hij : i ≤ j) (hj : j ≤ l.length) (a' : Option Addr) (ha : i = j ∨ a' = a.map (fun p => p.add i)) (n c : Nat) (hn : n = j - i) (hc : c = cap - i) :
    Sl N w (.slice a' n c) ((l.drop i).take (j - i)) := by
  obtain ⟨a1, cap1, e, h1, h2, h3⟩ := h
  cases e
  have hlen : ((l.drop i).take (j - i)).length = j - i := by simp; omega
  subst hn hc
  refine ⟨a', cap - i, by rw [hlen], by omega, by omega, ?_⟩
  by_cases he : i = j
  · left; subst he; simp
  · right
    obtain ⟨b, off, rfl, hb, h4⟩ := h3.resolve_left (by intro h; rw [h] at hj; simp at hj; omega)
    obtain rfl := ha.resolve_left he
    refine ⟨b, off + i, by simp [Addr.add_lit], hb, fun k hk => ?_⟩
    rw [hlen] at hk
    have := h4 (i + k) (by omega)
    rw [show off + i + k = off + (i + k) by omega, this]
    congr 3
    rw [List.getElem?_take, if_pos hk, List.getElem?_drop]

theorem Sl.cut0 {N : Nat} {w : World} {a : Option Addr} {cap : Nat} {l : List UInt8} (h : Sl N w (.slice a l.length cap) l) (j : Nat) (hj : j ≤ l.length) : Sl N w (.slice a j cap) (l.take j) := by
  have := h.cut 0 j (by omega) hj a (.inr (by cases a <;> simp [Addr.add])) j cap (by omega) (by omega)
  simpa using this
end Go.Proofs.Ythhnjiodfbckcaa
