/-
  The iterator bytesAhead: it yields the bytes that a number may have, up to the one that ends it.
-/
import Derived.Test.YtfnnbfgfmbiababPut
namespace Go.Proofs.Ytfnnbfgfmbiabab
open Go.RowKit Go.Shelf
attribute [local go_sem] Oper.semAt_some

theorem ahead_stop (l : List UInt8) (k : Nat) (hk : k < 9) (h : k < l.length) (h3 : ∀ j, j < k → 128 ≤ (byteAt l j).toNat) (h4 : (byteAt l k).toNat < 128) : ahead 9 l = l.take k ++ [byteAt l k] := by
  have := (ahead_end l 0 k hk (by omega) (fun j hj => by simpa using h3 j hj) (by simpa using h4)).1
  simp only [List.drop_zero] at this
  rw [this, take_snocB _ _ h]

theorem ahead_all (l : List UInt8) (k : Nat) (hk : k = min l.length 9) (h3 : ∀ j, j < k → 128 ≤ (byteAt l j).toNat) : ahead 9 l = l.take k := by
  rw [ahead_go k 9 l (by omega) (by omega) h3]
  by_cases h9 : k = 9
  · subst h9; simp [ahead]
  · have : l.drop k = [] := List.drop_eq_nil_of_le (by omega)
    rw [this]
    cases 9 - k <;> simp [ahead]

theorem take_prefix_ahead (l : List UInt8) (k : Nat) (hk : k < 9) (h : k < l.length) (h3 : ∀ j, j < k → 128 ≤ (byteAt l j).toNat) : l.take k ++ [byteAt l k] <+: ahead 9 l := by
  by_cases h4 : (byteAt l k).toNat < 128
  · rw [ahead_stop l k hk h h3 h4]; exact List.prefix_refl _
  · rw [ahead_go (k + 1) 9 l (by omega) (by omega) (fun j hj => by
      by_cases e : j = k
      · subst e; omega
      · exact h3 j (by omega)), take_snocB _ _ h]
    exact List.prefix_append _ _

theorem ahead_len_gt (l : List UInt8) (k : Nat) (hk : k < 9) (h : k < l.length) (h3 : ∀ j, j < k → 128 ≤ (byteAt l j).toNat) : k < (ahead 9 l).length := by
  have := (take_prefix_ahead l k hk h h3).length_le
  simp at this; omega

/-- Bytes from an address on. -/
def CellsAt (W : World) (b off : Nat) (l : List UInt8) : Prop := ∀ i, i < l.length → W.cell? ⟨b, off + i, none⟩ = some (.int .u8 ((byteAt l i).toNat : Int))

theorem CellsAt.below {n₀ : Nat} {W W' : World} {b off : Nat} {l : List UInt8} (h : CellsAt W b off l) (hb : b < n₀) (hB : Below n₀ W W') : CellsAt W' b off l :=
  fun i hi => (hB.cell (p := ⟨b, off + i, none⟩) hb).trans (h i hi)

set_option maxRecDepth 100000 in
set_option maxHeartbeats 2000000 in
theorem ahead1_in (n : Nat) (hn : 1 ≤ n) (l' Bn n₀ b off cap : Nat) (l : List UInt8) (hl0 : 0 < l.length) (hlc : l.length ≤ cap) (hcm : cap ≤ maxLen) (hb : b < n₀) (J Jx : List UInt8 → World → Prop)
    (hY : ∀ pre x W, J pre W → pre.length < (ahead 9 l).length → YieldAt Fence.wide (n - 1) Try.prog l' #[encB x] W fun e W' =>
      (e = .returned (.bool true) ∧ J (pre ++ [x]) W' ∧ Below n₀ W W') ∨ (e = .returned (.bool false) ∧ Jx (pre ++ [x]) W'))
    (W : World) (hBn : W.cell? ⟨Bn, 0, none⟩ = some (.slice (some ⟨b, off, none⟩) l.length cap)) (hc : CellsAt W b off l) (h0 : J [] W) :
    CallsIn Fence.wide n Try.prog 111 #[.func (.yield l') #[] #[], .pointer (some ⟨Bn, 0, none⟩)] W fun e W' => (∃ v, e = .returned v) ∧
      ((∃ ys, ys = ahead 9 l ∧ J ys W') ∨ (∃ pre, pre <+: ahead 9 l ∧ Jx pre W')) := by
  unfold maxLen at hcm
  have HC : Hid (CellsAt W b off l) := hc
  clear hc
  have hsp : l.length ≤ 9 ∨ 9 < l.length := by omega
  refine callsIn_of_wp Try.func111 rfl trivial ?_ rfl
  simp only [Try.ntmps111, List.size_toArray, List.length_cons, List.length_nil, Nat.reduceAdd, Nat.reduceSub, Array.replicate_succ, Array.replicate_zero, List.push_toArray, List.append_toArray, List.nil_append, List.cons_append]
  rcases hsp with hsp | hsp
  all_goals
    gi_wp2
    gi_loopw [11] (fun p wr => ∃ k : Nat, p = .int .i64 (k : Int) ∧ k ≤ 9 ∧ k ≤ l.length ∧ (∀ j, j < k → 128 ≤ (byteAt l j).toNat) ∧ CellsAt wr b off l ∧ J (l.take k) wr)
      (fun p _ => 9 - (intOf p).toNat)
    case atStart => exact ⟨0, rfl, by omega, by omega, fun j hj => by omega, HC.out, h0⟩
    case round =>
      obtain ⟨k, rfl, hk9, hkl, hj, hcw, hJs⟩ := hrel
      have HJ : Hid (∀ j, j < k → 128 ≤ (byteAt l j).toNat) := hj
      have HCW : Hid (CellsAt wr b off l) := hcw
      clear hj hcw
      by_cases hlt : k < l.length ∧ k < 9
      · obtain ⟨hlt1, hlt2⟩ := hlt
        have hcl := HCW.out k hlt1
        have hlen := ahead_len_gt l k hlt2 hlt1 HJ.out
        obtain ⟨fn, tmps, assign, body, hy, hR⟩ := hY (l.take k) (byteAt l k) wr hJs (by simp; omega)
        have HP : Hid (l.take k ++ [byteAt l k] <+: ahead 9 l) := take_prefix_ahead l k hlt2 hlt1 HJ.out
        have HT : Hid (l.take (k + 1) = l.take k ++ [byteAt l k]) := take_snocB l k hlt1
        have HS : Hid ((byteAt l k).toNat < 128 → ahead 9 l = l.take k ++ [byteAt l k]) := ahead_stop l k hlt2 hlt1 HJ.out
        have HS2 : Hid (¬ (byteAt l k).toNat < 128 → ∀ j, j < k + 1 → 128 ≤ (byteAt l j).toNat) := by
          intro h j hj
          by_cases e : j = k
          · subst e; omega
          · exact HJ.out j (by omega)
        clear hlen
        generalize byteAt l k = x at hcl hy hR HP HT HS HS2
        unfold encB at hy
        by_cases hx : (x.toNat : Int) < 128
        · gi_wp2
          refine hR.mono ?_
          rintro e W3 (⟨rfl, hJ3, hk3⟩ | ⟨rfl, hJx3⟩)
          · clear hy hR
            gi_wp2
            refine bodyPost_ret (results_none rfl _ _ _) rfl ?_
            exact ⟨⟨_, rfl⟩, .inl ⟨_, (HS.out (by omega)).symm, hJ3⟩⟩
          · clear hy hR
            gi_wp2
            refine bodyPost_ret (results_none rfl _ _ _) rfl ?_
            exact ⟨⟨_, rfl⟩, .inr ⟨_, HP.out, hJx3⟩⟩
        · gi_wp2
          refine hR.mono ?_
          rintro e W3 (⟨rfl, hJ3, hk3⟩ | ⟨rfl, hJx3⟩)
          · clear hy hR
            gi_wp2
            go_roundw
            case rel => exact ⟨k + 1, by go_num, by omega, by omega, HS2.out (by omega), HCW.out.below hb hk3, by rw [HT.out]; exact hJ3⟩
            case measure => simp [intOf]; omega
          · clear hy hR
            gi_wp2
            refine bodyPost_ret (results_none rfl _ _ _) rfl ?_
            exact ⟨⟨_, rfl⟩, .inr ⟨_, HP.out, hJx3⟩⟩
      · gi_wp2
        go_end0
        exact ⟨⟨_, rfl⟩, .inl ⟨_, (ahead_all l k (by omega) HJ.out).symm, hJs⟩⟩

set_option maxHeartbeats 1000000 in
theorem bytesAhead_in (n : Nat) (a : Option Addr) (len cap : Nat) (w : World) :
    CallsIn Fence.wide n Try.prog 109 #[.slice a len cap] w fun e w' => e = .returned (.func (.func 111) #[] #[.pointer (some ⟨w.heap.size, 0, none⟩)]) ∧ w' = w.alloc (.cells #[.slice a len cap] 23) := by
  refine callsIn_of_wp Try.func109 rfl trivial ?_ rfl
  simp only [Try.ntmps109, List.size_toArray, List.length_cons, List.length_nil, Nat.reduceAdd, Nat.reduceSub, Array.replicate_succ, Array.replicate_zero, List.push_toArray, List.append_toArray, List.nil_append, List.cons_append]
  gi_wp2
  go_ret
  exact ⟨rfl, rfl⟩

theorem bytesAhead_stops (n : Nat) (hn : 1 ≤ n) (Bn n₀ b off cap : Nat) (l : List UInt8) (hl0 : 0 < l.length) (hlc : l.length ≤ cap) (hcm : cap ≤ maxLen) (hb : b < n₀) (w : World) (hBn : Bn < w.heap.size) (hn₀ : n₀ ≤ w.heap.size)
    (hc : w.cell? ⟨Bn, 0, none⟩ = some (.slice (some ⟨b, off, none⟩) l.length cap)) (hcl : CellsAt w b off l) :
    SeqStopsK Fence.wide n Try.prog 111 #[.pointer (some ⟨Bn, 0, none⟩)] (fun x : UInt8 => #[encB x]) (Below n₀) (fun ys => ys = ahead 9 l) (fun pre => pre <+: ahead 9 l) (ahead 9 l).length w := fun l' J Jx W hW _ _ hY h0 =>
  ahead1_in n hn l' Bn n₀ b off cap l hl0 hlc hcm hb J Jx hY W ((hW.cell (p := ⟨Bn, 0, none⟩) hBn).trans hc) (hcl.below hb (hW.mono hn₀)) h0
end Go.Proofs.Ytfnnbfgfmbiabab
