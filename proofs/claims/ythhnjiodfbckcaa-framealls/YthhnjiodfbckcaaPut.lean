/-
  Frames written: frame's tooLong, appendFrame, Put; the document's Put.
-/
import Derived.Test.YthhnjiodfbckcaaWord
namespace Go.Proofs.Ythhnjiodfbckcaa
open Go.RowKit Go.Shelf

/-- Put's bytes and error. -/
def putB (p : List UInt8) : List UInt8 := if p.length ≤ 1048576 then frameB p else []
def putE (p : List UInt8) : Int := if p.length ≤ 1048576 then 0 else 3

set_option maxHeartbeats 400000 in
theorem tooLong_any (N : Nat) (v : Value) (l : List UInt8) (w : World) (hv : Sl N w v l) : Calls Try.prog 31 #[v] w fun e w' => e = .returned (.bool (decide (1048576 < l.length))) ∧ w' = w := by
  obtain ⟨a, cap, rfl, h1, h2, -⟩ := hv
  unfold maxLen at h2
  go_enter Try.func31, Try.ntmps31
  go_wp2
  go_ret
  refine ⟨congrArg (fun z : Bool => Ending.returned (Value.bool z)) (by simp; omega), rfl⟩

theorem below_grown {N : Nat} {w w' : World} {row : Option Nat} (hg : w.grownBy w' row) (hN : N ≤ w.heap.size) (hr : ∀ k, row = some k → N ≤ k) : Below N w w' := (Below.refl N w).grown hg hN hr

theorem Ow.apart {N N' : Nat} {w w' : World} {v v' : Value} {l l' : List UInt8} (h : Ow N w v l) (h' : Ow N' w' v' l') (hs : w.heap.size ≤ N') : v.ownBlock = none ∨ v.ownBlock ≠ v'.ownBlock := by
  cases e : v.ownBlock with
  | none => exact .inl rfl
  | some k =>
    right
    intro e'
    have h1 := (World.ownsRow.lt h k e).2
    have h2 := (World.ownsRow.lt h' k e'.symm).1
    omega

set_option maxRecDepth 100000 in
set_option maxHeartbeats 2000000 in
theorem appendFrame_any (N : Nat) (v pv : Value) (l p : List UInt8) (w : World) (hN : N ≤ w.heap.size) (hl : l.length ≤ 536870912) (hp : p.length ≤ 1048576) (hv : Ow N w v l) (hpv : Sl N w pv p) :
    Calls Try.prog 32 #[v, pv] w fun e w' => ∃ v', e = .returned v' ∧ Ow N w' v' (l ++ frameB p) ∧ Below N w w' := by
  obtain ⟨a, cap, rfl, -⟩ := hv.shape
  obtain ⟨pa, pc, rfl, -⟩ := id hpv
  go_enter Try.func32, Try.ntmps32
  go_wp2_with fail
  refine (appendWord_any N _ l p.length w hN (by omega) hv).mono ?_
  rintro e w1 ⟨v1, rfl, hO1, hg1, -⟩
  obtain ⟨a1, c1, rfl, -⟩ := hO1.shape
  have hB1 := below_grown hg1 hN (fun k e => (World.ownsRow.lt hv k e).1)
  have hz1 := hB1.size
  have hlen1 : (l ++ le4 p.length).length = l.length + 4 := by simp [le4_len]
  obtain ⟨g1, rfl, hgl, hlc, hcm, -⟩ := hO1.at0 (by rw [hlen1]; omega)
  have hS1 := (hO1.sl (Nat.le_refl w1.heap.size)).cut l.length (l.length + 4) (by omega) (by rw [hlen1]; omega) (some ⟨g1, l.length, none⟩) (.inr (by simp [Addr.add_lit])) 4 (c1 - l.length) (by omega) rfl
  rw [show l.length + 4 - l.length = 4 by omega, List.drop_left, List.take_of_length_le (by rw [le4_len]; omega)] at hS1
  have hpv1 := (hpv.below hB1).mono (Nat.le_trans hN hz1)
  rw [hlen1] at hlc hO1 ⊢
  have hlc2 : l.length ≤ c1 := by omega
  unfold maxLen at hcm
  have hSS := sls_new (w := w1) (N := w1.heap.size) [le4 p.length, p] [.slice (some ⟨g1, l.length, none⟩) 4 (c1 - l.length), .slice pa p.length pc] (by simp) (by simp) (Nat.le_refl _) rfl (by intro i hi; rcases (by simp at hi; omega : i = 0 ∨ i = 1) with rfl | rfl; exact hS1; exact hpv1) 22
  have CS : Hid (Calls Try.prog 30 #[.slice (some ⟨w1.heap.size, 0, none⟩) 2 2] (w1.alloc (.cells #[.slice (some ⟨g1, l.length, none⟩) 4 (c1 - l.length), .slice pa p.length pc] 22)) fun e w' => e = .returned (.int .u32 (crc (le4 p.length ++ p) : Int)) ∧ w' = (w1.alloc (.cells #[.slice (some ⟨g1, l.length, none⟩) 4 (c1 - l.length), .slice pa p.length pc] 22))) := by
    have := sumOf_any _ _ _ _ hSS
    unfold Hid
    simpa using this
  clear hSS hS1 hpv1 hg1 hv
  go_wp2_with (go_at_call 30; refine CS.out.mono ?_; rintro e w' ⟨rfl, hw⟩; subst w'; clear CS)
  have hB2 : Below N w (w1.alloc (.cells #[.slice (some ⟨g1, l.length, none⟩) 4 (c1 - l.length), .slice pa p.length pc] 22)) := hB1.alloc (Nat.le_trans hN hz1) _
  have hO2 := hO1.alloc (.cells #[.slice (some ⟨g1, l.length, none⟩) 4 (c1 - l.length), .slice pa p.length pc] 22)
  generalize w1.alloc (.cells #[.slice (some ⟨g1, l.length, none⟩) 4 (c1 - l.length), .slice pa p.length pc] 22) = w2 at *
  have hz2 := hB2.size
  refine (appendWord_any N _ (l ++ le4 p.length) (crc (le4 p.length ++ p)) w2 (by omega) (by rw [hlen1]; omega) hO2).mono ?_
  rintro e w3 ⟨v3, rfl, hO3, hg3, -⟩
  have hB3 := hB2.trans (below_grown hg3 (by omega) (fun k e => (World.ownsRow.lt hO2 k e).1))
  have hz3 := hB3.size
  have hlen3 : (l ++ le4 p.length ++ le4 (crc (le4 p.length ++ p))).length = l.length + 8 := by simp [le4_len]
  obtain ⟨a3, c3, rfl, -⟩ := hO3.shape
  rw [hlen3] at hO3 ⊢
  have hpv3 := hpv.below hB3
  have hlt3 := World.ownsRow.lt hO3
  clear hO2 hO1 hg3 hB1 hB2 hz1 hz2 hlc hcm hlc2
  go_wp2_with (at_builtin; refine wpList_append_ow rfl _ _ rfl N N _ _ (l ++ le4 p.length ++ le4 (crc (le4 p.length ++ p))) p rfl hO3 rfl hpv3 (by rw [hlen3]; omega) (by omega) ?_; intro v4 w4 hO4 hg4 hn4)
  go_ret
  refine ⟨v4, rfl, ?_, hB3.trans (below_grown hg4 (by omega) (fun k e => (hlt3 k e).1))⟩
  unfold frameB
  simpa [List.append_assoc] using hO4

set_option maxRecDepth 100000 in
set_option maxHeartbeats 1000000 in
/-- frame.Put -/
theorem put_any (N : Nat) (v : Value) (p : List UInt8) (w : World) (hv : Sl N w v p) (hN : N ≤ w.heap.size) :
    Calls Try.prog 12 #[v] w fun e w' => ∃ v', e = .returned (.tuple #[v', .int .i64 (putE p)]) ∧ Ow w.heap.size w' v' (putB p) ∧ Below w.heap.size w w' := by
  obtain ⟨a, cap, rfl, -⟩ := id hv
  by_cases hp : p.length ≤ 1048576
  · have CL : Hid (Calls Try.prog 31 #[.slice a p.length cap] w fun e w' => e = .returned (.bool false) ∧ w' = w) := by
      have := tooLong_any N _ p w hv
      rw [show decide (1048576 < p.length) = false by simp; omega] at this
      exact this
    have hE : putE p = 0 := by simp [putE, hp]
    have hB : putB p = frameB p := by simp [putB, hp]
    rw [hE, hB]
    clear hE hB
    go_enter Try.func12, Try.ntmps12
    go_wp2_with (go_at_call 31; refine CL.out.mono ?_; rintro e w' ⟨rfl, hw⟩; subst w')
    refine (appendFrame_any w.heap.size _ _ [] p w (Nat.le_refl _) (by simp) hp (Ow.nil _ _) (hv.mono hN)).mono ?_
    rintro e w1 ⟨v1, rfl, hO1, hB1⟩
    obtain ⟨a1, c1, rfl, -⟩ := hO1.shape
    simp only [List.nil_append] at hO1 ⊢
    go_wp2
    go_ret2
    exact ⟨_, rfl, hO1, hB1⟩
  · have CL : Hid (Calls Try.prog 31 #[.slice a p.length cap] w fun e w' => e = .returned (.bool true) ∧ w' = w) := by
      have := tooLong_any N _ p w hv
      rw [show decide (1048576 < p.length) = true by simp; omega] at this
      exact this
    have hE : putE p = 3 := by simp [putE, hp]
    have hB : putB p = [] := by simp [putB, hp]
    rw [hE, hB]
    clear hE hB
    go_enter Try.func12, Try.ntmps12
    go_wp2_with (go_at_call 31; refine CL.out.mono ?_; rintro e w' ⟨rfl, hw⟩; subst w')
    go_ret2
    exact ⟨_, rfl, Ow.nil _ _, Below.refl _ _⟩

set_option maxRecDepth 100000 in
set_option maxHeartbeats 1000000 in
/-- The document's Put. -/
theorem refPut_any (N : Nat) (v : Value) (p : List UInt8) (w : World) (hv : Sl N w v p) (hN : N ≤ w.heap.size) :
    Calls Try.prog 13 #[v] w fun e w' => ∃ v', e = .returned (.tuple #[v', .int .i64 (putE p)]) ∧ Ow w.heap.size w' v' (putB p) ∧ Below w.heap.size w w' := by
  obtain ⟨a, cap, rfl, -, hcm, -⟩ := id hv
  unfold maxLen at hcm
  by_cases hp : p.length ≤ 1048576
  · have hE : putE p = 0 := by simp [putE, hp]
    have hB : putB p = frameB p := by simp [putB, hp]
    rw [hE, hB]
    clear hE hB
    go_enter Try.func13, Try.ntmps13
    go_wp2_with fail
    refine (four_any p.length (by omega) w).mono ?_
    rintro e w1 ⟨v1, rfl, hO1, hB1⟩
    obtain ⟨a1, c1, rfl, -⟩ := hO1.shape
    rw [le4_len] at hO1 ⊢
    have hz1 := hB1.size
    have hv1 := hv.below (hB1.mono hN)
    go_wp2_with fail
    refine (bytes_any w1.heap.size _ (le4 p.length) w1 (hO1.sl (Nat.le_refl _)) (Nat.le_refl _) (by simp [le4_len])).mono ?_
    rintro e w2 ⟨v2, rfl, hO2, hB2⟩
    obtain ⟨a2, c2, rfl, -⟩ := hO2.shape
    rw [le4_len] at hO2 ⊢
    have hz2 := hB2.size
    have hv2 := hv1.below (hB2.mono (by omega))
    have hO12 := hO1.below hB2 (Nat.le_refl _)
    have HB2 : Hid (Below w.heap.size w w2) := hB1.trans (hB2.mono hz1)
    have hlen3 : (le4 p.length ++ p).length = 4 + p.length := by simp [le4_len]
    have hlen5 : (le4 p.length ++ le4 (crc (le4 p.length ++ p))).length = 8 := by simp [le4_len]
    have hap := hO1.apart hO2 (Nat.le_refl _)
    clear hO1 hB1 hv1 hv
    go_wp2_with (at_builtin; refine wpList_append_ow rfl _ _ rfl w1.heap.size N _ _ (le4 p.length) p rfl hO2 rfl hv2 (by rw [le4_len]; omega) hz2 ?_; intro v3 w3 hO3 hg3 hn3; obtain ⟨a3, c3, hv3, -⟩ := hO3.shape; rw [hlen3] at hv3; subst hv3)
    have hB3 : Below w1.heap.size w2 w3 := below_grown hg3 hz2 (fun k e => (World.ownsRow.lt hO2 k e).1)
    have hz3 := hB3.size
    have hv3 := hv2.below (hB3.mono (by omega))
    have hO13 := hO12.kept hg3 hap
    refine (refSum_any w3.heap.size _ (le4 p.length ++ p) w3 (hO3.sl (Nat.le_refl _))).mono ?_
    rintro e w' ⟨rfl, hw⟩
    subst w'
    go_wp2_with fail
    refine (four_any (crc (le4 p.length ++ p)) (crc_lt _) w3).mono ?_
    rintro e w4 ⟨v4, rfl, hO4, hB4⟩
    obtain ⟨a4, c4, rfl, -⟩ := hO4.shape
    rw [le4_len] at hO4 ⊢
    have hz4 := hB4.size
    have hv4 := hv3.below (hB4.mono (by omega))
    have hO14 := hO13.below hB4 (Nat.le_refl _)
    have HB4 : Hid (Below w.heap.size w w4) := (HB2.out.trans (hB3.mono hz1)).trans (hB4.mono (by omega))
    clear hO12 hO13 hO2 hO3 hg3 hn3 hB2 hB3 hB4 hv2 hv3
    have hs4 := hO4.sl (Nat.le_refl w4.heap.size)
    have hlt4 := World.ownsRow.lt hO14
    go_wp2_with (first
      | (at_builtin; refine wpList_append_ow rfl _ _ rfl w.heap.size N _ _ (le4 p.length ++ le4 (crc (le4 p.length ++ p))) p rfl hO5 rfl hv5' (by rw [hlen5]; omega) hz5 ?_; intro v6 w6 hO6 hg6 hn6)
      | (at_builtin; refine wpList_append_ow rfl _ _ rfl w.heap.size w4.heap.size _ _ (le4 p.length) (le4 (crc (le4 p.length ++ p))) rfl hO14 rfl hs4 (by simp [le4_len]) (by omega) ?_; intro v5 w5 hO5 hg5 hn5; obtain ⟨a5, c5, hv5, -⟩ := hO5.shape; rw [hlen5] at hv5; subst hv5; have hB5 := HB4.out.trans (below_grown hg5 (by omega) (fun k e => (hlt4 k e).1)); have hv5' := hv4.below ((below_grown hg5 (by omega) (fun k e => (hlt4 k e).1)).mono hN); have hz5 := hB5.size; have hlt5 := World.ownsRow.lt hO5; clear hg5 hn5))
    go_ret2
    refine ⟨_, rfl, ?_, hB5.trans (below_grown hg6 hz5 (fun k e => (hlt5 k e).1))⟩
    unfold frameB
    simpa [List.append_assoc] using hO6
  · have hE : putE p = 3 := by simp [putE, hp]
    have hB : putB p = [] := by simp [putB, hp]
    rw [hE, hB]
    clear hE hB
    go_enter Try.func13, Try.ntmps13
    go_wp2
    go_ret2
    exact ⟨_, rfl, Ow.nil _ _, Below.refl _ _⟩
end Go.Proofs.Ythhnjiodfbckcaa
