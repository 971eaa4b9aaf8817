/-
  Carried: Join of the layer below, in this seat.
-/
import Derived.Test.YtnahghldlkjleaaGreatDoorJFr
namespace Go.Proofs.YtnahghldlkjleaaGreatDoor.Fr
open Go.RowKit
set_option linter.unusedVariables false
open Go.RowKit Go.Shelf
/-- Is one too long? -/
def anyLong (ls : List (List UInt8)) : Bool := ls.any (fun l => decide (1048576 < l.length))
theorem anyLong_take (ls : List (List UInt8)) (k : Nat) (h : k < ls.length) : anyLong (ls.take (k + 1)) = (anyLong (ls.take k) || decide (1048576 < (ls[k]?.getD []).length)) := by
  unfold anyLong
  rw [List.take_succ_eq_append_getElem h, List.any_append, List.getElem?_eq_getElem h]
  simp
theorem anyLong_mono (ls : List (List UInt8)) (k : Nat) (h : anyLong (ls.take k) = true) : anyLong ls = true := by
  unfold anyLong at *
  rw [List.any_eq_true] at *
  obtain ⟨x, hx, h2⟩ := h
  exact ⟨x, List.mem_of_mem_take hx, h2⟩
set_option maxRecDepth 100000 in
set_option maxHeartbeats 1000000 in
theorem indexFunc_any (N : Nat) (v : Value) (ls : List (List UInt8)) (w : World) (hv : Sls N w v ls) :
    Calls Tryz.prog 264 #[v, .func (.func 222) #[] #[]] w fun e w' => (∃ z : Int, e = .returned (.int .i64 z) ∧ decide (0 ≤ z) = anyLong ls) ∧ w' = w := by
  obtain ⟨a, cap, rfl, h1, h2, h3⟩ := hv
  unfold maxLen at h2
  go_enter Tryz.func264, Tryz.ntmps264
  go_wp2
  go_loop [8] (fun i => ∃ (k : Nat), i = .int .i64 (k : Int) ∧ k ≤ ls.length ∧ anyLong (ls.take k) = false) (fun i => ls.length - (intOf i).toNat)
  case atStart => exact ⟨0, rfl, by omega, rfl⟩
  case round =>
    obtain ⟨k, rfl, hk, hc⟩ := hrel
    have HC : Hid (anyLong (ls.take k) = false) := hc
    clear hc
    by_cases hlt : k < ls.length
    · obtain ⟨b, off, rfl, -, h4⟩ := h3.resolve_left (by intro h; rw [h] at hlt; simp at hlt)
      obtain ⟨u, hu, hsu⟩ := h4 k hlt
      obtain ⟨ua, uc, rfl, -⟩ := id hsu
      have CL := tooLong_any N _ _ w hsu
      have HS := anyLong_take ls k hlt
      rw [HC.out] at HS
      generalize ls[k]?.getD [] = l at *
      clear h4 h3
      by_cases hl : 1048576 < l.length
      · rw [show decide (1048576 < l.length) = true by simp [hl]] at CL HS
        have HA : Hid (anyLong ls = true) := anyLong_mono ls (k + 1) HS
        clear HS hsu
        go_wp2_with (go_at_call 222; refine CL.mono ?_; rintro e w' ⟨rfl, hw⟩; subst w')
        go_ret
        exact ⟨⟨_, rfl, by rw [HA.out]; simp⟩, rfl⟩
      · rw [show decide (1048576 < l.length) = false by simp; omega] at CL HS
        have HA : Hid (anyLong (ls.take (k + 1)) = false) := HS
        clear HS hsu
        go_wp2_with (go_at_call 222; refine CL.mono ?_; rintro e w' ⟨rfl, hw⟩; subst w')
        go_round
        case rel => exact ⟨k + 1, by go_num, by omega, HA.out⟩
        case measure => simp [intOf]; omega
    · clear h3
      have HA : Hid (anyLong ls = false) := by
        have := HC.out
        rw [List.take_of_length_le (by omega)] at this
        exact this
      go_wp2
      go_ret
      exact ⟨⟨_, rfl, by rw [HA.out]; rfl⟩, rfl⟩
set_option maxHeartbeats 1000000 in
theorem containsFunc_any (N : Nat) (v : Value) (ls : List (List UInt8)) (w : World) (hv : Sls N w v ls) :
    Calls Tryz.prog 221 #[v, .func (.func 222) #[] #[]] w fun e w' => e = .returned (.bool (anyLong ls)) ∧ w' = w := by
  have CI := indexFunc_any N v ls w hv
  obtain ⟨a, cap, rfl, -⟩ := hv
  go_enter Tryz.func221, Tryz.ntmps221
  go_wp2_with fail
  refine CI.mono ?_
  rintro e w' ⟨⟨z, rfl, hz⟩, hw⟩
  subst w'
  have HZ : Hid (decide (0 ≤ z) = anyLong ls) := hz
  clear hz
  go_wp2
  go_ret
  exact ⟨by rw [← HZ.out]; rfl, rfl⟩
/-- The frames of payloads, one behind the other. -/
def joinB (ls : List (List UInt8)) : List UInt8 := (ls.map frameB).flatten
theorem joinB_take (ls : List (List UInt8)) (k : Nat) (h : k < ls.length) : joinB (ls.take (k + 1)) = joinB (ls.take k) ++ frameB (ls[k]?.getD []) := by
  unfold joinB
  rw [List.take_succ_eq_append_getElem h, List.map_append, List.flatten_append, List.getElem?_eq_getElem h]
  simp
theorem joinB_append (ls ms : List (List UInt8)) : joinB (ls ++ ms) = joinB ls ++ joinB ms := by simp [joinB]
theorem joinB_take_len (ls : List (List UInt8)) (k : Nat) : (joinB (ls.take k)).length ≤ (joinB ls).length := by
  have : joinB ls = joinB (ls.take k) ++ joinB (ls.drop k) := by rw [← joinB_append, List.take_append_drop]
  rw [this, List.length_append]; omega
theorem Sls.below {N : Nat} {w w' : World} {v : Value} {ls : List (List UInt8)} (h : Sls N w v ls) (hB : Below N w w') : Sls N w' v ls := by
  obtain ⟨a, cap, rfl, h1, h2, h3⟩ := h
  refine ⟨a, cap, rfl, h1, h2, ?_⟩
  rcases h3 with h3 | ⟨b, off, e, hb, hc⟩
  · exact .inl h3
  · refine .inr ⟨b, off, e, hb, fun i hi => ?_⟩
    obtain ⟨u, hu, hs⟩ := hc i hi
    exact ⟨u, (hB.cell (p := ⟨b, off + i, none⟩) hb).trans hu, hs.below hB⟩
theorem Sls.mono {N M : Nat} {w : World} {v : Value} {ls : List (List UInt8)} (h : Sls N w v ls) (hM : N ≤ M) : Sls M w v ls := by
  obtain ⟨a, cap, rfl, h1, h2, h3⟩ := h
  refine ⟨a, cap, rfl, h1, h2, ?_⟩
  rcases h3 with h3 | ⟨b, off, e, hb, hc⟩
  · exact .inl h3
  · refine .inr ⟨b, off, e, by omega, fun i hi => ?_⟩
    obtain ⟨u, hu, hs⟩ := hc i hi
    exact ⟨u, hu, hs.mono hM⟩
/-- The element at a place. -/
theorem Sls.at {N : Nat} {w : World} {a : Option Addr} {cap : Nat} {ls : List (List UInt8)} (h : Sls N w (.slice a ls.length cap) ls) (k : Nat) (hk : k < ls.length) :
    ∃ b off ua uc, a = some ⟨b, off, none⟩ ∧ w.cell? ⟨b, off + k, none⟩ = some (.slice ua (ls[k]?.getD []).length uc) ∧ Sl N w (.slice ua (ls[k]?.getD []).length uc) (ls[k]?.getD []) := by
  obtain ⟨a1, cap1, e, h1, h2, h3⟩ := h
  cases e
  obtain ⟨b, off, rfl, -, h4⟩ := h3.resolve_left (by intro h; rw [h] at hk; simp at hk)
  obtain ⟨u, hu, hs⟩ := h4 k hk
  obtain ⟨ua, uc, rfl, -⟩ := id hs
  exact ⟨b, off, ua, uc, rfl, hu, hs⟩
theorem long_at (ls : List (List UInt8)) (h : anyLong ls = false) (k : Nat) (hk : k < ls.length) : (ls[k]?.getD []).length ≤ 1048576 := by
  unfold anyLong at h
  rw [List.any_eq_false] at h
  have := h ls[k] (List.getElem_mem hk)
  rw [List.getElem?_eq_getElem hk]
  simpa using this
/-- Join's bytes and error. -/
def joinR (ls : List (List UInt8)) : List UInt8 × Nat := if anyLong ls then ([], 3) else (joinB ls, 0)
set_option maxRecDepth 100000 in
set_option maxHeartbeats 1000000 in
theorem join_any (N : Nat) (v : Value) (ls : List (List UInt8)) (w : World) (hv : Sls N w v ls) (hN : N ≤ w.heap.size) (hT : anyLong ls = false → (joinB ls).length ≤ 536870912) :
    Calls Tryz.prog 173 #[v] w fun e w' => ∃ v', e = .returned (.tuple #[v', .int .i64 ((joinR ls).2 : Int)]) ∧ Ow w.heap.size w' v' (joinR ls).1 ∧ Below w.heap.size w w' := by
  have CC := containsFunc_any N v ls w hv
  obtain ⟨a, cap, rfl, -, hcm, -⟩ := id hv
  unfold maxLen at hcm
  by_cases hA : anyLong ls = true
  · have HR : Hid (joinR ls = ([], 3)) := by unfold Hid joinR; rw [if_pos hA]
    rw [hA] at CC
    clear hv hT hA
    go_enter Tryz.func173, Tryz.ntmps173
    go_wp2_with (go_at_call 221; refine CC.mono ?_; rintro e w' ⟨rfl, hw⟩; subst w')
    go_ret2
    rw [HR.out]
    exact ⟨_, rfl, Ow.nil _ _, Below.refl _ _⟩
  · have hA' : anyLong ls = false := by simpa using hA
    have HR : Hid (joinR ls = (joinB ls, 0)) := by unfold Hid joinR; rw [hA']; rfl
    rw [hA'] at CC
    have hT' := hT hA'
    have HLA : Hid (∀ k, k < ls.length → (ls[k]?.getD []).length ≤ 1048576) := long_at ls hA'
    have HV : Hid (Sls N w (.slice a ls.length cap) ls) := hv
    clear hv hT hA hA'
    have HT : Hid ((joinB ls).length ≤ 536870912) := hT'
    clear hT'
    have hll : ls.length ≤ cap := by obtain ⟨_, _, e, h, _⟩ := HV.out; cases e; exact h
    go_enter Tryz.func173, Tryz.ntmps173
    go_wp2_with (go_at_call 221; refine CC.mono ?_; rintro e w' ⟨rfl, hw⟩; subst w')
    go_loopw [4, 11] (fun o i wr => ∃ (k : Nat), i = .int .i64 (k : Int) ∧ k ≤ ls.length ∧ ∃ oa on oc, o = .slice oa on oc ∧ Ow w.heap.size wr o (joinB (ls.take k)) ∧ Below w.heap.size w wr) (fun _ i _ => ls.length - (intOf i).toNat)
    case atStart => exact ⟨0, rfl, by omega, none, 0, 0, rfl, Ow.nil _ _, Below.refl _ _⟩
    case round =>
      obtain ⟨k, rfl, hk, oa, on, oc, rfl, hO, hB⟩ := hrel
      by_cases hlt : k < ls.length
      · have hvr := (HV.out.below (hB.mono hN))
        obtain ⟨b, off, ua, uc, rfl, hu, hsu⟩ := hvr.at k hlt
        have hz := hB.size
        have hjl := joinB_take_len ls k
        have CF : Hid (Calls Tryz.prog 223 #[.slice oa on oc, .slice ua (ls[k]?.getD []).length uc] wr fun e w' => ∃ oa on oc, e = .returned (.slice oa on oc) ∧ Ow w.heap.size w' (.slice oa on oc) (joinB (ls.take (k + 1))) ∧ Below w.heap.size w w') := by
          refine Calls.mono (appendFrame_any w.heap.size _ _ _ _ wr hz (Nat.le_trans hjl HT.out) (HLA.out k hlt) hO (hsu.mono hN)) ?_
          rintro e w' ⟨v', rfl, hO', hB'⟩
          obtain ⟨a', c', rfl, -⟩ := hO'.shape
          rw [← joinB_take ls k hlt] at hO' ⊢
          exact ⟨_, _, _, rfl, hO', hB.trans hB'⟩
        clear hvr hsu hO hB hjl
        generalize ls[k]?.getD [] = l at *
        go_wp2_with (go_at_call 223; refine CF.out.mono ?_; rintro e w' ⟨a', n', c', rfl, hO', hB'⟩)
        go_roundw
        case rel => exact ⟨k + 1, by go_num, by omega, _, _, _, rfl, hO', hB'⟩
        case measure => simp [intOf]; omega
      · have HO : Hid (Ow w.heap.size wr (.slice oa on oc) (joinB ls)) := by
          rw [List.take_of_length_le (by omega)] at hO
          exact hO
        clear hO
        go_wp2
        go_ret2
        rw [HR.out]
        exact ⟨_, rfl, HO.out, hB⟩
end Go.Proofs.YtnahghldlkjleaaGreatDoor.Fr
