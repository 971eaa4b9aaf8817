/-
  Lists of bytes that came in; whether they are few; whether two lists are the same.
-/
import Derived.Test.YthhnjiodfbckcaaRowIn
import Derived.Test.YthhnjiodfbckcaaJoin
import Derived.Test.YthhnjiodfbckcaaSums
import Derived.Deep.Slices
namespace Go.Proofs.Ythhnjiodfbckcaa
open Go.ChangeShapes Go.WideShapes Go.ChangeAt Go.RowKit Go.Deep

/-- A slice of bytes as it came in reads some bytes. -/
theorem open_bytes {H : Type} {enc : TypeId × Value → H} {W : World} {base : Nat} {held : Bool} {fuel : Nat} {v : Value} {x : DataW H × List MemPlace}
    (h : DataW.trod enc Try.prog W base (fun _ => true) held fuel 22 [v] = some x) : ∃ l : List UInt8, Sl W.heap.size W v l := by
  rcases open_ints Try.underlying22 Try.underlying5 (by kernel_rfl) h with ⟨hcs, _⟩ | ⟨a, len, c, zs, hcs, _, hl, hm, hz, _, hcell, hwz⟩
  · cases hcs
    exact ⟨[], Sl.nil _ _⟩
  · cases hcs
    obtain ⟨l, rfl, hs⟩ := isRow_sl (w := W) (a := some a) (len := len) (cap := c) (zs := zs) (.inr ⟨_, rfl, hl, hm, by simpa using hz, hcell, hwz⟩)
    exact ⟨l, hs⟩

/-- A list of bytes as it came in. -/
theorem open_lists {H : Type} {enc : TypeId × Value → H} {W : World} {base : Nat} {held : Bool} {fuel : Nat} {v : Value} {x : DataW H × List MemPlace}
    (h : DataW.trod enc Try.prog W base (fun _ => true) held fuel 40 [v] = some x) : ∃ ls : List (List UInt8), Sls W.heap.size W v ls := by
  rcases open_slice1 Try.underlying40 (by kernel_rfl) h with ⟨hcs, _⟩ | ⟨a, len, cap, m, n, V, D, Pl, hcs, _, hl, hm, hmm, _, hV⟩
  · cases hcs
    exact ⟨[], ⟨none, 0, rfl, by simp, by unfold maxLen; omega, .inl rfl⟩⟩
  · cases hcs
    simp only [if_true] at hmm
    subst hmm
    have hb : ∀ i, i < m → ∃ l, Sl W.heap.size W (V i) l := fun i hi => open_bytes (hV i hi).2
    refine ⟨(List.range len).map (fun i => if h : i < m then (hb i h).choose else []), some a, m, by simp, by simpa using hl, hm, ?_⟩
    by_cases h0 : len = 0
    · left; subst h0; rfl
    · right
      obtain ⟨b, off, spot⟩ := a
      have hc0 := (hV 0 (by omega)).1
      have hspot : spot = none := by simpa [Addr.add] using World.cell?_spot hc0
      subst hspot
      refine ⟨b, off, rfl, ?_, fun i hi => ?_⟩
      · have := cell_lt hc0; rw [Addr.add_lit] at this; exact this
      · simp only [List.length_map, List.length_range] at hi
        have hi2 : i < m := by omega
        refine ⟨V i, by have := (hV i hi2).1; rw [Addr.add_lit] at this; exact this, ?_⟩
        have := (hb i hi2).choose_spec
        simpa [List.getElem?_map, List.getElem?_range hi, hi2] using this

/-- How many bytes they have. -/
def bulk (ls : List (List UInt8)) : Nat := (ls.map List.length).sum

theorem bulk_take (ls : List (List UInt8)) (k : Nat) (h : k < ls.length) : bulk (ls.take (k + 1)) = bulk (ls.take k) + (ls[k]?.getD []).length := by
  unfold bulk
  rw [List.take_succ_eq_append_getElem h, List.map_append, List.sum_append, List.getElem?_eq_getElem h]
  simp

/-- What Few returns. -/
def FewP (ls : List (List UInt8)) (e : Ending) : Prop := ∃ b : Bool, e = .returned (.bool b) ∧ (b = true → bulk ls ≤ 4000)

set_option maxRecDepth 100000 in
set_option maxHeartbeats 1000000 in
theorem few_any (N : Nat) (v : Value) (ls : List (List UInt8)) (w : World) (hv : Sls N w v ls) :
    Calls Try.prog 26 #[v, .int .i64 4000] w fun e w' => FewP ls e ∧ w' = w := by
  obtain ⟨a, cap, rfl, hll, hcm, -⟩ := id hv
  unfold maxLen at hcm
  go_enter Try.func26, Try.ntmps26
  go_wp2
  go_loop [5, 6] (fun s i => ∃ (k n : Nat), i = .int .i64 (k : Int) ∧ s = .int .i64 (n : Int) ∧ k ≤ ls.length ∧ n = bulk (ls.take k) ∧ n ≤ 4000) (fun _ i => ls.length - (intOf i).toNat)
  case atStart => exact ⟨0, 0, rfl, rfl, by omega, rfl, by omega⟩
  case round =>
    obtain ⟨k, n, rfl, rfl, hk, hb, hn⟩ := hrel
    have HB : Hid (n = bulk (ls.take k)) := hb
    clear hb
    by_cases hlt : k < ls.length
    · obtain ⟨b, off, ua, uc, rfl, hu, hsu⟩ := hv.at k hlt
      have HT : Hid (bulk (ls.take (k + 1)) = n + (ls[k]?.getD []).length) := by unfold Hid; rw [HB.out]; exact bulk_take ls k hlt
      have hul : (ls[k]?.getD []).length ≤ 9223372036854775807 := by obtain ⟨_, _, e, h1, h2, _⟩ := hsu; cases e; unfold maxLen at h2; omega
      clear hsu hv
      generalize ls[k]?.getD [] = l at *
      by_cases hf : (4000 : Int) - (n : Int) < (l.length : Int)
      · go_wp2
        go_ret
        exact ⟨⟨false, rfl, by simp⟩, rfl⟩
      · go_wp2
        go_round
        case rel => exact ⟨k + 1, n + l.length, by go_num, by go_num, by omega, HT.out.symm, by omega⟩
        case measure => simp [intOf]; omega
    · have HE : Hid (bulk ls ≤ 4000) := by
        have := HB.out
        rw [List.take_of_length_le (by omega)] at this
        unfold Hid; omega
      go_wp2
      go_ret
      exact ⟨⟨true, rfl, fun _ => HE.out⟩, rfl⟩

set_option maxRecDepth 100000 in
set_option maxHeartbeats 1000000 in
/-- Two lists that are the same. -/
theorem sameLists_any (N : Nat) (v1 v2 : Value) (ls : List (List UInt8)) (w : World) (h1 : Sls N w v1 ls) (h2 : Sls N w v2 ls) :
    Calls Try.prog 24 #[v1, v2] w fun e w' => e = .returned (.bool true) ∧ ∃ n, w' = w.drewN n := by
  obtain ⟨a1, c1, rfl, hl1, hm1, -⟩ := id h1
  obtain ⟨a2, c2, rfl, hl2, hm2, -⟩ := id h2
  unfold maxLen at hm1 hm2
  have H1 : Hid (Sls N w (.slice a1 ls.length c1) ls) := h1
  have H2 : Hid (Sls N w (.slice a2 ls.length c2) ls) := h2
  clear h1 h2
  go_enter Try.func24, Try.ntmps24
  go_wp2
  go_loopw [5] (fun i wr => ∃ (k n : Nat), i = .int .i64 (k : Int) ∧ k ≤ ls.length ∧ wr = w.drewN n) (fun i _ => ls.length - (intOf i).toNat)
  case atStart => exact ⟨0, 0, rfl, by omega, rfl⟩
  case round =>
    obtain ⟨k, n, rfl, hk, hwr⟩ := hrel
    have HWR : Hid (wr = w.drewN n) := hwr
    clear hwr
    by_cases hlt : k < ls.length
    · obtain ⟨b, off, ua, uc, rfl, hu, hsu⟩ := ((H1.out.below (below_drewN (Below.refl N w) n))).at k hlt
      obtain ⟨b2, off2, ua2, uc2, rfl, hu2, hsu2⟩ := (H2.out.below (below_drewN (Below.refl N w) n)).at k hlt
      rw [← HWR.out] at hu hsu hu2 hsu2
      generalize ls[k]?.getD [] = l at *
      have CS : Hid (∀ m, Calls Try.prog 14 #[.slice ua l.length uc, .slice ua2 l.length uc2] (wr.drewN m) fun e w' => e = .returned (.bool true) ∧ ∃ n', w' = (wr.drewN m).drewN n') := by
        intro m
        have := same_any N _ _ l l _ (hsu.below (below_drewN (Below.refl N _) m)) (hsu2.below (below_drewN (Below.refl N _) m))
        simpa using this
      clear hsu hsu2 H1 H2
      go_wp2
      go_quiet (first | (go_at_call 14; refine Calls.quiet_of (CS.out _)))
      go_wp2
      go_roundw
      case rel => exact ⟨k + 1, n + nq, by go_num, by omega, by rw [HWR.out]; simp⟩
      case measure => simp [intOf]; omega
    · go_wp2
      go_ret
      exact ⟨rfl, n, HWR.out⟩
end Go.Proofs.Ythhnjiodfbckcaa
