/-
  Whether a history may be judged.
-/
import Derived.Test.YtbcnpdpdflkanaaKs
namespace Go.Proofs.Ytbcnpdpdflkanaa
open Go.RowKit

theorem oat_cons (x : Lo) (h : List Lo) (i : Nat) : oat (x :: h) (i + 1) = oat h i := rfl
theorem sounds_first : ∀ {h : List Lo} {k : Nat}, (∀ i, i < k → sound (oat h i) = 0) → k < h.length → sound (oat h k) ≠ 0 → sounds h = sound (oat h k)
  | [], _, _, hk, _ => by simp at hk
  | x :: r, 0, _, _, hs => by unfold sounds; rw [if_neg (by exact hs)]; rfl
  | x :: r, k + 1, h0, hk, hs => by
    unfold sounds
    rw [if_pos (by exact h0 0 (by omega))]
    exact sounds_first (fun i hi => h0 (i + 1) (by omega)) (by simpa using hk) hs
theorem sounds_all : ∀ {h : List Lo}, (∀ i, i < h.length → sound (oat h i) = 0) → sounds h = 0
  | [], _ => rfl
  | x :: r, h0 => by
    unfold sounds
    rw [if_pos (by exact h0 0 (by simp))]
    exact sounds_all (fun i hi => h0 (i + 1) (by simpa using hi))
theorem many_eq (h : List Lo) (x : Lo) : many h x = cntK h h.length x.key := rfl
theorem valid_long {h : List Lo} (hl : 400 < h.length) : valid h = 23 := by unfold valid; rw [if_pos hl]
theorem valid_bad {h : List Lo} (hl : h.length ≤ 400) {k : Nat} (h0 : ∀ i, i < k → sound (oat h i) = 0) (hk : k < h.length) (hs : sound (oat h k) ≠ 0) : valid h = sound (oat h k) := by
  unfold valid
  rw [if_neg (by omega), sounds_first h0 hk hs, if_pos hs]
theorem valid_many {h : List Lo} (hl : h.length ≤ 400) (h0 : ∀ i, i < h.length → sound (oat h i) = 0) {k : Bs} (hk : 12 < cntK h h.length k) : valid h = 23 := by
  unfold valid
  rw [if_neg (by omega), sounds_all h0, if_neg (by simp), if_neg]
  intro hall
  obtain ⟨j, hj, hm⟩ := cntK_pos.1 (show 0 < cntK h h.length k by omega)
  have := List.all_eq_true.1 hall _ (oat_mem hj)
  unfold mine at hm
  simp only [Bool.and_eq_true, decide_eq_true_eq] at hm
  rw [hm.2, many_eq, hm.1] at this
  simp at this
  omega
theorem valid_ok {h : List Lo} (hl : h.length ≤ 400) (h0 : ∀ i, i < h.length → sound (oat h i) = 0) (hk : ∀ k, cntK h h.length k ≤ 12) : valid h = 0 := by
  unfold valid
  rw [if_neg (by omega), sounds_all h0, if_neg (by simp), if_pos]
  refine List.all_eq_true.2 fun x _ => ?_
  rw [many_eq]
  simp [hk x.key]

set_option maxRecDepth 100000 in
set_option maxHeartbeats 2000000 in
theorem valid_any (N : Nat) (w : World) (a : Option Addr) (cap : Nat) (h : List Lo) (hN : N ≤ w.heap.size) (hA : HAt N w a h) (hok : ∀ x ∈ h, LoOk x) (hm : h.length ≤ maxLen) :
    Calls Try.prog 11 #[.slice a h.length cap] w fun e w' => e = .returned (.int .i64 (valid h)) ∧ Below w.heap.size w w' := by
  have HS := sound_any
  unfold maxLen at hm
  by_cases hl : 400 < h.length
  · rw [valid_long hl]
    go_enter Try.func11, Try.ntmps11
    go_wp2
    go_ret
    exact ⟨rfl, Below.refl _ _⟩
  have hl' : ¬ (400 : Int) < (h.length : Int) := by omega
  go_enter Try.func11, Try.ntmps11
  go_wp2
  go_loopw [13] (fun i wr => ∃ (k : Nat), i = .int .i64 k ∧ k ≤ h.length ∧ (∀ j, j < k → sound (oat h j) = 0) ∧ Below w.heap.size w wr) (fun i _ => h.length - (intOf i).toNat)
  case atStart => exact ⟨0, rfl, by omega, fun j hj => by omega, Below.refl _ _⟩
  case round =>
    obtain ⟨k, rfl, hk, h0, hB⟩ := hrel
    have hz := hB.size
    by_cases hlt : k < h.length
    · obtain ⟨b, off, rfl, hb, hcs⟩ := (hA.below (hB.mono hN)).at hlt
      have HX := HS (oat h k)
      obtain ⟨c0, c1, c2, c3, c4, c5, c6, c7, c8, c9⟩ := hcs
      unfold Lo.v at HX
      unfold str at HX c3 c4 c5 c9
      have HH0 : Hid (∀ j, j < k → sound (oat h j) = 0) := h0
      clear h0
      generalize hxe : oat h k = x at *
      have HXE : Hid (oat h k = x) := hxe
      clear hxe
      by_cases hs : sound x = 0
      · rw [hs] at HX
        go_wp2_with (go_at_call 28; refine (HX _).mono ?_; rintro e w1 ⟨rfl, hB1⟩)
        go_roundw
        case rel =>
          refine ⟨k + 1, by simp, by omega, fun j hj => ?_, (hB.alloc hz _).trans (hB1.mono (by simp; omega))⟩
          by_cases e : j = k
          · subst e; rw [HXE.out]; exact hs
          · exact HH0.out j (by omega)
        case measure => simp [intOf]; omega
      · have hsd : (sound x != 0) = true := by simpa using hs
        have HV : Hid (valid h = sound x) := by have := valid_bad (by omega) HH0.out hlt (by rw [HXE.out]; exact hs); rw [HXE.out] at this; exact this
        generalize sound x = s at *
        clear hs
        go_wp2_with (go_at_call 28; refine (HX _).mono ?_; rintro e w1 ⟨rfl, hB1⟩)
        go_ret
        exact ⟨by rw [HV.out]; rfl, (hB.alloc hz _).trans (hB1.mono (by simp; omega))⟩
    · have : k = h.length := by omega
      subst this
      have HH0 : Hid (∀ j, j < h.length → sound (oat h j) = 0) := h0
      clear h0
      have HCO := counted_any N wr a cap h (by omega) (hA.below (hB.mono hN)) hok (by omega)
      go_wp2_with (first
        | (go_at_call 29; refine HCO.mono ?_; rintro e w1 ⟨b, D, rfl, hM, hC, hb, hB1⟩)
        | (at_range; refine wpList_range_own _ rfl _ 52 rfl 9 3 (Maps.string_keyed Try.underlying9) Try.underlying52 _ b _ D rfl hM ?_; intro w2 hrg2 hg2 hs2)
        | go_in)
      have hB2 : Below w.heap.size w w2 := (hB.trans (hB1.mono hz)).grown hg2 (by have := hB1.size; omega) (fun q hq => by cases hq)
      have hz1 := hB1.size
      go_frame
      go_loopw [7] (fun _ wr => ∃ (left : Lit → Bool) (cnt : Nat), wr.ranges Try.prog 9 (plainElem Try.prog 3) b w1.heap.size h.length D left cnt ∧ (∀ k, Maps.has D (.string k) = true → left (.string k) = false → cntK h h.length k ≤ 12) ∧ Below w.heap.size w wr ∧ w1.heap.size ≤ wr.heap.size) (fun _ wr => wr.rangeLeft b w1.heap.size)
      case atStart => exact ⟨_, _, hrg2, fun k h1 h2 => by rw [h1] at h2; (cases h2), hB2, by omega⟩
      case round =>
        obtain ⟨left, cnt, hrg, hall, hB3, hz3⟩ := hrel
        go_wp2_with (first
          | (at_next; refine wpList_next_ranges _ rfl _ rfl 9 (Maps.string_keyed Try.underlying9) _ encStr (fun c : Int => .int .i64 c) (fun key kl hk => by obtain ⟨x, hx, _⟩ := Maps.keyOf_str Try.underlying9 hk; exact ⟨x, hx⟩) (fun v y hv => by obtain ⟨c, hc, _⟩ := plainElem_int_inv Try.underlying3 hv; exact ⟨c, hc⟩) b w1.heap.size h.length D left cnt rfl hrg ?_ ?_)
          | go_in)
        · intro _ hl0
          have HV : Hid (valid h = 0) := valid_ok (by omega) HH0.out (fun k => by
            by_cases hk0 : cntK h h.length k = 0
            · omega
            · exact hall k (by rw [hC.has]; simp; omega) (hl0 _))
          go_wp2
          go_ret
          exact ⟨by rw [HV.out]; rfl, hB3⟩
        · intro x c kl y1 y2 w4 cnt4 hkey hlk hv hat hrg4 hlt4 hg4 hs4 hen
          obtain ⟨x', hx', rfl, -⟩ := Maps.keyOf_str Try.underlying9 hkey
          obtain rfl := encStr_inj hx'
          obtain ⟨c', hc', hy, -⟩ := plainElem_int_inv Try.underlying3 hv
          cases hc'
          cases hy
          have hcv := (hC.at0 x).symm.trans (hat _)
          obtain rfl : (cntK h h.length x : Int) = c := by simpa using hcv
          have hB4 : Below w.heap.size w w4 := hB3.grown hg4 (by omega) (fun q hq => by cases hq; omega)
          have HL : Hid (left (.string x) = true) := hlk
          have HA : Hid (∀ k, Maps.has D (.string k) = true → left (.string k) = false → cntK h h.length k ≤ 12) := hall
          clear hlk hall hkey hv hat hcv hA hok
          by_cases hgt : 12 < cntK h h.length x
          · have HV : Hid (valid h = 23) := valid_many (by omega) HH0.out hgt
            have hgt' : (12 : Int) < (cntK h h.length x : Int) := by omega
            go_wp2
            go_ret
            exact ⟨by rw [HV.out]; rfl, hB4⟩
          · have hgt' : ¬ (12 : Int) < (cntK h h.length x : Int) := by omega
            go_wp2
            go_roundw
            case rel =>
              refine ⟨_, _, hrg4, fun k hk hk2 => ?_, hB4, by omega⟩
              by_cases e : k = x
              · subst e; omega
              · refine HA.out k hk ?_
                have hne : (Lit.string k).sameKey (.string x) = false := by
                  cases hq : (Lit.string k).sameKey (.string x)
                  · rfl
                  · exact absurd (by simpa using WideAt.sameKey_eq hq) e
                rw [hne] at hk2
                simpa using hk2
            case measure => rw [hrg4.left_eq, hrg.left_eq]; omega
end Go.Proofs.Ytbcnpdpdflkanaa
