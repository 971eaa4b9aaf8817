/-
  The document's Counts, Valid.
-/
import Derived.Test.YtbcnpdpdflkanaaFw
namespace Go.Proofs.Ytbcnpdpdflkanaa
open Go.RowKit

theorem below_drew1 {N n : Nat} {w W : World} (h : Below N w W) : Below N w (W.drewN n) := ⟨h.os, h.tape, h.output, h.size, h.block⟩
set_option maxRecDepth 100000 in
theorem refCounts_any (x : Lo) (w : World) : Calls Try.prog 17 #[x.v] w fun e w' => e = .returned (.bool x.counts) ∧ w' = w.alloc x.box := by
  unfold Lo.v Lo.box Lo.cells at *
  unfold Lo.counts
  generalize str x.key = s1 at *
  generalize str x.val = s2 at *
  generalize str x.old = s3 at *
  generalize str x.rp.val = s4 at *
  by_cases hb : x.back = 0
  · have e0 : (x.back == 0) = true := by simpa using hb
    rw [if_pos hb]
    clear hb
    go_enter Try.func17, Try.ntmps17
    go_wp2
    go_ret
    exact ⟨by first | rfl | (simp [bne]; rfl), rfl⟩
  · have e0 : (x.back == 0) = false := by simpa using hb
    rw [if_neg hb]
    clear hb
    by_cases q1 : x.rp.code = 1
    · have b1 : (x.rp.code == 1) = true := by simpa using q1
      rw [show decide (x.rp.code = 1 ∨ x.rp.code = 2 ∨ x.rp.code = 3) = true by simp [q1]]
      clear q1
      go_enter Try.func17, Try.ntmps17
      go_wp2
      go_ret
      exact ⟨rfl, rfl⟩
    by_cases q2 : x.rp.code = 2
    · have b1 : (x.rp.code == 1) = false := by simpa using q1
      have b2 : (x.rp.code == 2) = true := by simpa using q2
      rw [show decide (x.rp.code = 1 ∨ x.rp.code = 2 ∨ x.rp.code = 3) = true by simp [q2]]
      clear q1 q2
      go_enter Try.func17, Try.ntmps17
      go_wp2
      go_ret
      exact ⟨rfl, rfl⟩
    have b1 : (x.rp.code == 1) = false := by simpa using q1
    have b2 : (x.rp.code == 2) = false := by simpa using q2
    rw [show decide (x.rp.code = 1 ∨ x.rp.code = 2 ∨ x.rp.code = 3) = (x.rp.code == 3) by simp [q1, q2]; rfl]
    clear q1 q2
    go_enter Try.func17, Try.ntmps17
    go_wp2
    go_ret
    exact ⟨by simp, rfl⟩

theorem sound_k1 {x : Lo} (h : x.kind < 1) : sound x = 6 := by unfold sound; rw [if_pos (.inl h)]
theorem sound_k2 {x : Lo} (h : 4 < x.kind) : sound x = 6 := by unfold sound; rw [if_pos (.inr h)]
theorem sound_c {x : Lo} (h1 : ¬ x.kind < 1) (h2 : ¬ 4 < x.kind) (h : x.call < 1) : sound x = 4 := by unfold sound; rw [if_neg (by omega), if_pos h]
theorem sound_o {x : Lo} (h1 : ¬ x.kind < 1) (h2 : ¬ 4 < x.kind) (h3 : ¬ x.call < 1) (h : x.back = 0) : sound x = if x.rp = ⟨0, []⟩ then 0 else 4 := by unfold sound; rw [if_neg (by omega), if_neg h3, if_pos h]
theorem sound_b {x : Lo} (h1 : ¬ x.kind < 1) (h2 : ¬ 4 < x.kind) (h3 : ¬ x.call < 1) (h : x.back ≠ 0) (h4 : x.back < x.call) : sound x = 4 := by unfold sound; rw [if_neg (by omega), if_neg h3, if_neg h, if_pos h4]
theorem sound_r {x : Lo} (h1 : ¬ x.kind < 1) (h2 : ¬ 4 < x.kind) (h3 : ¬ x.call < 1) (h : x.back ≠ 0) (h4 : ¬ x.back < x.call) : sound x = if x.rp.code < 1 ∨ 10 < x.rp.code then 4 else 0 := by unfold sound; rw [if_neg (by omega), if_neg h3, if_neg h, if_neg h4]

set_option maxRecDepth 100000 in
set_option maxHeartbeats 4000000 in
theorem refValid_any (N : Nat) (w : World) (a : Option Addr) (cap : Nat) (h : List Lo) (hN : N ≤ w.heap.size) (hA : HAt N w a h) (hm : h.length ≤ maxLen) :
    Calls Try.prog 18 #[.slice a h.length cap] w fun e w' => e = .returned (.int .i64 (valid h)) ∧ Below w.heap.size w w' := by
  unfold maxLen at hm
  by_cases hl : 400 < h.length
  · rw [valid_long hl]
    go_enter Try.func18, Try.ntmps18
    go_wp2
    go_ret
    exact ⟨rfl, Below.refl _ _⟩
  have hl' : ¬ (400 : Int) < (h.length : Int) := by omega
  go_enter Try.func18, Try.ntmps18
  go_wp2
  go_loopw [3] (fun i wr => ∃ (k : Nat), i = .int .i64 k ∧ k ≤ h.length ∧ (∀ j, j < k → sound (oat h j) = 0) ∧ Below w.heap.size w wr) (fun i _ => h.length - (intOf i).toNat)
  case atStart => exact ⟨0, rfl, by omega, fun j hj => by omega, Below.refl _ _⟩
  case round =>
    obtain ⟨k, rfl, hk, h0, hB⟩ := hrel
    have hz := hB.size
    have HH0 : Hid (∀ j, j < k → sound (oat h j) = 0) := h0
    clear h0
    by_cases hlt : k < h.length
    · obtain ⟨b, off, rfl, hb, hcs⟩ := (hA.below (hB.mono hN)).at hlt
      obtain ⟨c0, c1, c2, c3, c4, c5, c6, c7, c8, c9⟩ := hcs
      unfold str at c3 c4 c5 c9
      have HV : Hid (∀ s, sound (oat h k) = s → s ≠ 0 → valid h = s) := fun s hs hne => by rw [← hs]; exact valid_bad (by omega) HH0.out hlt (by rw [hs]; exact hne)
      have HN : Hid (sound (oat h k) = 0 → ∀ j, j < k + 1 → sound (oat h j) = 0) := fun hs j hj => by
        by_cases e : j = k
        · rw [e]; exact hs
        · exact HH0.out j (by omega)
      have HB1 : Hid (∀ o : Obj, Below w.heap.size w (wr.alloc o)) := fun o => hB.alloc hz _
      generalize oat h k = x at *
      obtain ⟨cl, sq, kind, key, val, old, call, back, code, rv⟩ := x
      dsimp only at c0 c1 c2 c3 c4 c5 c6 c7 c8 c9
      clear HH0
      by_cases k1 : kind < 1
      · have HVS : Hid (valid h = 6) := HV.out 6 (sound_k1 k1) (by decide)
        clear HV HN
        go_wp2
        go_ret
        exact ⟨by rw [HVS.out]; rfl, HB1.out _⟩
      by_cases k2 : 4 < kind
      · have HVS : Hid (valid h = 6) := HV.out 6 (sound_k2 k2) (by decide)
        clear HV HN
        go_wp2
        go_ret
        exact ⟨by rw [HVS.out]; rfl, HB1.out _⟩
      by_cases k3 : call < 1
      · have HVS : Hid (valid h = 4) := HV.out 4 (sound_c k1 k2 k3) (by decide)
        clear HV HN
        go_wp2
        go_ret
        exact ⟨by rw [HVS.out]; rfl, HB1.out _⟩
      by_cases k4 : back = 0
      · have k5 : ¬ back < 0 := by omega
        by_cases hr : (⟨code, rv⟩ : Rp) = ⟨0, []⟩
        · have HSO := sound_o (x := ⟨cl, sq, kind, key, val, old, call, back, ⟨code, rv⟩⟩) k1 k2 k3 k4
          dsimp only at HSO
          rw [if_pos hr] at HSO
          injection hr with r1 r2
          subst r1 r2 k4
          have HNS : Hid (∀ j, j < k + 1 → sound (oat h j) = 0) := HN.out (HSO)
          clear HV HN
          go_wp2
          go_roundw
          case rel => exact ⟨k + 1, by simp, by omega, HNS.out, HB1.out _⟩
          case measure => simp [intOf]; omega
        · have HSO := sound_o (x := ⟨cl, sq, kind, key, val, old, call, back, ⟨code, rv⟩⟩) k1 k2 k3 k4
          dsimp only at HSO
          rw [if_neg hr] at HSO
          have hdj : (code == 0) = false ∨ ((code == 0) = true ∧ (rv == []) = false) := by
            by_cases v1 : code = 0
            · right; exact ⟨by simpa using v1, by simp only [beq_eq_false_iff_ne, ne_eq]; intro v2; exact hr (by rw [v1, v2])⟩
            · left; simpa using v1
          have HVS : Hid (valid h = 4) := HV.out 4 HSO (by decide)
          subst k4
          clear HV HN hr HSO
          rcases hdj with d1 | ⟨d1, d2⟩
          · go_wp2
            go_ret
            exact ⟨by rw [HVS.out]; rfl, HB1.out _⟩
          · go_wp2
            go_ret
            exact ⟨by rw [HVS.out]; rfl, HB1.out _⟩
      have k4b : (back == 0) = false := by simpa using k4
      by_cases k5 : back < 0
      · have HVS : Hid (valid h = 4) := HV.out 4 (sound_b k1 k2 k3 k4 (show back < call by omega)) (by decide)
        clear HV HN
        go_wp2
        go_ret
        exact ⟨by rw [HVS.out]; rfl, HB1.out _⟩
      by_cases k6 : back < call
      · have HVS : Hid (valid h = 4) := HV.out 4 (sound_b k1 k2 k3 k4 k6) (by decide)
        clear HV HN
        go_wp2
        go_ret
        exact ⟨by rw [HVS.out]; rfl, HB1.out _⟩
      have HSO := sound_r (x := ⟨cl, sq, kind, key, val, old, call, back, ⟨code, rv⟩⟩) k1 k2 k3 k4 k6
      dsimp only at HSO
      by_cases k7 : code < 1
      · rw [if_pos (.inl k7)] at HSO
        have HVS : Hid (valid h = 4) := HV.out 4 (HSO) (by decide)
        clear HV HN
        go_wp2
        go_ret
        exact ⟨by rw [HVS.out]; rfl, HB1.out _⟩
      by_cases k8 : 10 < code
      · rw [if_pos (.inr k8)] at HSO
        have HVS : Hid (valid h = 4) := HV.out 4 (HSO) (by decide)
        clear HV HN
        go_wp2
        go_ret
        exact ⟨by rw [HVS.out]; rfl, HB1.out _⟩
      rw [if_neg (by omega)] at HSO
      have HNS : Hid (∀ j, j < k + 1 → sound (oat h j) = 0) := HN.out (HSO)
      clear HV HN
      go_wp2
      go_roundw
      case rel => exact ⟨k + 1, by simp, by omega, HNS.out, HB1.out _⟩
      case measure => simp [intOf]; omega
    · have : k = h.length := by omega
      subst this
      go_wp2
      go_loopw [6] (fun i wr => ∃ (k : Nat), i = .int .i64 k ∧ k ≤ h.length ∧ (∀ j, j < k → cntK h h.length (oat h j).key ≤ 12) ∧ Below w.heap.size w wr) (fun i _ => h.length - (intOf i).toNat)
      case atStart => exact ⟨0, rfl, by omega, fun j hj => by omega, hB⟩
      case round =>
        obtain ⟨k, rfl, hk2, h2, hB2⟩ := hrel
        have hz2 := hB2.size
        have HH2 : Hid (∀ j, j < k → cntK h h.length (oat h j).key ≤ 12) := h2
        clear h2 hB
        generalize wr = wq at *
        by_cases hlt : k < h.length
        · have HCK : Hid (cntK h h.length (oat h k).key ≤ 12 → ∀ j, j < k + 1 → cntK h h.length (oat h j).key ≤ 12) := fun hs j hj => by
            by_cases e : j = k
            · rw [e]; exact hs
            · exact HH2.out j (by omega)
          have HVM : Hid (12 < cntK h h.length (oat h k).key → valid h = 23) := fun hs => valid_many (by omega) HH0.out hs
          go_wp2
          go_loopw [8, 7] (fun m n wr => ∃ (j : Nat), m = .int .i64 j ∧ j ≤ h.length ∧ n = .int .i64 (cntK h j (oat h k).key) ∧ Below w.heap.size w wr) (fun m _ _ => h.length - (intOf m).toNat)
          case atStart => exact ⟨0, rfl, by omega, rfl, hB2⟩
          case round =>
            obtain ⟨j, rfl, hj, rfl, hB3⟩ := hrel
            have hz3 := hB3.size
            have hle := cntK_le h j (oat h k).key
            by_cases hlj : j < h.length
            · obtain ⟨b, off, rfl, hb, hcs⟩ := (hA.below (hB3.mono hN)).at hlj
              obtain ⟨b', off', hbe, -, hck⟩ := (hA.below (hB3.mono hN)).at hlt
              cases hbe
              have HX := refCounts_any (oat h j)
              have hsucc := cntK_succ h j (oat h k).key
              unfold mine at hsucc
              have HB4 : Hid (∀ o : Obj, Below w.heap.size w (wr.alloc o)) := fun o => hB3.alloc hz3 _
              generalize hxe : oat h j = x at *
              generalize hye : (oat h k) = y at *
              obtain ⟨c0, c1, c2, c3, c4, c5, c6, c7, c8, c9⟩ := hcs
              obtain ⟨-, -, -, e3, -, -, -, -, -, -⟩ := hck
              have q1 := past1 (w1 := wr) (b := b) (by omega)
              unfold Lo.v Lo.box Lo.cells at HX
              unfold str at HX c3 c4 c5 c9 e3
              clear hxe hye
              by_cases hx : x.counts = true
              · rw [hx] at HX hsucc
                clear hx
                by_cases hky : x.key = y.key
                · have hs : cntK h (j + 1) y.key = cntK h j y.key + 1 := by rw [hsucc]; simp [hky]
                  have HSU : Hid (cntK h (j + 1) y.key = cntK h j y.key + 1) := hs
                  rw [hky] at c3 HX
                  clear hsucc hs hky
                  generalize cntK h j y.key = cn at *
                  go_wp2_with (go_at_call 17; refine (HX _).mono ?_; rintro e w4 ⟨rfl, rfl⟩)
                  go_quiet (fail)
                  go_wp2
                  go_roundw
                  case rel => exact ⟨j + 1, by simp, by omega, by rw [HSU.out]; simp, below_drew1 (HB4.out _)⟩
                  case measure => simp [intOf]; omega
                · have hs : cntK h (j + 1) y.key = cntK h j y.key := by rw [hsucc]; simp [hky]
                  have HSU : Hid (cntK h (j + 1) y.key = cntK h j y.key) := hs
                  have hkb : (x.key == y.key) = false := by simpa using hky
                  clear hsucc hs hky
                  generalize cntK h j y.key = cn at *
                  go_wp2_with (go_at_call 17; refine (HX _).mono ?_; rintro e w4 ⟨rfl, rfl⟩)
                  go_quiet (fail)
                  go_wp2
                  go_roundw
                  case rel => exact ⟨j + 1, by simp, by omega, by rw [HSU.out], below_drew1 (HB4.out _)⟩
                  case measure => simp [intOf]; omega
              · have hx' : x.counts = false := by simpa using hx
                rw [hx'] at HX hsucc
                have hs : cntK h (j + 1) y.key = cntK h j y.key := by rw [hsucc]; simp
                have HSU : Hid (cntK h (j + 1) y.key = cntK h j y.key) := hs
                clear hsucc hs hx hx'
                generalize cntK h j y.key = cn at *
                go_wp2_with (go_at_call 17; refine (HX _).mono ?_; rintro e w4 ⟨rfl, rfl⟩)
                go_quiet (fail)
                go_wp2
                go_roundw
                case rel => exact ⟨j + 1, by simp, by omega, by rw [HSU.out], below_drew1 (HB4.out _)⟩
                case measure => simp [intOf]; omega
            · have : j = h.length := by omega
              subst this
              generalize cntK h h.length (oat h k).key = cn at *
              by_cases hgt : 12 < cn
              · have HV : Hid (valid h = 23) := HVM.out hgt
                have hgt' : (12 : Int) < (cn : Int) := by omega
                go_wp2
                go_ret
                exact ⟨by rw [HV.out]; rfl, hB3⟩
              · have HC2 : Hid (∀ j, j < k + 1 → _) := HCK.out (by omega)
                have hgt' : ¬ (12 : Int) < (cn : Int) := by omega
                go_wp2
                go_roundw
                case rel => exact ⟨k + 1, by simp, by omega, HC2.out, hB3⟩
                case measure => simp [intOf]; omega
        · have : k = h.length := by omega
          subst this
          have HV : Hid (valid h = 0) := valid_ok (by omega) HH0.out (fun q => by
            by_cases hk0 : cntK h h.length q = 0
            · omega
            · obtain ⟨j, hj, hmj⟩ := cntK_pos.1 (show 0 < cntK h h.length q by omega)
              have := HH2.out j hj
              unfold mine at hmj
              simp only [Bool.and_eq_true, decide_eq_true_eq] at hmj
              rw [hmj.1] at this
              exact this)
          go_wp2
          go_ret
          exact ⟨by rw [HV.out]; rfl, hB2⟩
end Go.Proofs.Ytbcnpdpdflkanaa
