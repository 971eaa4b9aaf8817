/-
  TrackMatch: the walk.
-/
import Derived.Test.YtdgaimiggejleabPk
namespace Go.Proofs.Ytdgaimiggejleab
open Go.RowKit
set_option linter.unusedVariables false

set_option maxRecDepth 100000 in
set_option maxHeartbeats 8000000 in
theorem match_walk (z0 z1 : Int) (hb1 : In64 z1) (ea : Option Addr) (ec : Nat) (es : List Ded) (w : World) (hx : DedAts w.heap.size w ea es) (hel : es.length ≤ 9223372036854775807) :
    Calls Try.prog 4 #[.int .i64 z0, .int .i64 z1, .slice ea es.length ec] w fun e w' => e = .returned (.bool true) ∧ Below w.heap.size w w' := by
  obtain ⟨x, y, R, e1, e2, e3, e4, hR1, hR2, -⟩ := small64 z1 hb1
  have HF : Hid (Calls _ _ _ _ _) := first_any w
  have HX : Hid (DedAts w.heap.size w ea es) := hx
  clear hb1 hx
  go_enter Try.func4, Try.ntmps4
  go_wp2_with fail
  refine HF.out.mono ?_
  rintro r w1 ⟨rfl, hB1⟩
  have HB1 : Hid (Below w.heap.size w w1) := hB1
  clear hB1 HF
  go_wp2_with fail
  refine (New_E R z0 w.heap.size w1 hR1 hR2 HB1.out.size).mono ?_
  rintro r w2 ⟨b, rfl, hP2, hB2⟩
  have HP2 : Hid (PE w.heap.size w2 b (pNew z0 R)) := hP2
  have HB2 : Hid (Below w.heap.size w w2) := HB1.out.trans (hB2.mono HB1.out.size)
  clear hP2 hB2 HB1 e1 e2 e3 e4
  by_cases hl : es.length ≤ 400
  · by_cases hz : z0 ≤ 4611686018427387904
    · have HO2 : Hid (pNew z0 R).Ok := pNew_ok hR1 hz
      clear hR1 hR2
      go_wp2
      go_loopw [9, 10] (fun tv iv wr => ∃ (k : Nat) (p : PP), tv = .int .i64 p.m ∧ iv = .int .i64 (k : Int) ∧ k ≤ es.length ∧ p.Ok ∧ PE w.heap.size wr b p ∧ Below w.heap.size w wr) (fun _ iv _ => es.length - (intOf iv).toNat)
      case atStart => exact ⟨0, _, rfl, rfl, Nat.zero_le _, HO2.out, HP2.out, HB2.out⟩
      case round =>
        obtain ⟨k, p, rfl, rfl, hk, hO, hP, hB⟩ := hrel
        have HO : Hid p.Ok := hO
        have HP : Hid (PE w.heap.size wr b p) := hP
        have HB : Hid (Below w.heap.size w wr) := hB
        clear hO hP hB HO2 HP2 HB2
        by_cases hlt : k < es.length
        · obtain ⟨g, off, rfl, hg, hd⟩ := HX.out.at hlt
          have hd' := hd.below hg HB.out
          obtain ⟨⟨c0, c1, c2⟩, -⟩ := hd'
          have HNX : Hid (∀ (p' : PP) (wn : World), p'.Ok → PE w.heap.size wn b p' → Below w.heap.size w wn → ∀ t : Int, t = p'.m → (∃ (k' : Nat) (q : PP), Value.int .i64 t = .int .i64 q.m ∧ Value.int .i64 ((k : Int) + 1) = .int .i64 (k' : Int) ∧ k' ≤ es.length ∧ q.Ok ∧ PE w.heap.size wn b q ∧ Below w.heap.size w wn) ∧ es.length - (intOf (Value.int .i64 ((k : Int) + 1))).toNat < es.length - (intOf (Value.int .i64 (k : Int))).toNat) := fun p' wn h1 h2 h3 t ht =>
            ⟨⟨k + 1, p', by rw [ht], by simp, hlt, h1, h2, h3⟩, by simp [intOf]; omega⟩
          have HNB : Hid (w.heap.size ≤ wr.heap.size) := HB.out.size
          clear hd hel
          have hkk : (k : Int) < (es.length : Int) := by omega
          generalize (es.getD k nilDed).kd = dk at *
          generalize (es.getD k nilDed).n = dn at *
          generalize (es.getD k nilDed).m = dm at *
          cases hn : numB dn with
          | false =>
            go_wp2_with (go_at_call 11; refine (number_any _ _).mono ?_; rintro r wq ⟨rfl, hwq⟩; subst wq; rw [hn])
            go_ret
            exact ⟨rfl, HB.out⟩
          | true =>
          cases hm : numB dm with
          | false =>
            go_wp2_with (go_at_call 11; refine (number_any _ _).mono ?_; rintro r wq ⟨rfl, hwq⟩; subst wq; first | rw [hn] | rw [hm])
            go_ret
            exact ⟨rfl, HB.out⟩
          | true =>
          cases hq : numB p.n with
          | false =>
            go_wp2_with (first
              | (go_at_call 11; refine (number_any _ _).mono ?_; rintro r wq ⟨rfl, hwq⟩; subst wq; first | rw [hn] | rw [hm] | rw [hq])
              | (go_at_call 12; refine (Next_E HP.out).mono ?_; rintro r wq ⟨rfl, hwq⟩; subst wq))
            go_ret
            exact ⟨rfl, HB.out⟩
          | true =>
          have hn' := numB_iff hn
          have hm' := numB_iff hm
          have HNN : Hid (0 ≤ dn ∧ dn ≤ 4611686018427387904) := hn'
          have HMM : Hid (0 ≤ dm ∧ dm ≤ 4611686018427387904) := hm'
          clear hn' hm'
          go_wp2_with fail
          refine (number_any _ _).mono ?_
          rintro r wq ⟨rfl, hwq⟩
          subst wq
          rw [hn]
          go_wp2_with fail
          refine (number_any _ _).mono ?_
          rintro r wq ⟨rfl, hwq⟩
          subst wq
          rw [hm]
          go_wp2_with fail
          refine (Next_E HP.out).mono ?_
          rintro r wq ⟨rfl, hwq⟩
          subst wq
          go_wp2_with fail
          refine (number_any _ _).mono ?_
          rintro r wq ⟨rfl, hwq⟩
          subst wq
          rw [hq]
          clear hn hm hq
          by_cases k0 : dk = 0
          · as_aux_lemma =>
            subst k0
            go_wp2_with fail
            refine (Sent_E HP.out HNB.out HO.out dn HNN.out.1 HNN.out.2).mono ?_
            rintro r w5 ⟨rfl, hP, hB⟩
            have HP5 : Hid (PE w.heap.size w5 b (p.sent dn)) := hP
            have HB5 : Hid (Below w.heap.size w w5) := HB.out.trans hB
            have HO5 : Hid ((p.sent dn).Ok) := HO.out.sent HNN.out.1 HNN.out.2
            clear hP hB
            go_wp2_with fail
            refine (Match_E HP5.out).mono ?_
            rintro r wq ⟨rfl, hwq⟩
            subst wq
            rw [PP.sent_m]
            go_wp2
            exact HNX.out _ _ HO5.out HP5.out HB5.out p.m (by rw [PP.sent_m])
          by_cases k1 : dk = 1
          · as_aux_lemma =>
            subst k1
            have HAK : Hid (∀ w4, Below wr.heap.size wr w4 → Calls Try.prog 14 #[.pointer (some ⟨b, 0, none⟩), .int .i64 dn] w4 fun e w' => e = .returned (.bool (decide (p.m < dn))) ∧ PE w.heap.size w' b (p.acked dn) ∧ Below w.heap.size w w') := fun w4 h4 => (Acked_E (HP.out.below h4) (Nat.le_trans HNB.out h4.size) HO.out dn HNN.out.1 HNN.out.2).mono fun e w' h => ⟨h.1, h.2.1, HB.out.trans ((h4.mono HNB.out).trans h.2.2)⟩
            have HCC : Hid (∀ w5, Below w.heap.size w w5 → w5.cell? ⟨g, off + k * 3 + 1, none⟩ = some (.int .i64 dn)) := fun w5 h5 => by
              have h6 := (HX.out.at hlt)
              exact (h5.cell (p := ⟨g, off + k * 3 + 1, none⟩) hg).trans (((HB.out.cell (p := ⟨g, off + k * 3 + 1, none⟩) hg).symm).trans c1)
            go_wp2_with fail
            go_region_held3 (fun w' => w'.cell? ⟨g, off + k * 3 + 1, none⟩ = some (.int .i64 dn)) (go_keep)
              (first
                | (go_at_call 14; refine (HAK.out _ (Below.refl _ _).drew).mono ?_; rintro r w5 ⟨rfl, hP, hB⟩; have HP5 : Hid (PE w.heap.size w5 b (p.acked dn)) := hP; have HB5 : Hid (Below w.heap.size w w5) := hB; have q1 := HCC.out w5 hB; clear hP hB)
                | fail)
            have HO5 : Hid ((p.acked dn).Ok) := HO.out.acked HNN.out.1 HNN.out.2
            have q1 := HCC.out _ HB5.out
            have hbn : (decide (p.m < dn) != decide (p.m < dn)) = false := by simp
            go_wp2_with fail
            refine (Match_E HP5.out).mono ?_
            rintro r wq ⟨rfl, hwq⟩
            subst wq
            rw [PP.acked_m]
            go_wp2
            exact HNX.out _ _ HO5.out HP5.out HB5.out (max p.m dn) (by rw [PP.acked_m])
          by_cases k2 : dk = 2
          · as_aux_lemma =>
            subst k2
            have HAK : Hid (∀ w4, Below wr.heap.size wr w4 → Calls Try.prog 15 #[.pointer (some ⟨b, 0, none⟩), .int .i64 dn, .int .i64 dm] w4 fun e w' => e = .returned (.bool (p.rejY dn)) ∧ PE w.heap.size w' b (p.rej dn dm) ∧ Below w.heap.size w w') := fun w4 h4 => (Rejected_E (HP.out.below h4) (Nat.le_trans HNB.out h4.size) HO.out dn dm HMM.out.1 HMM.out.2).mono fun e w' h => ⟨h.1, h.2.1, HB.out.trans ((h4.mono HNB.out).trans h.2.2)⟩
            have HCC : Hid (∀ w5, Below w.heap.size w w5 → w5.cell? ⟨g, off + k * 3 + 1, none⟩ = some (.int .i64 dn) ∧ w5.cell? ⟨g, off + k * 3 + 2, none⟩ = some (.int .i64 dm)) := fun w5 h5 =>
              ⟨(h5.cell (p := ⟨g, off + k * 3 + 1, none⟩) hg).trans (((HB.out.cell (p := ⟨g, off + k * 3 + 1, none⟩) hg).symm).trans c1), (h5.cell (p := ⟨g, off + k * 3 + 2, none⟩) hg).trans (((HB.out.cell (p := ⟨g, off + k * 3 + 2, none⟩) hg).symm).trans c2)⟩
            go_wp2_with fail
            go_region_held3 (fun w' => w'.cell? ⟨g, off + k * 3 + 1, none⟩ = some (.int .i64 dn) ∧ w'.cell? ⟨g, off + k * 3 + 2, none⟩ = some (.int .i64 dm)) (go_keep)
              (first
                | (go_at_call 15; refine (HAK.out _ (Below.refl _ _).drew).mono ?_; rintro r w5 ⟨rfl, hP, hB⟩; have HP5 : Hid (PE w.heap.size w5 b (p.rej dn dm)) := hP; have HB5 : Hid (Below w.heap.size w w5) := hB; obtain ⟨q1, q2⟩ := HCC.out w5 hB; clear hP hB)
                | fail)
            have HO5 : Hid ((p.rej dn dm).Ok) := HO.out.rej dn dm
            go_wp2_with fail
            refine (Match_E HP5.out).mono ?_
            rintro r wq ⟨rfl, hwq⟩
            subst wq
            rw [PP.rej_m]
            go_wp2
            exact HNX.out _ _ HO5.out HP5.out HB5.out p.m (by rw [PP.rej_m])
          by_cases k3 : dk = 3
          · as_aux_lemma =>
            subst k3
            go_wp2_with fail
            refine (Beat_E HP.out HNB.out HO.out).mono ?_
            rintro r w5 ⟨rfl, hP, hB⟩
            have HP5 : Hid (PE w.heap.size w5 b (p.beat)) := hP
            have HB5 : Hid (Below w.heap.size w w5) := HB.out.trans hB
            have HO5 : Hid ((p.beat).Ok) := HO.out.beat
            clear hP hB
            go_wp2_with fail
            refine (Match_E HP5.out).mono ?_
            rintro r wq ⟨rfl, hwq⟩
            subst wq
            rw [PP.beat_m]
            go_wp2
            exact HNX.out _ _ HO5.out HP5.out HB5.out p.m (by rw [PP.beat_m])
          · as_aux_lemma =>
            have b0 : (dk == 0) = false := by simpa using k0
            have b1 : (dk == 1) = false := by simpa using k1
            have b2 : (dk == 2) = false := by simpa using k2
            have b3 : (dk == 3) = false := by simpa using k3
            go_wp2_with fail
            refine (Snap_E HP.out HNB.out dn).mono ?_
            rintro r w5 ⟨rfl, hP, hB⟩
            have HP5 : Hid (PE w.heap.size w5 b (p.snap dn)) := hP
            have HB5 : Hid (Below w.heap.size w w5) := HB.out.trans hB
            have HO5 : Hid ((p.snap dn).Ok) := HO.out.snap dn
            clear hP hB
            go_wp2_with fail
            refine (Match_E HP5.out).mono ?_
            rintro r wq ⟨rfl, hwq⟩
            subst wq
            rw [PP.snap_m]
            go_wp2
            exact HNX.out _ _ HO5.out HP5.out HB5.out p.m (by rw [PP.snap_m])
        · have hkn : k = es.length := by omega
          go_wp2
          go_ret
          exact ⟨rfl, HB.out⟩
    · have hzz : decide (4611686018427387904 < z0) = true := by simp; omega
      go_wp2
      go_ret
      exact ⟨rfl, HB2.out⟩
  · go_wp2
    go_ret
    exact ⟨rfl, HB2.out⟩

theorem trackMatch_in (w : World) (z0 : Int) (hb0 : In64 z0) (z1 : Int) (hb1 : In64 z1) {ea : Option Addr} {ec : Nat} (es : List Ded) (s : DedAts w.heap.size w ea es ∧ es.length ≤ 9223372036854775807) :
    Calls Try.prog 4 #[.int .i64 z0, .int .i64 z1, .slice ea es.length ec] w fun e w' => e = .returned (.bool true) ∧ Below w.heap.size w w' := match_walk z0 z1 hb1 ea ec es w s.1 s.2
end Go.Proofs.Ytdgaimiggejleab
