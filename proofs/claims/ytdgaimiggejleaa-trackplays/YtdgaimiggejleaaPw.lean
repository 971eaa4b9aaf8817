/-
  TrackPlays: the walk.
-/
import Derived.Test.YtdgaimiggejleaaTw
namespace Go.Proofs.Ytdgaimiggejleaa
open Go.RowKit
set_option linter.unusedVariables false

set_option maxRecDepth 100000 in
set_option maxHeartbeats 8000000 in
theorem plays_walk (z0 z1 : Int) (ea : Option Addr) (ec : Nat) (es : List Ded) (w : World) (hx : DedAts w.heap.size w ea es) (hel : es.length ≤ 9223372036854775807) :
    Calls Try.prog 5 #[.int .i64 z0, .int .i64 z1, .slice ea es.length ec] w fun e w' => e = .returned (.bool true) ∧ Below w.heap.size w w' := by
  have HF : Hid (Calls _ _ _ _ _) := first_any w
  have HX : Hid (DedAts w.heap.size w ea es) := hx
  clear hx
  go_enter Try.func5, Try.ntmps5
  go_wp2_with fail
  refine HF.out.mono ?_
  rintro r w1 ⟨rfl, hB1⟩
  have HB1 : Hid (Below w.heap.size w w1) := hB1
  clear hB1 HF
  by_cases hr : 1 ≤ z1 ∧ z1 ≤ 64
  · obtain ⟨R, rfl⟩ : ∃ R : Nat, z1 = (R : Int) := ⟨z1.toNat, by omega⟩
    have hR1 : 1 ≤ R := by omega
    have hR2 : R ≤ 64 := by omega
    clear hr
    go_wp2_with fail
    refine (NewProgress_any w.heap.size R z0 w1 hR1 hR2 HB1.out.size).mono ?_
    rintro r w2 ⟨b, S, rfl, hP2, hB2, hS2⟩
    have HP2 : Hid (Pg w.heap.size S w2 b (pNew z0 R)) := hP2
    have HB2 : Hid (Below w.heap.size w w2) := HB1.out.trans (hB2.mono HB1.out.size)
    clear hP2 hB2 hS2 HB1
    go_wp2_with fail
    refine (rNewP_any w.heap.size R z0 w2 hR1 hR2 HB2.out.size).mono ?_
    rintro r w3 ⟨rfl, hRP, hB3⟩
    have HT3 : Hid (Tw w.heap.size w3 b w2.heap.size (pNew z0 R) (pNew z0 R)) := ⟨S, _, HP2.out.below hB3, hRP, fun i hi e => by have := HP2.out.inn i hi; omega⟩
    have HB3 : Hid (Below w.heap.size w w3) := HB2.out.trans (hB3.mono HB2.out.size)
    clear hRP hB3 HP2 HB2
    generalize w2.heap.size = c at *
    by_cases hl : es.length ≤ 400
    · by_cases hz : z0 ≤ 4611686018427387904
      · have HO3 : Hid (pNew z0 R).Ok := pNew_ok hR1 hz
        go_wp2
        go_loopw [10] (fun iv wr => ∃ (k : Nat) (p : PP), iv = .int .i64 (k : Int) ∧ k ≤ es.length ∧ p.Ok ∧ Iv p ∧ Tw w.heap.size wr b c p p ∧ Below w.heap.size w wr) (fun iv _ => es.length - (intOf iv).toNat)
        case atStart => exact ⟨0, _, rfl, Nat.zero_le _, HO3.out, Iv.new _ _, HT3.out, HB3.out⟩
        case round =>
          obtain ⟨k, p, rfl, hk, hO, hI, hT, hB⟩ := hrel
          have HO : Hid p.Ok := hO
          have HI : Hid (Iv p) := hI
          have HT : Hid (Tw w.heap.size wr b c p p) := hT
          have HB : Hid (Below w.heap.size w wr) := hB
          have HL : Hid (p.W.length ≤ 1000) := hT.len.2
          clear hO hI hT hB HO3 HT3 HB3
          by_cases hlt : k < es.length
          · obtain ⟨g, off, rfl, hg, hd⟩ := HX.out.at hlt
            obtain ⟨⟨c0, c1, c2⟩, -⟩ := hd.below hg HB.out
            have HNX : Hid (∀ (p' : PP) (wn : World), p'.Ok → Iv p' → Tw w.heap.size wn b c p' p' → Below w.heap.size w wn → (∃ (k' : Nat) (q : PP), Value.int .i64 ((k : Int) + 1) = .int .i64 (k' : Int) ∧ k' ≤ es.length ∧ q.Ok ∧ Iv q ∧ Tw w.heap.size wn b c q q ∧ Below w.heap.size w wn) ∧ es.length - (intOf (Value.int .i64 ((k : Int) + 1))).toNat < es.length - (intOf (Value.int .i64 (k : Int))).toNat) := fun p' wn h1 h2 h3 h4 =>
              ⟨⟨k + 1, p', by simp, hlt, h1, h2, h3, h4⟩, by simp [intOf]; omega⟩
            have HNB : Hid (w.heap.size ≤ wr.heap.size) := HB.out.size
            have HCC : Hid (∀ w5, Below w.heap.size w w5 → w5.cell? ⟨g, off + k * 3 + 2, none⟩ = some (.int .i64 (es.getD k nilDed).m)) := fun w5 h5 => by
              obtain ⟨⟨q0, q1, q2⟩, -⟩ := hd.below hg h5
              exact q2
            clear hd hel
            have hkk : (k : Int) < (es.length : Int) := by omega
            generalize (es.getD k nilDed).kd = dk at *
            generalize (es.getD k nilDed).n = dn at *
            generalize (es.getD k nilDed).m = dm at *
            cases hn : numB dn with
            | false =>
              go_wp2_with (go_at_call 25; refine (number_any _ _).mono ?_; rintro r wq ⟨rfl, hwq⟩; subst wq; rw [hn])
              go_ret
              exact ⟨rfl, HB.out⟩
            | true =>
            cases hm : numB dm with
            | false =>
              go_wp2_with (go_at_call 25; refine (number_any _ _).mono ?_; rintro r wq ⟨rfl, hwq⟩; subst wq; first | rw [hn] | rw [hm])
              go_ret
              exact ⟨rfl, HB.out⟩
            | true =>
            have HNN : Hid (0 ≤ dn ∧ dn ≤ 4611686018427387904) := numB_iff hn
            have HMM : Hid (0 ≤ dm ∧ dm ≤ 4611686018427387904) := numB_iff hm
            go_wp2_with fail
            refine (number_any _ _).mono ?_
            rintro r wq ⟨rfl, hwq⟩
            subst wq
            rw [hn]
            go_wp2_with fail
            refine (number_any _ _).mono ?_
            rintro r wq ⟨rfl, hwq⟩
            subst wq
            rw [hm]
            clear hn hm
            by_cases k0 : dk = 0
            · as_aux_lemma =>
              subst k0
              go_wp2_with fail
              refine (HT.out.prog HNB.out (fun S h => Sent_any h HNB.out HO.out dn HNN.out.1 HNN.out.2)).mono ?_
              rintro r w4 ⟨rfl, hT4, hB4⟩
              have HT4 : Hid (Tw w.heap.size w4 b c _ p) := hT4
              have HB4 : Hid (Below w.heap.size w w4) := HB.out.trans hB4
              clear hT4 hB4
              go_wp2_with fail
              refine (HT4.out.ref HB4.out.size (fun S h => rSent_any h HB4.out.size HO.out HI.out HL.out dn HNN.out.1 HNN.out.2)).mono ?_
              rintro r w5 ⟨rfl, hT5, hB5⟩
              have HT5 : Hid (Tw w.heap.size w5 b c _ _) := hT5
              have HB5 : Hid (Below w.heap.size w w5) := HB4.out.trans hB5
              clear hT5 hB5
              obtain ⟨q, HTW, HO5, HI5⟩ : ∃ q : PP, Hid (Tw w.heap.size w5 b c q q) ∧ Hid q.Ok ∧ Hid (Iv q) := ⟨p.sent dn, HT5.out, HO.out.sent HNN.out.1 HNN.out.2, HI.out.sent dn⟩
              clear HT5
              have HC6 := HTW.out.cells
              obtain ⟨t0, t1, t2⟩ := HC6
              have HM1 : Hid (∀ w6, Below w5.heap.size w5 w6 → Tw w.heap.size w6 b c q q ∧ w.heap.size ≤ w6.heap.size ∧ Below w.heap.size w w6 ∧ (w6.cell? ⟨c, 0, none⟩ = some (.int .i64 q.m) ∧ w6.cell? ⟨c, 1, none⟩ = some (.int .i64 q.n) ∧ w6.cell? ⟨c, 2, none⟩ = some (.int .i64 q.st))) := fun w6 h6 => ⟨HTW.out.below h6, Nat.le_trans HB5.out.size h6.size, HB5.out.trans (h6.mono HB5.out.size), (HTW.out.below h6).cells⟩
              have HLQ := HTW.out.len.1
              have HLQ' : Hid (q.W.length ≤ q.rm) := HLQ
              clear HLQ
              go_wp2_with fail
              go_region_held3 (fun w' => w'.cell? ⟨c, 0, none⟩ = some (.int .i64 q.m) ∧ w'.cell? ⟨c, 1, none⟩ = some (.int .i64 q.n) ∧ w'.cell? ⟨c, 2, none⟩ = some (.int .i64 q.st)) (go_keep)
                (first
                  | (go_at_call 36; refine (Match_E (HM1.out _ (Below.refl _ _).drew).1.pe).mono ?_; rintro r wq ⟨rfl, hwq⟩; subst wq)
                  | (go_at_call 37; refine (Next_E (HM1.out _ (Below.refl _ _).drew).1.pe).mono ?_; rintro r wq ⟨rfl, hwq⟩; subst wq)
                  | (go_at_call 38; refine (State_E (HM1.out _ (Below.refl _ _).drew).1.pe).mono ?_; rintro r wq ⟨rfl, hwq⟩; subst wq)
                  | (go_at_call 39; refine ((HM1.out _ (Below.refl _ _).drew).1.may (HM1.out _ (Below.refl _ _).drew).2.1 HO5.out).mono ?_; rintro r w7 ⟨rfl, h7, h8⟩; have hB7 : Below w5.heap.size w5 w7 := (Below.refl _ _).drew.trans h8; obtain ⟨-, -, -, u0, u1, u2⟩ := HM1.out w7 hB7; have HB7 : Hid (Below w5.heap.size w5 w7) := hB7; have HT7 : Hid (Tw _ _ _ _ _ _) := h7; clear h7 h8 hB7)
                  | (go_at_call 40; refine (HT7.out.rmay HO5.out HLQ'.out).mono ?_; rintro r w8 ⟨rfl, h9, h10⟩; have hB8 : Below w5.heap.size w5 w8 := HB7.out.trans (h10.mono HB7.out.size); obtain ⟨-, -, -, u0, u1, u2⟩ := HM1.out w8 hB8; have HB8 : Hid (Below w5.heap.size w5 w8) := hB8; clear h9 h10 hB8)
                  | fail)
              go_wp2
              exact HNX.out q w8 HO5.out HI5.out (HM1.out w8 HB8.out).1 (HM1.out w8 HB8.out).2.2.1
            by_cases k1 : dk = 1
            · as_aux_lemma =>
              subst k1
              have hyy : (decide (p.m < dn) != decide (p.m < dn)) = false := by simp
              go_wp2_with fail
              refine (HT.out.prog HNB.out (fun S h => Acked_any h HNB.out HO.out dn HNN.out.1 HNN.out.2)).mono ?_
              rintro r w4 ⟨rfl, hT4, hB4⟩
              have HT4 : Hid (Tw w.heap.size w4 b c _ p) := hT4
              have HB4 : Hid (Below w.heap.size w w4) := HB.out.trans hB4
              clear hT4 hB4
              go_wp2_with fail
              refine (HT4.out.ref HB4.out.size (fun S h => rAcked_any h HB4.out.size HO.out HI.out HL.out dn HNN.out.1 HNN.out.2)).mono ?_
              rintro r w5 ⟨rfl, hT5, hB5⟩
              have HT5 : Hid (Tw w.heap.size w5 b c _ _) := hT5
              have HB5 : Hid (Below w.heap.size w w5) := HB4.out.trans hB5
              clear hT5 hB5
              obtain ⟨q, HTW, HO5, HI5⟩ : ∃ q : PP, Hid (Tw w.heap.size w5 b c q q) ∧ Hid q.Ok ∧ Hid (Iv q) := ⟨p.acked dn, HT5.out, HO.out.acked HNN.out.1 HNN.out.2, HI.out.acked dn⟩
              clear HT5
              have HC6 := HTW.out.cells
              obtain ⟨t0, t1, t2⟩ := HC6
              have HM1 : Hid (∀ w6, Below w5.heap.size w5 w6 → Tw w.heap.size w6 b c q q ∧ w.heap.size ≤ w6.heap.size ∧ Below w.heap.size w w6 ∧ (w6.cell? ⟨c, 0, none⟩ = some (.int .i64 q.m) ∧ w6.cell? ⟨c, 1, none⟩ = some (.int .i64 q.n) ∧ w6.cell? ⟨c, 2, none⟩ = some (.int .i64 q.st))) := fun w6 h6 => ⟨HTW.out.below h6, Nat.le_trans HB5.out.size h6.size, HB5.out.trans (h6.mono HB5.out.size), (HTW.out.below h6).cells⟩
              have HLQ := HTW.out.len.1
              have HLQ' : Hid (q.W.length ≤ q.rm) := HLQ
              clear HLQ
              go_wp2_with fail
              go_region_held3 (fun w' => w'.cell? ⟨c, 0, none⟩ = some (.int .i64 q.m) ∧ w'.cell? ⟨c, 1, none⟩ = some (.int .i64 q.n) ∧ w'.cell? ⟨c, 2, none⟩ = some (.int .i64 q.st)) (go_keep)
                (first
                  | (go_at_call 36; refine (Match_E (HM1.out _ (Below.refl _ _).drew).1.pe).mono ?_; rintro r wq ⟨rfl, hwq⟩; subst wq)
                  | (go_at_call 37; refine (Next_E (HM1.out _ (Below.refl _ _).drew).1.pe).mono ?_; rintro r wq ⟨rfl, hwq⟩; subst wq)
                  | (go_at_call 38; refine (State_E (HM1.out _ (Below.refl _ _).drew).1.pe).mono ?_; rintro r wq ⟨rfl, hwq⟩; subst wq)
                  | (go_at_call 39; refine ((HM1.out _ (Below.refl _ _).drew).1.may (HM1.out _ (Below.refl _ _).drew).2.1 HO5.out).mono ?_; rintro r w7 ⟨rfl, h7, h8⟩; have hB7 : Below w5.heap.size w5 w7 := (Below.refl _ _).drew.trans h8; obtain ⟨-, -, -, u0, u1, u2⟩ := HM1.out w7 hB7; have HB7 : Hid (Below w5.heap.size w5 w7) := hB7; have HT7 : Hid (Tw _ _ _ _ _ _) := h7; clear h7 h8 hB7)
                  | (go_at_call 40; refine (HT7.out.rmay HO5.out HLQ'.out).mono ?_; rintro r w8 ⟨rfl, h9, h10⟩; have hB8 : Below w5.heap.size w5 w8 := HB7.out.trans (h10.mono HB7.out.size); obtain ⟨-, -, -, u0, u1, u2⟩ := HM1.out w8 hB8; have HB8 : Hid (Below w5.heap.size w5 w8) := hB8; clear h9 h10 hB8)
                  | fail)
              go_wp2
              exact HNX.out q w8 HO5.out HI5.out (HM1.out w8 HB8.out).1 (HM1.out w8 HB8.out).2.2.1
            by_cases k2 : dk = 2
            · as_aux_lemma =>
              subst k2
              have hyy : (p.rejY dn != p.rejY dn) = false := by simp
              have HP1 : Hid (∀ w4, Below wr.heap.size wr w4 → Calls Try.prog 30 #[.pointer (some ⟨b, 0, none⟩), .int .i64 dn, .int .i64 dm] w4 fun e w' => e = .returned (.bool (p.rejY dn)) ∧ Tw w.heap.size w' b c (p.rej dn dm) p ∧ Below w.heap.size w w') := fun w4 h4 => ((HT.out.below h4).prog (Nat.le_trans HNB.out h4.size) (fun S h => Rejected_any h (Nat.le_trans HNB.out h4.size) HO.out dn dm HMM.out.1 HMM.out.2)).mono fun e w' h => ⟨h.1, h.2.1, HB.out.trans ((h4.mono HNB.out).trans h.2.2)⟩
              have HP2 : Hid (∀ w4, Tw w.heap.size w4 b c (p.rej dn dm) p → Below w.heap.size w w4 → Calls Try.prog 31 #[.pointer (some ⟨c, 0, none⟩), .int .i64 dn, .int .i64 dm] w4 fun e w' => e = .returned (.bool (p.rejY dn)) ∧ Tw w.heap.size w' b c (p.rej dn dm) (p.rej dn dm) ∧ Below w.heap.size w w') := fun w4 h4 h5 => (h4.ref h5.size (fun S h => rRej_any h h5.size HO.out dn dm HMM.out.1 HMM.out.2)).mono fun e w' h => ⟨h.1, h.2.1, h5.trans h.2.2⟩
              generalize p.rejY dn = y at *
              go_wp2_with fail
              go_region_held3 (fun w' => w'.cell? ⟨g, off + k * 3 + 2, none⟩ = some (.int .i64 dm)) (go_keep)
                (first
                  | (go_at_call 30; refine (HP1.out _ (Below.refl _ _).drew).mono ?_; rintro r w4 ⟨rfl, hT4, hB4⟩; have q2 := HCC.out w4 hB4; have HT4 : Hid (Tw _ _ _ _ _ _) := hT4; have HB4 : Hid (Below _ _ _) := hB4; clear hT4 hB4)
                  | (go_at_call 31; refine (HP2.out w4 HT4.out HB4.out).mono ?_; rintro r w5 ⟨rfl, hT5, hB5⟩; have q2 := HCC.out w5 hB5; have HT5 : Hid (Tw _ _ _ _ _ _) := hT5; have HB5 : Hid (Below _ _ _) := hB5; clear hT5 hB5)
                  | fail)
              obtain ⟨q, HTW, HO5, HI5⟩ : ∃ q : PP, Hid (Tw w.heap.size w5 b c q q) ∧ Hid q.Ok ∧ Hid (Iv q) := ⟨p.rej dn dm, HT5.out, HO.out.rej dn dm, HI.out.rej dn dm⟩
              clear HT5
              have HC6 := HTW.out.cells
              obtain ⟨t0, t1, t2⟩ := HC6
              have HM1 : Hid (∀ w6, Below w5.heap.size w5 w6 → Tw w.heap.size w6 b c q q ∧ w.heap.size ≤ w6.heap.size ∧ Below w.heap.size w w6 ∧ (w6.cell? ⟨c, 0, none⟩ = some (.int .i64 q.m) ∧ w6.cell? ⟨c, 1, none⟩ = some (.int .i64 q.n) ∧ w6.cell? ⟨c, 2, none⟩ = some (.int .i64 q.st))) := fun w6 h6 => ⟨HTW.out.below h6, Nat.le_trans HB5.out.size h6.size, HB5.out.trans (h6.mono HB5.out.size), (HTW.out.below h6).cells⟩
              have HLQ := HTW.out.len.1
              have HLQ' : Hid (q.W.length ≤ q.rm) := HLQ
              clear HLQ
              go_wp2_with fail
              go_region_held3 (fun w' => w'.cell? ⟨c, 0, none⟩ = some (.int .i64 q.m) ∧ w'.cell? ⟨c, 1, none⟩ = some (.int .i64 q.n) ∧ w'.cell? ⟨c, 2, none⟩ = some (.int .i64 q.st)) (go_keep)
                (first
                  | (go_at_call 36; refine (Match_E (HM1.out _ (Below.refl _ _).drew).1.pe).mono ?_; rintro r wq ⟨rfl, hwq⟩; subst wq)
                  | (go_at_call 37; refine (Next_E (HM1.out _ (Below.refl _ _).drew).1.pe).mono ?_; rintro r wq ⟨rfl, hwq⟩; subst wq)
                  | (go_at_call 38; refine (State_E (HM1.out _ (Below.refl _ _).drew).1.pe).mono ?_; rintro r wq ⟨rfl, hwq⟩; subst wq)
                  | (go_at_call 39; refine ((HM1.out _ (Below.refl _ _).drew).1.may (HM1.out _ (Below.refl _ _).drew).2.1 HO5.out).mono ?_; rintro r w7 ⟨rfl, h7, h8⟩; have hB7 : Below w5.heap.size w5 w7 := (Below.refl _ _).drew.trans h8; obtain ⟨-, -, -, u0, u1, u2⟩ := HM1.out w7 hB7; have HB7 : Hid (Below w5.heap.size w5 w7) := hB7; have HT7 : Hid (Tw _ _ _ _ _ _) := h7; clear h7 h8 hB7)
                  | (go_at_call 40; refine (HT7.out.rmay HO5.out HLQ'.out).mono ?_; rintro r w8 ⟨rfl, h9, h10⟩; have hB8 : Below w5.heap.size w5 w8 := HB7.out.trans (h10.mono HB7.out.size); obtain ⟨-, -, -, u0, u1, u2⟩ := HM1.out w8 hB8; have HB8 : Hid (Below w5.heap.size w5 w8) := hB8; clear h9 h10 hB8)
                  | fail)
              go_wp2
              exact HNX.out q w8 HO5.out HI5.out (HM1.out w8 HB8.out).1 (HM1.out w8 HB8.out).2.2.1
            by_cases k3 : dk = 3
            · as_aux_lemma =>
              subst k3
              go_wp2_with fail
              refine (HT.out.prog HNB.out (fun S h => Beat_any h HNB.out HO.out)).mono ?_
              rintro r w4 ⟨rfl, hT4, hB4⟩
              have HT4 : Hid (Tw w.heap.size w4 b c _ p) := hT4
              have HB4 : Hid (Below w.heap.size w w4) := HB.out.trans hB4
              clear hT4 hB4
              go_wp2_with fail
              refine (HT4.out.ref HB4.out.size (fun S h => rBeat_any h HB4.out.size HO.out HI.out)).mono ?_
              rintro r w5 ⟨rfl, hT5, hB5⟩
              have HT5 : Hid (Tw w.heap.size w5 b c _ _) := hT5
              have HB5 : Hid (Below w.heap.size w w5) := HB4.out.trans hB5
              clear hT5 hB5
              obtain ⟨q, HTW, HO5, HI5⟩ : ∃ q : PP, Hid (Tw w.heap.size w5 b c q q) ∧ Hid q.Ok ∧ Hid (Iv q) := ⟨p.beat, HT5.out, HO.out.beat, HI.out.beat⟩
              clear HT5
              have HC6 := HTW.out.cells
              obtain ⟨t0, t1, t2⟩ := HC6
              have HM1 : Hid (∀ w6, Below w5.heap.size w5 w6 → Tw w.heap.size w6 b c q q ∧ w.heap.size ≤ w6.heap.size ∧ Below w.heap.size w w6 ∧ (w6.cell? ⟨c, 0, none⟩ = some (.int .i64 q.m) ∧ w6.cell? ⟨c, 1, none⟩ = some (.int .i64 q.n) ∧ w6.cell? ⟨c, 2, none⟩ = some (.int .i64 q.st))) := fun w6 h6 => ⟨HTW.out.below h6, Nat.le_trans HB5.out.size h6.size, HB5.out.trans (h6.mono HB5.out.size), (HTW.out.below h6).cells⟩
              have HLQ := HTW.out.len.1
              have HLQ' : Hid (q.W.length ≤ q.rm) := HLQ
              clear HLQ
              go_wp2_with fail
              go_region_held3 (fun w' => w'.cell? ⟨c, 0, none⟩ = some (.int .i64 q.m) ∧ w'.cell? ⟨c, 1, none⟩ = some (.int .i64 q.n) ∧ w'.cell? ⟨c, 2, none⟩ = some (.int .i64 q.st)) (go_keep)
                (first
                  | (go_at_call 36; refine (Match_E (HM1.out _ (Below.refl _ _).drew).1.pe).mono ?_; rintro r wq ⟨rfl, hwq⟩; subst wq)
                  | (go_at_call 37; refine (Next_E (HM1.out _ (Below.refl _ _).drew).1.pe).mono ?_; rintro r wq ⟨rfl, hwq⟩; subst wq)
                  | (go_at_call 38; refine (State_E (HM1.out _ (Below.refl _ _).drew).1.pe).mono ?_; rintro r wq ⟨rfl, hwq⟩; subst wq)
                  | (go_at_call 39; refine ((HM1.out _ (Below.refl _ _).drew).1.may (HM1.out _ (Below.refl _ _).drew).2.1 HO5.out).mono ?_; rintro r w7 ⟨rfl, h7, h8⟩; have hB7 : Below w5.heap.size w5 w7 := (Below.refl _ _).drew.trans h8; obtain ⟨-, -, -, u0, u1, u2⟩ := HM1.out w7 hB7; have HB7 : Hid (Below w5.heap.size w5 w7) := hB7; have HT7 : Hid (Tw _ _ _ _ _ _) := h7; clear h7 h8 hB7)
                  | (go_at_call 40; refine (HT7.out.rmay HO5.out HLQ'.out).mono ?_; rintro r w8 ⟨rfl, h9, h10⟩; have hB8 : Below w5.heap.size w5 w8 := HB7.out.trans (h10.mono HB7.out.size); obtain ⟨-, -, -, u0, u1, u2⟩ := HM1.out w8 hB8; have HB8 : Hid (Below w5.heap.size w5 w8) := hB8; clear h9 h10 hB8)
                  | fail)
              go_wp2
              exact HNX.out q w8 HO5.out HI5.out (HM1.out w8 HB8.out).1 (HM1.out w8 HB8.out).2.2.1
            by_cases k4 : dk = 4
            · as_aux_lemma =>
              subst k4
              go_wp2_with fail
              refine (HT.out.prog HNB.out (fun S h => Snap_any h HNB.out dn)).mono ?_
              rintro r w4 ⟨rfl, hT4, hB4⟩
              have HT4 : Hid (Tw w.heap.size w4 b c _ p) := hT4
              have HB4 : Hid (Below w.heap.size w w4) := HB.out.trans hB4
              clear hT4 hB4
              go_wp2_with fail
              refine (HT4.out.ref HB4.out.size (fun S h => rSnap_any h HB4.out.size dn)).mono ?_
              rintro r w5 ⟨rfl, hT5, hB5⟩
              have HT5 : Hid (Tw w.heap.size w5 b c _ _) := hT5
              have HB5 : Hid (Below w.heap.size w w5) := HB4.out.trans hB5
              clear hT5 hB5
              obtain ⟨q, HTW, HO5, HI5⟩ : ∃ q : PP, Hid (Tw w.heap.size w5 b c q q) ∧ Hid q.Ok ∧ Hid (Iv q) := ⟨p.snap dn, HT5.out, HO.out.snap dn, HI.out.snap dn⟩
              clear HT5
              have HC6 := HTW.out.cells
              obtain ⟨t0, t1, t2⟩ := HC6
              have HM1 : Hid (∀ w6, Below w5.heap.size w5 w6 → Tw w.heap.size w6 b c q q ∧ w.heap.size ≤ w6.heap.size ∧ Below w.heap.size w w6 ∧ (w6.cell? ⟨c, 0, none⟩ = some (.int .i64 q.m) ∧ w6.cell? ⟨c, 1, none⟩ = some (.int .i64 q.n) ∧ w6.cell? ⟨c, 2, none⟩ = some (.int .i64 q.st))) := fun w6 h6 => ⟨HTW.out.below h6, Nat.le_trans HB5.out.size h6.size, HB5.out.trans (h6.mono HB5.out.size), (HTW.out.below h6).cells⟩
              have HLQ := HTW.out.len.1
              have HLQ' : Hid (q.W.length ≤ q.rm) := HLQ
              clear HLQ
              go_wp2_with fail
              go_region_held3 (fun w' => w'.cell? ⟨c, 0, none⟩ = some (.int .i64 q.m) ∧ w'.cell? ⟨c, 1, none⟩ = some (.int .i64 q.n) ∧ w'.cell? ⟨c, 2, none⟩ = some (.int .i64 q.st)) (go_keep)
                (first
                  | (go_at_call 36; refine (Match_E (HM1.out _ (Below.refl _ _).drew).1.pe).mono ?_; rintro r wq ⟨rfl, hwq⟩; subst wq)
                  | (go_at_call 37; refine (Next_E (HM1.out _ (Below.refl _ _).drew).1.pe).mono ?_; rintro r wq ⟨rfl, hwq⟩; subst wq)
                  | (go_at_call 38; refine (State_E (HM1.out _ (Below.refl _ _).drew).1.pe).mono ?_; rintro r wq ⟨rfl, hwq⟩; subst wq)
                  | (go_at_call 39; refine ((HM1.out _ (Below.refl _ _).drew).1.may (HM1.out _ (Below.refl _ _).drew).2.1 HO5.out).mono ?_; rintro r w7 ⟨rfl, h7, h8⟩; have hB7 : Below w5.heap.size w5 w7 := (Below.refl _ _).drew.trans h8; obtain ⟨-, -, -, u0, u1, u2⟩ := HM1.out w7 hB7; have HB7 : Hid (Below w5.heap.size w5 w7) := hB7; have HT7 : Hid (Tw _ _ _ _ _ _) := h7; clear h7 h8 hB7)
                  | (go_at_call 40; refine (HT7.out.rmay HO5.out HLQ'.out).mono ?_; rintro r w8 ⟨rfl, h9, h10⟩; have hB8 : Below w5.heap.size w5 w8 := HB7.out.trans (h10.mono HB7.out.size); obtain ⟨-, -, -, u0, u1, u2⟩ := HM1.out w8 hB8; have HB8 : Hid (Below w5.heap.size w5 w8) := hB8; clear h9 h10 hB8)
                  | fail)
              go_wp2
              exact HNX.out q w8 HO5.out HI5.out (HM1.out w8 HB8.out).1 (HM1.out w8 HB8.out).2.2.1
            · as_aux_lemma =>
              have b0 : (dk == 0) = false := by simpa using k0
              have b1 : (dk == 1) = false := by simpa using k1
              have b2 : (dk == 2) = false := by simpa using k2
              have b3 : (dk == 3) = false := by simpa using k3
              have b4 : (dk == 4) = false := by simpa using k4
              obtain ⟨w5, hw5⟩ : ∃ w5, w5 = wr := ⟨_, rfl⟩
              have HT5 : Hid (Tw w.heap.size w5 b c p p) := by rw [hw5]; exact HT.out
              have HB5 : Hid (Below w.heap.size w w5) := by rw [hw5]; exact HB.out
              rw [← hw5] at c0 c1 c2 ⊢
              clear hw5
              obtain ⟨q, HTW, HO5, HI5⟩ : ∃ q : PP, Hid (Tw w.heap.size w5 b c q q) ∧ Hid q.Ok ∧ Hid (Iv q) := ⟨p, HT5.out, HO.out, HI.out⟩
              clear HT5
              have HC6 := HTW.out.cells
              obtain ⟨t0, t1, t2⟩ := HC6
              have HM1 : Hid (∀ w6, Below w5.heap.size w5 w6 → Tw w.heap.size w6 b c q q ∧ w.heap.size ≤ w6.heap.size ∧ Below w.heap.size w w6 ∧ (w6.cell? ⟨c, 0, none⟩ = some (.int .i64 q.m) ∧ w6.cell? ⟨c, 1, none⟩ = some (.int .i64 q.n) ∧ w6.cell? ⟨c, 2, none⟩ = some (.int .i64 q.st))) := fun w6 h6 => ⟨HTW.out.below h6, Nat.le_trans HB5.out.size h6.size, HB5.out.trans (h6.mono HB5.out.size), (HTW.out.below h6).cells⟩
              have HLQ := HTW.out.len.1
              have HLQ' : Hid (q.W.length ≤ q.rm) := HLQ
              clear HLQ
              go_wp2_with fail
              go_region_held3 (fun w' => w'.cell? ⟨c, 0, none⟩ = some (.int .i64 q.m) ∧ w'.cell? ⟨c, 1, none⟩ = some (.int .i64 q.n) ∧ w'.cell? ⟨c, 2, none⟩ = some (.int .i64 q.st)) (go_keep)
                (first
                  | (go_at_call 36; refine (Match_E (HM1.out _ (Below.refl _ _).drew).1.pe).mono ?_; rintro r wq ⟨rfl, hwq⟩; subst wq)
                  | (go_at_call 37; refine (Next_E (HM1.out _ (Below.refl _ _).drew).1.pe).mono ?_; rintro r wq ⟨rfl, hwq⟩; subst wq)
                  | (go_at_call 38; refine (State_E (HM1.out _ (Below.refl _ _).drew).1.pe).mono ?_; rintro r wq ⟨rfl, hwq⟩; subst wq)
                  | (go_at_call 39; refine ((HM1.out _ (Below.refl _ _).drew).1.may (HM1.out _ (Below.refl _ _).drew).2.1 HO5.out).mono ?_; rintro r w7 ⟨rfl, h7, h8⟩; have hB7 : Below w5.heap.size w5 w7 := (Below.refl _ _).drew.trans h8; obtain ⟨-, -, -, u0, u1, u2⟩ := HM1.out w7 hB7; have HB7 : Hid (Below w5.heap.size w5 w7) := hB7; have HT7 : Hid (Tw _ _ _ _ _ _) := h7; clear h7 h8 hB7)
                  | (go_at_call 40; refine (HT7.out.rmay HO5.out HLQ'.out).mono ?_; rintro r w8 ⟨rfl, h9, h10⟩; have hB8 : Below w5.heap.size w5 w8 := HB7.out.trans (h10.mono HB7.out.size); obtain ⟨-, -, -, u0, u1, u2⟩ := HM1.out w8 hB8; have HB8 : Hid (Below w5.heap.size w5 w8) := hB8; clear h9 h10 hB8)
                  | fail)
              go_wp2
              exact HNX.out q w8 HO5.out HI5.out (HM1.out w8 HB8.out).1 (HM1.out w8 HB8.out).2.2.1
          · have hkn : k = es.length := by omega
            go_wp2
            go_ret
            exact ⟨rfl, HB.out⟩
      · have hzz : decide (4611686018427387904 < z0) = true := by simp; omega
        go_wp2
        go_ret
        exact ⟨rfl, HB3.out⟩
    · have hl2 : 400 < es.length := by omega
      go_wp2
      go_ret
      exact ⟨rfl, HB3.out⟩
  · have hr2 : (decide (1 ≤ z1) && decide (z1 ≤ 64)) = false := by simp; omega
    go_wp2_with (first
      | (go_at_call 23; refine (NewProgress_none z1 z0 w1 hr2).mono ?_; rintro r wq ⟨rfl, hwq⟩; subst wq)
      | (go_at_call 24; refine (rNewP_none z1 z0 w1 hr).mono ?_; rintro r wq ⟨rfl, hwq⟩; subst wq))
    go_ret
    exact ⟨rfl, HB1.out⟩

theorem trackPlays_in (w : World) (z0 : Int) (hb0 : In64 z0) (z1 : Int) (hb1 : In64 z1) {ea : Option Addr} {ec : Nat} (es : List Ded) (s : DedAts w.heap.size w ea es ∧ es.length ≤ 9223372036854775807) :
    Calls Try.prog 5 #[.int .i64 z0, .int .i64 z1, .slice ea es.length ec] w fun e w' => e = .returned (.bool true) ∧ Below w.heap.size w w' := plays_walk z0 z1 ea ec es w s.1 s.2
end Go.Proofs.Ytdgaimiggejleaa
