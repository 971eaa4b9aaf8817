/-
  TrackMeet: the walk.
-/
import Derived.Test.YtdgaimiggejleaaLw
import Derived.Test.YtdgaimiggejleaaFi
namespace Go.Proofs.Ytdgaimiggejleaa
open Go.RowKit
set_option linter.unusedVariables false

theorem red (m : Nat) (hm : 1 ≤ m) (hm2 : m ≤ 128) (r : Int) : ∃ (x : Int) (A : Nat), r.tmod (m : Int) = x ∧ IntKind.i64.wrap (x + (m : Int)) = x + (m : Int) ∧ (x + (m : Int)).tmod (m : Int) = (A : Int) ∧ A < m := by
  have h1 : -(m : Int) < r.tmod (m : Int) := by
    have h := Int.natAbs_tmod r (m : Int)
    have h' := Nat.mod_lt r.natAbs (y := (m : Int).natAbs) (by omega)
    rw [← h] at h'
    omega
  have h2 : r.tmod (m : Int) < (m : Int) := Int.tmod_lt_of_pos r (by omega)
  have h3 : 0 ≤ (r.tmod (m : Int) + (m : Int)).tmod (m : Int) := Int.tmod_nonneg _ (by omega)
  have h4 : (r.tmod (m : Int) + (m : Int)).tmod (m : Int) < (m : Int) := Int.tmod_lt_of_pos _ (by omega)
  refine ⟨_, ((r.tmod (m : Int) + (m : Int)).tmod (m : Int)).toNat, rfl, ?_, by omega, by omega⟩
  rw [IntKind.wrap_i64]; omega

/-- Members of the set have not voted from place i on. -/
def Unv (A R i : Nat) (v : PV) : Prop := ∀ j, i ≤ j → j < R → bt A j = 1 → v.V j = false
theorem Unv.put {A R : Nat} {v : PV} (h : Unv A R 0 v) {id : Int} (yes : Bool) (hm : memB A id = false) : Unv A R 0 (v.put id yes) := by
  intro j h0 hj hb
  rw [PV.put_V, h j h0 hj hb, Bool.false_or]
  cases hy : v.putY id with
  | false => rfl
  | true =>
    simp only [Bool.true_and, decide_eq_false_iff_not]
    intro e
    subst e
    rw [memB, hb] at hm
    simp at hm
theorem Unv.out {A R : Nat} {v : PV} (h : Unv A R 0 v) (hR : (R : Int) = v.nd) {id : Int} (yes : Bool) (ho : ¬ (1 ≤ id ∧ id ≤ (R : Int))) : v.put id yes = v := by
  have : v.putY id = false := by
    cases hy : v.putY id with
    | false => rfl
    | true => obtain ⟨a, b, -⟩ := (v.putY_iff id).1 hy; exact absurd ⟨a, by omega⟩ ho
  rw [PV.put, this]; rfl
theorem Unv.step {A R i : Nat} {v : PV} (h : Unv A R i v) (hR : (R : Int) = v.nd) (hi : i < R) (hb : bt A i = 1) : Unv A R (i + 1) (v.put ((i : Int) + 1) true) ∧ (v.put ((i : Int) + 1) true).g = v.g + 1 := by
  have hV := h i (Nat.le_refl _) hi hb
  have e : ((i : Int) + 1 - 1).toNat = i := by omega
  have hy : v.putY ((i : Int) + 1) = true := (v.putY_iff _).2 ⟨by omega, by omega, by rw [e]; exact hV⟩
  refine ⟨fun j h1 h2 h3 => ?_, ?_⟩
  · rw [PV.put_V, h j (by omega) h2 h3, hy, e]
    simp; omega
  · rw [PV.put, hy]; rfl

set_option maxRecDepth 100000 in
set_option maxHeartbeats 8000000 in
theorem meet_walk (z0 z1 z2 : Int) (hb0 : In64 z0) (ea : Option Addr) (ec : Nat) (es : List Vot) (w : World) (hx : VotAts w.heap.size w ea es) (hel : es.length ≤ 9223372036854775807) :
    Calls Try.prog 6 #[.int .i64 z0, .int .i64 z1, .int .i64 z2, .slice ea es.length ec] w fun e w' => e = .returned (.bool true) ∧ Below w.heap.size w w' := by
  obtain ⟨x, y, R, e1, e2, e3, e4, hR1, hR2, -⟩ := small7 z0 hb0
  have HF : Hid (Calls _ _ _ _ _) := first_any w
  have HX : Hid (VotAts w.heap.size w ea es) := hx
  clear hb0 hx
  go_enter Try.func6, Try.ntmps6
  go_wp2_with fail
  refine HF.out.mono ?_
  rintro r w1 ⟨rfl, hB1⟩
  have HB1 : Hid (Below w.heap.size w w1) := hB1
  clear hB1 HF
  go_wp2
  clear e1 e2 e3 e4
  go_loopw [10, 11] (fun av iv wr => ∃ i : Nat, av = .int .i64 ((2 ^ i : Nat) : Int) ∧ iv = .int .i64 (i : Int) ∧ i ≤ R ∧ wr = w1) (fun _ iv _ => R - (intOf iv).toNat)
  case atStart => exact ⟨0, rfl, rfl, Nat.zero_le _, rfl⟩
  case round =>
    obtain ⟨i, rfl, rfl, hi, hwr⟩ := hrel
    subst wr
    have hp : 2 ^ i ≤ 128 := Nat.le_trans (Nat.pow_le_pow_right (by omega) (by omega : i ≤ 7)) (by decide)
    have hp1 : 1 ≤ 2 ^ i := Nat.one_le_two_pow
    by_cases hlt : i < R
    · have HS : Hid (2 ^ (i + 1) = 2 * 2 ^ i) := by show _ = _; rw [Nat.pow_succ]; omega
      generalize 2 ^ i = m at *
      have hw : IntKind.i64.wrap (2 * (m : Int)) = 2 * (m : Int) := by rw [IntKind.wrap_i64]; omega
      go_wp2
      exact ⟨⟨i + 1, by rw [HS.out]; simp, by simp, hlt, by trivial⟩, by simp [intOf]; omega⟩
    · have hiR : i = R := by omega
      subst hiR
      generalize 2 ^ i = m at *
      obtain ⟨xa, A, a1, a2, a3, hA⟩ := red m hp1 hp z1
      obtain ⟨xb, B, b1, b2, b3, hB⟩ := red m hp1 hp z2
      have hm0 : ¬ (m : Int) = 0 := by omega
      have hmz : ((m : Int) == 0) = false := by simp; omega
      obtain ⟨Q, hQ⟩ : ∃ Q : Nat, Q = i / 2 + 1 := ⟨_, rfl⟩
      have hq : qrm (i : Int) = (Q : Int) := by rw [qrm, if_pos (by omega)]; omega
      have HQQ : Hid (qrm (i : Int) = (Q : Int)) := hq
      have HQI : Hid (Q = i / 2 + 1) := hQ
      have HQ : Hid (Calls _ _ _ _ _) := Quorum_any (i : Int) w1
      rw [hq] at HQ
      have hA8 : A < 128 := by omega
      have hB8 : B < 128 := by omega
      have HI : Hid (i = i) := rfl
      clear hi hlt hq hQ
      obtain ⟨R, rfl⟩ : ∃ R, R = i := ⟨i, rfl⟩
      go_wp2_with (go_at_call 12; refine HQ.out.mono ?_; rintro r wq ⟨rfl, hwq⟩; subst wq)
      clear a1 a2 a3 b1 b2 b3 hm0 hmz hp hp1 hA hB
      go_loopw [13, 14, 15, 16] (fun mv xv yv iv wr => ∃ i : Nat, mv = .bool (meB A B i) ∧ xv = .int .i64 ((A / 2 ^ i : Nat) : Int) ∧ yv = .int .i64 ((B / 2 ^ i : Nat) : Int) ∧ iv = .int .i64 (i : Int) ∧ i ≤ R ∧ wr = w1) (fun _ _ _ iv _ => R - (intOf iv).toNat)
      case atStart => exact ⟨0, rfl, by simp, by simp, rfl, Nat.zero_le _, rfl⟩
      case round =>
        obtain ⟨i, rfl, rfl, rfl, rfl, hi, hwr⟩ := hrel
        subst wr
        by_cases hlt : i < R
        · as_aux_lemma =>
          have ha := Nat.div_le_self A (2 ^ i)
          have hb := Nat.div_le_self B (2 ^ i)
          have HH1 : Hid (A / 2 ^ i / 2 = A / 2 ^ (i + 1)) := half A i
          have HH2 : Hid (B / 2 ^ i / 2 = B / 2 ^ (i + 1)) := half B i
          have HME : Hid (meB A B (i + 1) = (meB A B i || (decide (A / 2 ^ i % 2 = 1) && decide (B / 2 ^ i % 2 = 1)))) := rfl
          generalize A / 2 ^ i = s at *
          generalize B / 2 ^ i = t at *
          have s1 : (s : Int).tmod 2 = ((s % 2 : Nat) : Int) := by rw [Int.tmod_eq_emod_of_nonneg (by omega)]; omega
          have s2 : (s : Int).tdiv 2 = ((s / 2 : Nat) : Int) := by rw [Int.tdiv_eq_ediv_of_nonneg (by omega)]; omega
          have s3 : IntKind.i64.wrap ((s / 2 : Nat) : Int) = ((s / 2 : Nat) : Int) := by rw [IntKind.wrap_i64]; omega
          have t1 : (t : Int).tmod 2 = ((t % 2 : Nat) : Int) := by rw [Int.tmod_eq_emod_of_nonneg (by omega)]; omega
          have t2 : (t : Int).tdiv 2 = ((t / 2 : Nat) : Int) := by rw [Int.tdiv_eq_ediv_of_nonneg (by omega)]; omega
          have t3 : IntKind.i64.wrap ((t / 2 : Nat) : Int) = ((t / 2 : Nat) : Int) := by rw [IntKind.wrap_i64]; omega
          have HEND : Hid (∀ mv : Bool, mv = meB A B (i + 1) → (∃ i_1 : Nat, Value.bool mv = .bool (meB A B i_1) ∧ Value.int .i64 ((s : Int) / 2) = .int .i64 ((A / 2 ^ i_1 : Nat) : Int) ∧ Value.int .i64 ((t : Int) / 2) = .int .i64 ((B / 2 ^ i_1 : Nat) : Int) ∧ Value.int .i64 ((i : Int) + 1) = .int .i64 (i_1 : Int) ∧ i_1 ≤ R ∧ True) ∧ R - (intOf (Value.int .i64 ((i : Int) + 1))).toNat < R - (intOf (Value.int .i64 (i : Int))).toNat) := fun mv hmv =>
            ⟨⟨i + 1, by rw [hmv], by rw [← HH1.out]; simp, by rw [← HH2.out]; simp, by simp, hlt, trivial⟩, by simp [intOf]; omega⟩
          cases hme : meB A B i with
          | true =>
            have h5 : meB A B (i + 1) = true := by rw [HME.out, hme]; rfl
            go_wp2
            exact HEND.out _ h5.symm
          | false =>
            by_cases hs : s % 2 = 1
            · have hs' : (s : Int) % 2 = 1 := by omega
              by_cases ht : t % 2 = 1
              · have ht' : (t : Int) % 2 = 1 := by omega
                have h5 : meB A B (i + 1) = true := by rw [HME.out, hme]; simp [hs, ht]
                go_wp2
                exact HEND.out _ h5.symm
              · have ht' : (t : Int) % 2 = 0 := by omega
                have h5 : meB A B (i + 1) = false := by rw [HME.out, hme]; simp [hs, ht]
                go_wp2
                exact HEND.out _ h5.symm
            · have hs' : (s : Int) % 2 = 0 := by omega
              have h5 : meB A B (i + 1) = false := by rw [HME.out, hme]; simp [hs]
              go_wp2
              exact HEND.out _ h5.symm
        · have hiR : i = R := by omega
          subst hiR
          have HBA : Hid (∀ w, Calls _ _ _ w _) := fun w => bits_any A i w hA8 hR2
          have HBB : Hid (∀ w, Calls _ _ _ w _) := fun w => bits_any B i w hB8 hR2
          have HMT : Hid (Q ≤ sumB A i → Q ≤ sumB B i → meB A B i = true) := fun h1 h2 => by
            cases hme : meB A B i with
            | true => rfl
            | false => have := meets A B i hme; have := HQI.out; omega
          have hQ4 : Q ≤ 4 := by have := HQI.out; omega
          have hQ1 : 1 ≤ Q := by have := HQI.out; omega
          have w1' : IntKind.i64.wrap (2 * (Q : Int)) = 2 * (Q : Int) := by rw [IntKind.wrap_i64]; omega
          have w2' : IntKind.i64.wrap ((Q : Int) - 1) = (Q : Int) - 1 := by rw [IntKind.wrap_i64]; omega
          have w3' : IntKind.i64.wrap (2 * ((Q : Int) - 1)) = 2 * ((Q : Int) - 1) := by rw [IntKind.wrap_i64]; omega
          have d1 : decide (2 * (Q : Int) ≤ (i : Int)) = false := by have := HQI.out; simp; omega
          have d2 : decide ((i : Int) < 2 * ((Q : Int) - 1)) = false := by have := HQI.out; simp; omega
          have d1' : ¬ 2 * (Q : Int) ≤ (i : Int) := by have := HQI.out; omega
          have d2' : ¬ (i : Int) < 2 * ((Q : Int) - 1) := by have := HQI.out; omega
          have HNV : Hid (∀ w, Calls _ _ _ w _) := fun w => NewVotes_any (i : Int) w (by omega) (by omega)
          by_cases hqa : Q ≤ sumB A i
          · by_cases hqb : Q ≤ sumB B i
            · as_aux_lemma =>
              have hme := HMT.out hqa hqb
              go_wp2_with fail
              refine (HBA.out _).mono ?_
              rintro r wq ⟨rfl, hwq⟩
              subst wq
              go_wp2_with fail
              refine (HBB.out _).mono ?_
              rintro r wq ⟨rfl, hwq⟩
              subst wq
              go_wp2_with fail
              refine (HNV.out w1).mono ?_
              rintro r w2 ⟨rfl, hVE, hB2⟩
              have HVE : Hid (VE w2 w1.heap.size (pV0 (i : Int))) := hVE
              have HB2 : Hid (Below w.heap.size w w2) := HB1.out.trans (hB2.mono HB1.out.size)
              clear hVE hB2
              have hwn : w1.heap.size < w2.heap.size := HVE.out.lt
              have HCN : Hid ((pV0 (i : Int)).Cnt) := PV.Cnt.new _ (by omega) (by omega)
              have HUN : Hid (Unv A i 0 (pV0 (i : Int))) := fun j _ _ _ => rfl
              clear d1 d2 d1' d2' w1' w2' w3' HMT HBB HNV
              by_cases hl : es.length ≤ 300
              · go_wp2
                go_loopw [18] (fun iv wr => ∃ (k : Nat) (v : PV), iv = .int .i64 (k : Int) ∧ k ≤ es.length ∧ v.Cnt ∧ (i : Int) = v.nd ∧ Unv A i 0 v ∧ VE wr w1.heap.size v ∧ Below w.heap.size w wr) (fun iv _ => es.length - (intOf iv).toNat)
                case atStart => exact ⟨0, _, rfl, Nat.zero_le _, HCN.out, rfl, HUN.out, HVE.out, HB2.out⟩
                case round =>
                  obtain ⟨k, v, rfl, hk, hC, hnd, hU, hV, hB⟩ := hrel
                  have HC : Hid v.Cnt := hC
                  have HND : Hid ((i : Int) = v.nd) := hnd
                  have HU : Hid (Unv A i 0 v) := hU
                  have HV : Hid (VE wr w1.heap.size v) := hV
                  have HB : Hid (Below w.heap.size w wr) := hB
                  clear hC hnd hU hV hB HCN HUN HVE HB2
                  by_cases hlt : k < es.length
                  · as_aux_lemma =>
                    obtain ⟨g, off, rfl, hg, hd⟩ := HX.out.at hlt
                    obtain ⟨⟨c0, c1⟩, -⟩ := hd.below hg HB.out
                    have HNX : Hid (∀ (v' : PV) (wn : World), v'.Cnt → (i : Int) = v'.nd → Unv A i 0 v' → VE wn w1.heap.size v' → Below w.heap.size w wn → (∃ (k' : Nat) (v : PV), Value.int .i64 ((k : Int) + 1) = .int .i64 (k' : Int) ∧ k' ≤ es.length ∧ v.Cnt ∧ (i : Int) = v.nd ∧ Unv A i 0 v ∧ VE wn w1.heap.size v ∧ Below w.heap.size w wn) ∧ es.length - (intOf (Value.int .i64 ((k : Int) + 1))).toNat < es.length - (intOf (Value.int .i64 (k : Int))).toNat) := fun v' wn h1 h2 h3 h4 h5 => ⟨⟨k + 1, v', by simp, hlt, h1, h2, h3, h4, h5⟩, by simp [intOf]; omega⟩
                    have hkk : (k : Int) < (es.length : Int) := by omega
                    generalize (es.getD k nilVot).id = id at *
                    generalize (es.getD k nilVot).yes = yes at *
                    have HPUT : Hid (Calls Try.prog 17 #[.pointer (some ⟨w1.heap.size, 0, none⟩), .int .i64 id, .bool yes] wr fun e w' => e = .returned (.bool (v.putY id)) ∧ VE w' w1.heap.size (v.put id yes) ∧ Below w.heap.size w w') := (Put_any HV.out HC.out.ok id yes).mono fun e w' h => ⟨h.1, h.2.1, HB.out.trans (h.2.2.below HB.out.size (by rintro j rfl; exact HB1.out.size))⟩
                    clear hd
                    by_cases h1 : 1 ≤ id
                    · by_cases h2 : id ≤ (i : Int)
                      · have HM : Hid (Calls _ _ _ _ _) := member_any A id wr hA8 h1 (by omega)
                        cases hm : memB A id with
                        | true =>
                          rw [hm] at HM
                          go_wp2_with (go_at_call 42; refine HM.out.mono ?_; rintro r wq ⟨rfl, hwq⟩; subst wq)
                          exact HNX.out _ _ HC.out HND.out HU.out HV.out HB.out
                        | false =>
                          rw [hm] at HM
                          have HUP : Hid (Unv A i 0 (v.put id yes)) := HU.out.put yes hm
                          go_wp2_with (first
                            | (go_at_call 42; refine HM.out.mono ?_; rintro r wq ⟨rfl, hwq⟩; subst wq)
                            | (go_at_call 17; refine HPUT.out.mono ?_; rintro r w5 ⟨rfl, hV5, hB5⟩; have HV5 : Hid (VE _ _ _) := hV5; have HB5 : Hid (Below _ _ _) := hB5; clear hV5 hB5))
                          exact HNX.out _ _ (HC.out.put id yes) (by rw [PV.put_nd]; exact HND.out) HUP.out HV5.out HB5.out
                      · have HUP : Hid (v.put id yes = v) := HU.out.out HND.out yes (by omega)
                        go_wp2_with (go_at_call 17; refine HPUT.out.mono ?_; rintro r w5 ⟨rfl, hV5, hB5⟩; have HV5 : Hid (VE _ _ _) := hV5; have HB5 : Hid (Below _ _ _) := hB5; clear hV5 hB5)
                        exact HNX.out _ _ HC.out HND.out HU.out (by have := HV5.out; rw [HUP.out] at this; exact this) HB5.out
                    · have HUP : Hid (v.put id yes = v) := HU.out.out HND.out yes (by omega)
                      go_wp2_with (go_at_call 17; refine HPUT.out.mono ?_; rintro r w5 ⟨rfl, hV5, hB5⟩; have HV5 : Hid (VE _ _ _) := hV5; have HB5 : Hid (Below _ _ _) := hB5; clear hV5 hB5)
                      exact HNX.out _ _ HC.out HND.out HU.out (by have := HV5.out; rw [HUP.out] at this; exact this) HB5.out
                  · as_aux_lemma =>
                    obtain rfl : k = es.length := by omega
                    clear hk hlt
                    generalize wr = w3 at *
                    go_wp2
                    go_loopw [20] (fun iv wr => ∃ (j : Nat) (v : PV), iv = .int .i64 ((j : Int) + 1) ∧ j ≤ i ∧ v.Cnt ∧ (i : Int) = v.nd ∧ Unv A i j v ∧ (sumB A j : Int) ≤ v.g ∧ VE wr w1.heap.size v ∧ Below w.heap.size w wr) (fun iv _ => i + 1 - (intOf iv).toNat)
                    case atStart => exact ⟨0, v, rfl, Nat.zero_le _, HC.out, HND.out, HU.out, HC.out.g0, HV.out, HB.out⟩
                    case round =>
                      obtain ⟨j, u, rfl, hj, hC, hnd, hU, hS, hV, hB⟩ := hrel
                      have HC6 : Hid u.Cnt := hC
                      have HND6 : Hid ((i : Int) = u.nd) := hnd
                      have HU6 : Hid (Unv A i j u) := hU
                      have HS6 : Hid ((sumB A j : Int) ≤ u.g) := hS
                      have HV6 : Hid (VE wr w1.heap.size u) := hV
                      have HB6 : Hid (Below w.heap.size w wr) := hB
                      clear hC hnd hU hS hV hB HC HND HU HV HB
                      by_cases hji : j < i
                      · have HNX : Hid (∀ (v' : PV) (wn : World), v'.Cnt → (i : Int) = v'.nd → Unv A i (j + 1) v' → (sumB A (j + 1) : Int) ≤ v'.g → VE wn w1.heap.size v' → Below w.heap.size w wn → (∃ (j' : Nat) (v : PV), Value.int .i64 ((j : Int) + 1 + 1) = .int .i64 ((j' : Int) + 1) ∧ j' ≤ i ∧ v.Cnt ∧ (i : Int) = v.nd ∧ Unv A i j' v ∧ (sumB A j' : Int) ≤ v.g ∧ VE wn w1.heap.size v ∧ Below w.heap.size w wn) ∧ i + 1 - (intOf (Value.int .i64 ((j : Int) + 1 + 1))).toNat < i + 1 - (intOf (Value.int .i64 ((j : Int) + 1))).toNat) := fun v' wn h1 h2 h3 h4 h5 h6 => ⟨⟨j + 1, v', by simp, hji, h1, h2, h3, h4, h5, h6⟩, by simp [intOf]; omega⟩
                        have HM : Hid (Calls _ _ _ _ _) := member_any A ((j : Int) + 1) wr hA8 (by omega) (by omega)
                        have hmm : memB A ((j : Int) + 1) = decide (bt A j = 1) := by rw [memB, show ((j : Int) + 1 - 1).toNat = j from by omega]
                        have HSS : Hid (sumB A (j + 1) = sumB A j + bt A j) := rfl
                        have hle : (j : Int) + 1 ≤ (i : Int) := by omega
                        have hwj : IntKind.i64.wrap ((j : Int) + 1 + 1) = (j : Int) + 1 + 1 := by rw [IntKind.wrap_i64]; omega
                        rw [hmm] at HM
                        by_cases hbt : bt A j = 1
                        · have hbd : decide (bt A j = 1) = true := by simpa using hbt
                          rw [hbd] at HM
                          have hST := HU6.out.step HND6.out hji hbt
                          have HST : Hid (Unv A i (j + 1) (u.put ((j : Int) + 1) true) ∧ (u.put ((j : Int) + 1) true).g = u.g + 1) := hST
                          have HPUT : Hid (Calls Try.prog 17 #[.pointer (some ⟨w1.heap.size, 0, none⟩), .int .i64 ((j : Int) + 1), .bool true] wr fun e w' => e = .returned (.bool (u.putY ((j : Int) + 1))) ∧ VE w' w1.heap.size (u.put ((j : Int) + 1) true) ∧ Below w.heap.size w w') := (Put_any HV6.out HC6.out.ok ((j : Int) + 1) true).mono fun e w' h => ⟨h.1, h.2.1, HB6.out.trans (h.2.2.below HB6.out.size (by rintro j rfl; exact HB1.out.size))⟩
                          clear hST hmm
                          go_wp2_with (first
                            | (go_at_call 42; refine HM.out.mono ?_; rintro r wq ⟨rfl, hwq⟩; subst wq)
                            | (go_at_call 17; refine HPUT.out.mono ?_; rintro r w5 ⟨rfl, hV5, hB5⟩; have HV5 : Hid (VE _ _ _) := hV5; have HB5 : Hid (Below _ _ _) := hB5; clear hV5 hB5))
                          exact HNX.out _ _ (HC6.out.put _ true) (by rw [PV.put_nd]; exact HND6.out) HST.out.1 (by rw [HST.out.2, HSS.out, hbt]; have := HS6.out; omega) HV5.out HB5.out
                        · have hbd : decide (bt A j = 1) = false := by simpa using hbt
                          have hb0 : bt A j = 0 := by have := bt_lt A j; omega
                          rw [hbd] at HM
                          clear hmm
                          go_wp2_with (go_at_call 42; refine HM.out.mono ?_; rintro r wq ⟨rfl, hwq⟩; subst wq)
                          exact HNX.out _ _ HC6.out HND6.out (fun j' h1 h2 h3 => HU6.out j' (by omega) h2 h3) (by rw [HSS.out, hb0]; have := HS6.out; omega) HV6.out HB6.out
                      · have hjn : j = i := by omega
                        subst hjn
                        have hle : ¬ (j : Int) + 1 ≤ (j : Int) := by omega
                        have HRS : Hid (Calls _ _ _ _ _) := Result_any HV6.out HC6.out.ok
                        by_cases hq : Q ≤ sumB A j
                        · have hres : u.res = 1 := by rw [PV.res, ← HND6.out, HQQ.out, if_pos (by have := HS6.out; omega)]
                          rw [hres] at HRS
                          have hdq : decide ((sumB A j : Int) < (Q : Int)) = false := by simp; omega
                          have hdn : ¬ sumB A j < Q := by omega
                          clear hres
                          go_wp2_with (first
                            | (go_at_call 41; refine (HBA.out _).mono ?_; rintro r wq ⟨rfl, hwq⟩; subst wq)
                            | (go_at_call 21; refine HRS.out.mono ?_; rintro r w7 ⟨rfl, n7, hw7⟩; have HB7 : Hid (Below w.heap.size w w7) := (by show Below _ _ _; rw [hw7]; have := HB6.out; exact ⟨this.os, this.tape, this.output, this.size, this.block⟩); clear hw7))
                          go_ret
                          exact ⟨rfl, HB7.out⟩
                        · have hdq : decide ((sumB A j : Int) < (Q : Int)) = true := by simp; omega
                          have hdn : sumB A j < Q := by omega
                          go_wp2_with (go_at_call 41; refine (HBA.out _).mono ?_; rintro r wq ⟨rfl, hwq⟩; subst wq)
                          go_ret
                          exact ⟨rfl, HB6.out⟩
              · have hl2 : 300 < es.length := by omega
                go_wp2
                go_ret
                exact ⟨rfl, HB2.out⟩
            · as_aux_lemma =>
              go_wp2_with fail
              refine (HBA.out _).mono ?_
              rintro r wq ⟨rfl, hwq⟩
              subst wq
              go_wp2_with fail
              refine (HBB.out _).mono ?_
              rintro r wq ⟨rfl, hwq⟩
              subst wq
              go_wp2_with fail
              refine (HNV.out w1).mono ?_
              rintro r w2 ⟨rfl, hVE, hB2⟩
              have HVE : Hid (VE w2 w1.heap.size (pV0 (i : Int))) := hVE
              have HB2 : Hid (Below w.heap.size w w2) := HB1.out.trans (hB2.mono HB1.out.size)
              clear hVE hB2
              have hwn : w1.heap.size < w2.heap.size := HVE.out.lt
              have HCN : Hid ((pV0 (i : Int)).Cnt) := PV.Cnt.new _ (by omega) (by omega)
              have HUN : Hid (Unv A i 0 (pV0 (i : Int))) := fun j _ _ _ => rfl
              clear d1 d2 d1' d2' w1' w2' w3' HMT HBB HNV
              by_cases hl : es.length ≤ 300
              · go_wp2
                go_loopw [18] (fun iv wr => ∃ (k : Nat) (v : PV), iv = .int .i64 (k : Int) ∧ k ≤ es.length ∧ v.Cnt ∧ (i : Int) = v.nd ∧ Unv A i 0 v ∧ VE wr w1.heap.size v ∧ Below w.heap.size w wr) (fun iv _ => es.length - (intOf iv).toNat)
                case atStart => exact ⟨0, _, rfl, Nat.zero_le _, HCN.out, rfl, HUN.out, HVE.out, HB2.out⟩
                case round =>
                  obtain ⟨k, v, rfl, hk, hC, hnd, hU, hV, hB⟩ := hrel
                  have HC : Hid v.Cnt := hC
                  have HND : Hid ((i : Int) = v.nd) := hnd
                  have HU : Hid (Unv A i 0 v) := hU
                  have HV : Hid (VE wr w1.heap.size v) := hV
                  have HB : Hid (Below w.heap.size w wr) := hB
                  clear hC hnd hU hV hB HCN HUN HVE HB2
                  by_cases hlt : k < es.length
                  · as_aux_lemma =>
                    obtain ⟨g, off, rfl, hg, hd⟩ := HX.out.at hlt
                    obtain ⟨⟨c0, c1⟩, -⟩ := hd.below hg HB.out
                    have HNX : Hid (∀ (v' : PV) (wn : World), v'.Cnt → (i : Int) = v'.nd → Unv A i 0 v' → VE wn w1.heap.size v' → Below w.heap.size w wn → (∃ (k' : Nat) (v : PV), Value.int .i64 ((k : Int) + 1) = .int .i64 (k' : Int) ∧ k' ≤ es.length ∧ v.Cnt ∧ (i : Int) = v.nd ∧ Unv A i 0 v ∧ VE wn w1.heap.size v ∧ Below w.heap.size w wn) ∧ es.length - (intOf (Value.int .i64 ((k : Int) + 1))).toNat < es.length - (intOf (Value.int .i64 (k : Int))).toNat) := fun v' wn h1 h2 h3 h4 h5 => ⟨⟨k + 1, v', by simp, hlt, h1, h2, h3, h4, h5⟩, by simp [intOf]; omega⟩
                    have hkk : (k : Int) < (es.length : Int) := by omega
                    generalize (es.getD k nilVot).id = id at *
                    generalize (es.getD k nilVot).yes = yes at *
                    have HPUT : Hid (Calls Try.prog 17 #[.pointer (some ⟨w1.heap.size, 0, none⟩), .int .i64 id, .bool yes] wr fun e w' => e = .returned (.bool (v.putY id)) ∧ VE w' w1.heap.size (v.put id yes) ∧ Below w.heap.size w w') := (Put_any HV.out HC.out.ok id yes).mono fun e w' h => ⟨h.1, h.2.1, HB.out.trans (h.2.2.below HB.out.size (by rintro j rfl; exact HB1.out.size))⟩
                    clear hd
                    by_cases h1 : 1 ≤ id
                    · by_cases h2 : id ≤ (i : Int)
                      · have HM : Hid (Calls _ _ _ _ _) := member_any A id wr hA8 h1 (by omega)
                        cases hm : memB A id with
                        | true =>
                          rw [hm] at HM
                          go_wp2_with (go_at_call 42; refine HM.out.mono ?_; rintro r wq ⟨rfl, hwq⟩; subst wq)
                          exact HNX.out _ _ HC.out HND.out HU.out HV.out HB.out
                        | false =>
                          rw [hm] at HM
                          have HUP : Hid (Unv A i 0 (v.put id yes)) := HU.out.put yes hm
                          go_wp2_with (first
                            | (go_at_call 42; refine HM.out.mono ?_; rintro r wq ⟨rfl, hwq⟩; subst wq)
                            | (go_at_call 17; refine HPUT.out.mono ?_; rintro r w5 ⟨rfl, hV5, hB5⟩; have HV5 : Hid (VE _ _ _) := hV5; have HB5 : Hid (Below _ _ _) := hB5; clear hV5 hB5))
                          exact HNX.out _ _ (HC.out.put id yes) (by rw [PV.put_nd]; exact HND.out) HUP.out HV5.out HB5.out
                      · have HUP : Hid (v.put id yes = v) := HU.out.out HND.out yes (by omega)
                        go_wp2_with (go_at_call 17; refine HPUT.out.mono ?_; rintro r w5 ⟨rfl, hV5, hB5⟩; have HV5 : Hid (VE _ _ _) := hV5; have HB5 : Hid (Below _ _ _) := hB5; clear hV5 hB5)
                        exact HNX.out _ _ HC.out HND.out HU.out (by have := HV5.out; rw [HUP.out] at this; exact this) HB5.out
                    · have HUP : Hid (v.put id yes = v) := HU.out.out HND.out yes (by omega)
                      go_wp2_with (go_at_call 17; refine HPUT.out.mono ?_; rintro r w5 ⟨rfl, hV5, hB5⟩; have HV5 : Hid (VE _ _ _) := hV5; have HB5 : Hid (Below _ _ _) := hB5; clear hV5 hB5)
                      exact HNX.out _ _ HC.out HND.out HU.out (by have := HV5.out; rw [HUP.out] at this; exact this) HB5.out
                  · as_aux_lemma =>
                    obtain rfl : k = es.length := by omega
                    clear hk hlt
                    generalize wr = w3 at *
                    go_wp2
                    go_loopw [20] (fun iv wr => ∃ (j : Nat) (v : PV), iv = .int .i64 ((j : Int) + 1) ∧ j ≤ i ∧ v.Cnt ∧ (i : Int) = v.nd ∧ Unv A i j v ∧ (sumB A j : Int) ≤ v.g ∧ VE wr w1.heap.size v ∧ Below w.heap.size w wr) (fun iv _ => i + 1 - (intOf iv).toNat)
                    case atStart => exact ⟨0, v, rfl, Nat.zero_le _, HC.out, HND.out, HU.out, HC.out.g0, HV.out, HB.out⟩
                    case round =>
                      obtain ⟨j, u, rfl, hj, hC, hnd, hU, hS, hV, hB⟩ := hrel
                      have HC6 : Hid u.Cnt := hC
                      have HND6 : Hid ((i : Int) = u.nd) := hnd
                      have HU6 : Hid (Unv A i j u) := hU
                      have HS6 : Hid ((sumB A j : Int) ≤ u.g) := hS
                      have HV6 : Hid (VE wr w1.heap.size u) := hV
                      have HB6 : Hid (Below w.heap.size w wr) := hB
                      clear hC hnd hU hS hV hB HC HND HU HV HB
                      by_cases hji : j < i
                      · have HNX : Hid (∀ (v' : PV) (wn : World), v'.Cnt → (i : Int) = v'.nd → Unv A i (j + 1) v' → (sumB A (j + 1) : Int) ≤ v'.g → VE wn w1.heap.size v' → Below w.heap.size w wn → (∃ (j' : Nat) (v : PV), Value.int .i64 ((j : Int) + 1 + 1) = .int .i64 ((j' : Int) + 1) ∧ j' ≤ i ∧ v.Cnt ∧ (i : Int) = v.nd ∧ Unv A i j' v ∧ (sumB A j' : Int) ≤ v.g ∧ VE wn w1.heap.size v ∧ Below w.heap.size w wn) ∧ i + 1 - (intOf (Value.int .i64 ((j : Int) + 1 + 1))).toNat < i + 1 - (intOf (Value.int .i64 ((j : Int) + 1))).toNat) := fun v' wn h1 h2 h3 h4 h5 h6 => ⟨⟨j + 1, v', by simp, hji, h1, h2, h3, h4, h5, h6⟩, by simp [intOf]; omega⟩
                        have HM : Hid (Calls _ _ _ _ _) := member_any A ((j : Int) + 1) wr hA8 (by omega) (by omega)
                        have hmm : memB A ((j : Int) + 1) = decide (bt A j = 1) := by rw [memB, show ((j : Int) + 1 - 1).toNat = j from by omega]
                        have HSS : Hid (sumB A (j + 1) = sumB A j + bt A j) := rfl
                        have hle : (j : Int) + 1 ≤ (i : Int) := by omega
                        have hwj : IntKind.i64.wrap ((j : Int) + 1 + 1) = (j : Int) + 1 + 1 := by rw [IntKind.wrap_i64]; omega
                        rw [hmm] at HM
                        by_cases hbt : bt A j = 1
                        · have hbd : decide (bt A j = 1) = true := by simpa using hbt
                          rw [hbd] at HM
                          have hST := HU6.out.step HND6.out hji hbt
                          have HST : Hid (Unv A i (j + 1) (u.put ((j : Int) + 1) true) ∧ (u.put ((j : Int) + 1) true).g = u.g + 1) := hST
                          have HPUT : Hid (Calls Try.prog 17 #[.pointer (some ⟨w1.heap.size, 0, none⟩), .int .i64 ((j : Int) + 1), .bool true] wr fun e w' => e = .returned (.bool (u.putY ((j : Int) + 1))) ∧ VE w' w1.heap.size (u.put ((j : Int) + 1) true) ∧ Below w.heap.size w w') := (Put_any HV6.out HC6.out.ok ((j : Int) + 1) true).mono fun e w' h => ⟨h.1, h.2.1, HB6.out.trans (h.2.2.below HB6.out.size (by rintro j rfl; exact HB1.out.size))⟩
                          clear hST hmm
                          go_wp2_with (first
                            | (go_at_call 42; refine HM.out.mono ?_; rintro r wq ⟨rfl, hwq⟩; subst wq)
                            | (go_at_call 17; refine HPUT.out.mono ?_; rintro r w5 ⟨rfl, hV5, hB5⟩; have HV5 : Hid (VE _ _ _) := hV5; have HB5 : Hid (Below _ _ _) := hB5; clear hV5 hB5))
                          exact HNX.out _ _ (HC6.out.put _ true) (by rw [PV.put_nd]; exact HND6.out) HST.out.1 (by rw [HST.out.2, HSS.out, hbt]; have := HS6.out; omega) HV5.out HB5.out
                        · have hbd : decide (bt A j = 1) = false := by simpa using hbt
                          have hb0 : bt A j = 0 := by have := bt_lt A j; omega
                          rw [hbd] at HM
                          clear hmm
                          go_wp2_with (go_at_call 42; refine HM.out.mono ?_; rintro r wq ⟨rfl, hwq⟩; subst wq)
                          exact HNX.out _ _ HC6.out HND6.out (fun j' h1 h2 h3 => HU6.out j' (by omega) h2 h3) (by rw [HSS.out, hb0]; have := HS6.out; omega) HV6.out HB6.out
                      · have hjn : j = i := by omega
                        subst hjn
                        have hle : ¬ (j : Int) + 1 ≤ (j : Int) := by omega
                        have HRS : Hid (Calls _ _ _ _ _) := Result_any HV6.out HC6.out.ok
                        by_cases hq : Q ≤ sumB A j
                        · have hres : u.res = 1 := by rw [PV.res, ← HND6.out, HQQ.out, if_pos (by have := HS6.out; omega)]
                          rw [hres] at HRS
                          have hdq : decide ((sumB A j : Int) < (Q : Int)) = false := by simp; omega
                          have hdn : ¬ sumB A j < Q := by omega
                          clear hres
                          go_wp2_with (first
                            | (go_at_call 41; refine (HBA.out _).mono ?_; rintro r wq ⟨rfl, hwq⟩; subst wq)
                            | (go_at_call 21; refine HRS.out.mono ?_; rintro r w7 ⟨rfl, n7, hw7⟩; have HB7 : Hid (Below w.heap.size w w7) := (by show Below _ _ _; rw [hw7]; have := HB6.out; exact ⟨this.os, this.tape, this.output, this.size, this.block⟩); clear hw7))
                          go_ret
                          exact ⟨rfl, HB7.out⟩
                        · have hdq : decide ((sumB A j : Int) < (Q : Int)) = true := by simp; omega
                          have hdn : sumB A j < Q := by omega
                          go_wp2_with (go_at_call 41; refine (HBA.out _).mono ?_; rintro r wq ⟨rfl, hwq⟩; subst wq)
                          go_ret
                          exact ⟨rfl, HB6.out⟩
              · have hl2 : 300 < es.length := by omega
                go_wp2
                go_ret
                exact ⟨rfl, HB2.out⟩
          · as_aux_lemma =>
            go_wp2_with fail
            refine (HBA.out _).mono ?_
            rintro r wq ⟨rfl, hwq⟩
            subst wq
            go_wp2_with fail
            refine (HNV.out w1).mono ?_
            rintro r w2 ⟨rfl, hVE, hB2⟩
            have HVE : Hid (VE w2 w1.heap.size (pV0 (i : Int))) := hVE
            have HB2 : Hid (Below w.heap.size w w2) := HB1.out.trans (hB2.mono HB1.out.size)
            clear hVE hB2
            have hwn : w1.heap.size < w2.heap.size := HVE.out.lt
            have HCN : Hid ((pV0 (i : Int)).Cnt) := PV.Cnt.new _ (by omega) (by omega)
            have HUN : Hid (Unv A i 0 (pV0 (i : Int))) := fun j _ _ _ => rfl
            clear d1 d2 d1' d2' w1' w2' w3' HMT HBB HNV
            by_cases hl : es.length ≤ 300
            · go_wp2
              go_loopw [18] (fun iv wr => ∃ (k : Nat) (v : PV), iv = .int .i64 (k : Int) ∧ k ≤ es.length ∧ v.Cnt ∧ (i : Int) = v.nd ∧ Unv A i 0 v ∧ VE wr w1.heap.size v ∧ Below w.heap.size w wr) (fun iv _ => es.length - (intOf iv).toNat)
              case atStart => exact ⟨0, _, rfl, Nat.zero_le _, HCN.out, rfl, HUN.out, HVE.out, HB2.out⟩
              case round =>
                obtain ⟨k, v, rfl, hk, hC, hnd, hU, hV, hB⟩ := hrel
                have HC : Hid v.Cnt := hC
                have HND : Hid ((i : Int) = v.nd) := hnd
                have HU : Hid (Unv A i 0 v) := hU
                have HV : Hid (VE wr w1.heap.size v) := hV
                have HB : Hid (Below w.heap.size w wr) := hB
                clear hC hnd hU hV hB HCN HUN HVE HB2
                by_cases hlt : k < es.length
                · as_aux_lemma =>
                  obtain ⟨g, off, rfl, hg, hd⟩ := HX.out.at hlt
                  obtain ⟨⟨c0, c1⟩, -⟩ := hd.below hg HB.out
                  have HNX : Hid (∀ (v' : PV) (wn : World), v'.Cnt → (i : Int) = v'.nd → Unv A i 0 v' → VE wn w1.heap.size v' → Below w.heap.size w wn → (∃ (k' : Nat) (v : PV), Value.int .i64 ((k : Int) + 1) = .int .i64 (k' : Int) ∧ k' ≤ es.length ∧ v.Cnt ∧ (i : Int) = v.nd ∧ Unv A i 0 v ∧ VE wn w1.heap.size v ∧ Below w.heap.size w wn) ∧ es.length - (intOf (Value.int .i64 ((k : Int) + 1))).toNat < es.length - (intOf (Value.int .i64 (k : Int))).toNat) := fun v' wn h1 h2 h3 h4 h5 => ⟨⟨k + 1, v', by simp, hlt, h1, h2, h3, h4, h5⟩, by simp [intOf]; omega⟩
                  have hkk : (k : Int) < (es.length : Int) := by omega
                  generalize (es.getD k nilVot).id = id at *
                  generalize (es.getD k nilVot).yes = yes at *
                  have HPUT : Hid (Calls Try.prog 17 #[.pointer (some ⟨w1.heap.size, 0, none⟩), .int .i64 id, .bool yes] wr fun e w' => e = .returned (.bool (v.putY id)) ∧ VE w' w1.heap.size (v.put id yes) ∧ Below w.heap.size w w') := (Put_any HV.out HC.out.ok id yes).mono fun e w' h => ⟨h.1, h.2.1, HB.out.trans (h.2.2.below HB.out.size (by rintro j rfl; exact HB1.out.size))⟩
                  clear hd
                  by_cases h1 : 1 ≤ id
                  · by_cases h2 : id ≤ (i : Int)
                    · have HM : Hid (Calls _ _ _ _ _) := member_any A id wr hA8 h1 (by omega)
                      cases hm : memB A id with
                      | true =>
                        rw [hm] at HM
                        go_wp2_with (go_at_call 42; refine HM.out.mono ?_; rintro r wq ⟨rfl, hwq⟩; subst wq)
                        exact HNX.out _ _ HC.out HND.out HU.out HV.out HB.out
                      | false =>
                        rw [hm] at HM
                        have HUP : Hid (Unv A i 0 (v.put id yes)) := HU.out.put yes hm
                        go_wp2_with (first
                          | (go_at_call 42; refine HM.out.mono ?_; rintro r wq ⟨rfl, hwq⟩; subst wq)
                          | (go_at_call 17; refine HPUT.out.mono ?_; rintro r w5 ⟨rfl, hV5, hB5⟩; have HV5 : Hid (VE _ _ _) := hV5; have HB5 : Hid (Below _ _ _) := hB5; clear hV5 hB5))
                        exact HNX.out _ _ (HC.out.put id yes) (by rw [PV.put_nd]; exact HND.out) HUP.out HV5.out HB5.out
                    · have HUP : Hid (v.put id yes = v) := HU.out.out HND.out yes (by omega)
                      go_wp2_with (go_at_call 17; refine HPUT.out.mono ?_; rintro r w5 ⟨rfl, hV5, hB5⟩; have HV5 : Hid (VE _ _ _) := hV5; have HB5 : Hid (Below _ _ _) := hB5; clear hV5 hB5)
                      exact HNX.out _ _ HC.out HND.out HU.out (by have := HV5.out; rw [HUP.out] at this; exact this) HB5.out
                  · have HUP : Hid (v.put id yes = v) := HU.out.out HND.out yes (by omega)
                    go_wp2_with (go_at_call 17; refine HPUT.out.mono ?_; rintro r w5 ⟨rfl, hV5, hB5⟩; have HV5 : Hid (VE _ _ _) := hV5; have HB5 : Hid (Below _ _ _) := hB5; clear hV5 hB5)
                    exact HNX.out _ _ HC.out HND.out HU.out (by have := HV5.out; rw [HUP.out] at this; exact this) HB5.out
                · as_aux_lemma =>
                  obtain rfl : k = es.length := by omega
                  clear hk hlt
                  generalize wr = w3 at *
                  go_wp2
                  go_loopw [20] (fun iv wr => ∃ (j : Nat) (v : PV), iv = .int .i64 ((j : Int) + 1) ∧ j ≤ i ∧ v.Cnt ∧ (i : Int) = v.nd ∧ Unv A i j v ∧ (sumB A j : Int) ≤ v.g ∧ VE wr w1.heap.size v ∧ Below w.heap.size w wr) (fun iv _ => i + 1 - (intOf iv).toNat)
                  case atStart => exact ⟨0, v, rfl, Nat.zero_le _, HC.out, HND.out, HU.out, HC.out.g0, HV.out, HB.out⟩
                  case round =>
                    obtain ⟨j, u, rfl, hj, hC, hnd, hU, hS, hV, hB⟩ := hrel
                    have HC6 : Hid u.Cnt := hC
                    have HND6 : Hid ((i : Int) = u.nd) := hnd
                    have HU6 : Hid (Unv A i j u) := hU
                    have HS6 : Hid ((sumB A j : Int) ≤ u.g) := hS
                    have HV6 : Hid (VE wr w1.heap.size u) := hV
                    have HB6 : Hid (Below w.heap.size w wr) := hB
                    clear hC hnd hU hS hV hB HC HND HU HV HB
                    by_cases hji : j < i
                    · have HNX : Hid (∀ (v' : PV) (wn : World), v'.Cnt → (i : Int) = v'.nd → Unv A i (j + 1) v' → (sumB A (j + 1) : Int) ≤ v'.g → VE wn w1.heap.size v' → Below w.heap.size w wn → (∃ (j' : Nat) (v : PV), Value.int .i64 ((j : Int) + 1 + 1) = .int .i64 ((j' : Int) + 1) ∧ j' ≤ i ∧ v.Cnt ∧ (i : Int) = v.nd ∧ Unv A i j' v ∧ (sumB A j' : Int) ≤ v.g ∧ VE wn w1.heap.size v ∧ Below w.heap.size w wn) ∧ i + 1 - (intOf (Value.int .i64 ((j : Int) + 1 + 1))).toNat < i + 1 - (intOf (Value.int .i64 ((j : Int) + 1))).toNat) := fun v' wn h1 h2 h3 h4 h5 h6 => ⟨⟨j + 1, v', by simp, hji, h1, h2, h3, h4, h5, h6⟩, by simp [intOf]; omega⟩
                      have HM : Hid (Calls _ _ _ _ _) := member_any A ((j : Int) + 1) wr hA8 (by omega) (by omega)
                      have hmm : memB A ((j : Int) + 1) = decide (bt A j = 1) := by rw [memB, show ((j : Int) + 1 - 1).toNat = j from by omega]
                      have HSS : Hid (sumB A (j + 1) = sumB A j + bt A j) := rfl
                      have hle : (j : Int) + 1 ≤ (i : Int) := by omega
                      have hwj : IntKind.i64.wrap ((j : Int) + 1 + 1) = (j : Int) + 1 + 1 := by rw [IntKind.wrap_i64]; omega
                      rw [hmm] at HM
                      by_cases hbt : bt A j = 1
                      · have hbd : decide (bt A j = 1) = true := by simpa using hbt
                        rw [hbd] at HM
                        have hST := HU6.out.step HND6.out hji hbt
                        have HST : Hid (Unv A i (j + 1) (u.put ((j : Int) + 1) true) ∧ (u.put ((j : Int) + 1) true).g = u.g + 1) := hST
                        have HPUT : Hid (Calls Try.prog 17 #[.pointer (some ⟨w1.heap.size, 0, none⟩), .int .i64 ((j : Int) + 1), .bool true] wr fun e w' => e = .returned (.bool (u.putY ((j : Int) + 1))) ∧ VE w' w1.heap.size (u.put ((j : Int) + 1) true) ∧ Below w.heap.size w w') := (Put_any HV6.out HC6.out.ok ((j : Int) + 1) true).mono fun e w' h => ⟨h.1, h.2.1, HB6.out.trans (h.2.2.below HB6.out.size (by rintro j rfl; exact HB1.out.size))⟩
                        clear hST hmm
                        go_wp2_with (first
                          | (go_at_call 42; refine HM.out.mono ?_; rintro r wq ⟨rfl, hwq⟩; subst wq)
                          | (go_at_call 17; refine HPUT.out.mono ?_; rintro r w5 ⟨rfl, hV5, hB5⟩; have HV5 : Hid (VE _ _ _) := hV5; have HB5 : Hid (Below _ _ _) := hB5; clear hV5 hB5))
                        exact HNX.out _ _ (HC6.out.put _ true) (by rw [PV.put_nd]; exact HND6.out) HST.out.1 (by rw [HST.out.2, HSS.out, hbt]; have := HS6.out; omega) HV5.out HB5.out
                      · have hbd : decide (bt A j = 1) = false := by simpa using hbt
                        have hb0 : bt A j = 0 := by have := bt_lt A j; omega
                        rw [hbd] at HM
                        clear hmm
                        go_wp2_with (go_at_call 42; refine HM.out.mono ?_; rintro r wq ⟨rfl, hwq⟩; subst wq)
                        exact HNX.out _ _ HC6.out HND6.out (fun j' h1 h2 h3 => HU6.out j' (by omega) h2 h3) (by rw [HSS.out, hb0]; have := HS6.out; omega) HV6.out HB6.out
                    · have hjn : j = i := by omega
                      subst hjn
                      have hle : ¬ (j : Int) + 1 ≤ (j : Int) := by omega
                      have HRS : Hid (Calls _ _ _ _ _) := Result_any HV6.out HC6.out.ok
                      by_cases hq : Q ≤ sumB A j
                      · have hres : u.res = 1 := by rw [PV.res, ← HND6.out, HQQ.out, if_pos (by have := HS6.out; omega)]
                        rw [hres] at HRS
                        have hdq : decide ((sumB A j : Int) < (Q : Int)) = false := by simp; omega
                        have hdn : ¬ sumB A j < Q := by omega
                        clear hres
                        go_wp2_with (first
                          | (go_at_call 41; refine (HBA.out _).mono ?_; rintro r wq ⟨rfl, hwq⟩; subst wq)
                          | (go_at_call 21; refine HRS.out.mono ?_; rintro r w7 ⟨rfl, n7, hw7⟩; have HB7 : Hid (Below w.heap.size w w7) := (by show Below _ _ _; rw [hw7]; have := HB6.out; exact ⟨this.os, this.tape, this.output, this.size, this.block⟩); clear hw7))
                        go_ret
                        exact ⟨rfl, HB7.out⟩
                      · have hdq : decide ((sumB A j : Int) < (Q : Int)) = true := by simp; omega
                        have hdn : sumB A j < Q := by omega
                        go_wp2_with (go_at_call 41; refine (HBA.out _).mono ?_; rintro r wq ⟨rfl, hwq⟩; subst wq)
                        go_ret
                        exact ⟨rfl, HB6.out⟩
            · have hl2 : 300 < es.length := by omega
              go_wp2
              go_ret
              exact ⟨rfl, HB2.out⟩

theorem trackMeet_in (w : World) (z0 : Int) (hb0 : In64 z0) (z1 : Int) (hb1 : In64 z1) (z2 : Int) (hb2 : In64 z2) {ea : Option Addr} {ec : Nat} (es : List Vot) (s : VotAts w.heap.size w ea es ∧ es.length ≤ 9223372036854775807) :
    Calls Try.prog 6 #[.int .i64 z0, .int .i64 z1, .int .i64 z2, .slice ea es.length ec] w fun e w' => e = .returned (.bool true) ∧ Below w.heap.size w w' := meet_walk z0 z1 z2 hb0 ea ec es w s.1 s.2
end Go.Proofs.Ytdgaimiggejleaa
