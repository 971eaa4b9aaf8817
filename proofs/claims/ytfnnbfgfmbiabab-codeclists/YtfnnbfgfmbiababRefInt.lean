/-
  What the document's own Int answers, at any place of any bytes.
-/
import Derived.Test.YtfnnbfgfmbiababRef
namespace Go.Proofs.Ytfnnbfgfmbiabab
open Go.RowKit

/-- The answer of three numbers, as the program hands it back. -/
def tup3 (r : Nat × Nat × Nat) : Value := .tuple #[.int .i64 (r.1 : Int), .int .i64 (r.2.1 : Int), .int .i64 (r.2.2 : Int)]

def byteAt (l : List UInt8) (i : Nat) : UInt8 := l[i]?.getD 0

theorem ahead_go : ∀ (k f : Nat) (p : List UInt8), k ≤ f → k ≤ p.length → (∀ j, j < k → 128 ≤ (byteAt p j).toNat) → ahead f p = p.take k ++ ahead (f - k) (p.drop k)
  | 0, f, p, _, _, _ => by simp
  | k + 1, 0, p, h, _, _ => by omega
  | k + 1, f + 1, [], _, h, _ => by simp at h
  | k + 1, f + 1, x :: p, h1, h2, h3 => by
    have h0 := h3 0 (by omega)
    simp [byteAt] at h0
    have := ahead_go k f p (by omega) (by simpa using h2) (fun j hj => by have := h3 (j + 1) (by omega); simpa [byteAt] using this)
    simp [ahead, Nat.not_lt.2 h0, this]

theorem byteAt_drop (l : List UInt8) (a j : Nat) : byteAt (l.drop a) j = byteAt l (a + j) := by simp [byteAt]

theorem lastB_snoc (p : List UInt8) (x : UInt8) : lastB (p ++ [x]) = x.toNat := by simp [lastB]

theorem take_snocB (l : List UInt8) (k : Nat) (h : k < l.length) : l.take (k + 1) = l.take k ++ [byteAt l k] := by
  rw [List.take_succ_eq_append_getElem h]; simp [byteAt, h]

theorem drop_consB (l : List UInt8) (k : Nat) (h : k < l.length) : l.drop k = byteAt l k :: l.drop (k + 1) := by
  rw [List.drop_eq_getElem_cons h]; simp [byteAt, h]

/-- Nine bytes, none of which ends a number. -/
theorem verdict_nine (l : List UInt8) (a : Nat) (h : a + 9 ≤ l.length) (h3 : ∀ j, j < 9 → 128 ≤ (byteAt l (a + j)).toNat) : intAt l a = (0, 0, 4) := by
  have e := ahead_go 9 9 (l.drop a) (by omega) (by simp; omega) (fun j hj => by rw [byteAt_drop]; exact h3 j hj)
  simp [ahead] at e
  have hl : lastB (ahead 9 (l.drop a)) = (byteAt l (a + 8)).toNat := by
    rw [e, take_snocB _ 8 (by simp; omega), lastB_snoc, byteAt_drop]
  have h8 := h3 8 (by omega)
  have hlen : (ahead 9 (l.drop a)).length = 9 := by rw [e]; simp; omega
  unfold intAt
  rw [if_neg (by omega)]
  simp only [Int.toNat_natCast]
  unfold verdict
  rw [if_neg (by omega), if_pos (by omega)]

/-- The bytes end within the number. -/
theorem verdict_short (l : List UInt8) (a k : Nat) (hk : k < 9) (h0 : a < l.length) (h : a + k = l.length) (h3 : ∀ j, j < k → 128 ≤ (byteAt l (a + j)).toNat) : intAt l a = (0, 0, 2) := by
  have e := ahead_go k 9 (l.drop a) (by omega) (by simp; omega) (fun j hj => by rw [byteAt_drop]; exact h3 j hj)
  have hd : (l.drop a).drop k = [] := by apply List.drop_eq_nil_of_le; simp; omega
  rw [hd] at e
  obtain ⟨k', rfl⟩ : ∃ k', k = k' + 1 := ⟨k - 1, by omega⟩
  have e2 : ahead 9 (l.drop a) = (l.drop a).take (k' + 1) := by
    rw [e]; cases hf : 9 - (k' + 1) <;> simp [ahead]
  have hl : lastB (ahead 9 (l.drop a)) = (byteAt l (a + k')).toNat := by
    rw [e2, take_snocB _ k' (by simp; omega), lastB_snoc, byteAt_drop]
  have h8 := h3 k' (by omega)
  have hlen : (ahead 9 (l.drop a)).length = k' + 1 := by rw [e2]; simp; omega
  unfold intAt
  rw [if_neg (by omega)]
  simp only [Int.toNat_natCast]
  unfold verdict
  rw [if_pos (by omega)]

/-- The bytes of the number are k and the one that ends it. -/
theorem ahead_end (l : List UInt8) (a k : Nat) (hk : k < 9) (h : a + k < l.length) (h3 : ∀ j, j < k → 128 ≤ (byteAt l (a + j)).toNat) (h4 : (byteAt l (a + k)).toNat < 128) :
    ahead 9 (l.drop a) = (l.drop a).take (k + 1) ∧ lastB (ahead 9 (l.drop a)) = (byteAt l (a + k)).toNat ∧ (ahead 9 (l.drop a)).length = k + 1 := by
  have e := ahead_go k 9 (l.drop a) (by omega) (by simp; omega) (fun j hj => by rw [byteAt_drop]; exact h3 j hj)
  obtain ⟨f, hf⟩ : ∃ f, 9 - k = f + 1 := ⟨8 - k, by omega⟩
  have hd : (l.drop a).drop k = byteAt l (a + k) :: (l.drop a).drop (k + 1) := by
    rw [drop_consB (l.drop a) k (by simp; omega), byteAt_drop]
  rw [hd, hf] at e
  have e2 : ahead 9 (l.drop a) = (l.drop a).take (k + 1) := by
    rw [e, take_snocB _ k (by simp; omega), byteAt_drop]; simp [ahead, h4]
  refine ⟨e2, ?_, ?_⟩
  · rw [e2, take_snocB _ k (by simp; omega), lastB_snoc, byteAt_drop]
  · rw [e2]; simp; omega

theorem verdict_zero (l : List UInt8) (a k : Nat) (hk : k < 9) (h : a + k < l.length) (h3 : ∀ j, j < k → 128 ≤ (byteAt l (a + j)).toNat) (h4 : (byteAt l (a + k)).toNat = 0) (h5 : 0 < k) : intAt l a = (0, 0, 4) := by
  obtain ⟨_, hl, hlen⟩ := ahead_end l a k hk h h3 (by omega)
  unfold intAt
  rw [if_neg (by omega)]
  simp only [Int.toNat_natCast]
  unfold verdict
  rw [if_neg (by omega), if_neg (by omega), if_pos (by omega)]

theorem verdict_num (l : List UInt8) (a k : Nat) (hk : k < 9) (h : a + k < l.length) (h3 : ∀ j, j < k → 128 ≤ (byteAt l (a + j)).toNat) (h4 : (byteAt l (a + k)).toNat < 128) (h5 : (byteAt l (a + k)).toNat = 0 → k = 0) :
    intAt l a = if 4611686018427387904 < val ((l.drop a).take (k + 1)) then (0, 0, 1) else (val ((l.drop a).take (k + 1)), k + 1, 0) := by
  obtain ⟨e, hl, hlen⟩ := ahead_end l a k hk h h3 h4
  unfold intAt
  rw [if_neg (by omega)]
  simp only [Int.toNat_natCast]
  unfold verdict
  rw [if_neg (by omega), if_neg (by omega), if_neg (by omega), hlen, e]

theorem intAt_off (l : List UInt8) (a : Int) (h : a < 0 ∨ (l.length : Int) ≤ a) : intAt l a = (0, 0, 2) := by
  unfold intAt; rw [if_pos h]

theorem val_dropB (l : List UInt8) (k : Nat) (h : k < l.length) : val (l.drop k) = (byteAt l k).toNat % 128 + 128 * val (l.drop (k + 1)) := by
  rw [drop_consB l k h]; rfl

theorem byteAt_take (l : List UInt8) (k j : Nat) (h : j < k) : byteAt (l.take k) j = byteAt l j := by
  simp [byteAt, h]

theorem Sl.cellAt {N : Nat} {w : World} {a : Option Addr} {l : List UInt8} (g : l = [] ∨ ∃ b off, a = some ⟨b, off, none⟩ ∧ b < N ∧ ∀ i, i < l.length → w.cell? ⟨b, off + i, none⟩ = some (encB (l[i]?.getD 0))) (h : 0 < l.length) :
    ∃ b off, a = some ⟨b, off, none⟩ ∧ b < N ∧ ∀ i, i < l.length → w.cell? ⟨b, off + i, none⟩ = some (.int .u8 ((byteAt l i).toNat : Int)) := by
  rcases g with rfl | ⟨b, off, h1, h2, h3⟩
  · simp at h
  · exact ⟨b, off, h1, h2, h3⟩

set_option maxRecDepth 100000 in
set_option maxHeartbeats 2000000 in
theorem refInt_any (N : Nat) (v : Value) (l : List UInt8) (i : Int) (w : World) (hv : Sl N w v l) (hl : l.length ≤ 140737488355328) :
    Calls Try.prog 104 #[v, .int .i64 i] w fun e w' => e = .returned (tup3 (intAt l i)) ∧ w' = w := by
  obtain ⟨a0, cap, rfl, hc, hm, g⟩ := hv
  unfold maxLen at hm
  by_cases h0 : i < 0
  · rw [intAt_off l i (.inl h0)]; unfold tup3
    go_enter Try.func104, Try.ntmps104
    go_wp2
    go_ret3
    exact ⟨rfl, rfl⟩
  · by_cases h1 : (l.length : Int) ≤ i
    · rw [intAt_off l i (.inr h1)]; unfold tup3
      have h0' : decide (i < 0) = false := by simpa using h0
      go_enter Try.func104, Try.ntmps104
      go_wp2
      go_ret3
      exact ⟨rfl, rfl⟩
    · obtain ⟨a, rfl⟩ := Int.eq_ofNat_of_zero_le (Int.not_lt.1 h0)
      have hal : a < l.length := by omega
      obtain ⟨b, off, rfl, -, hcell⟩ := Sl.cellAt g (by omega)
      have HC : Hid (∀ i, i < l.length → w.cell? ⟨b, off + i, none⟩ = some (.int .u8 ((byteAt l i).toNat : Int))) := hcell
      clear g h1 h0 hcell
      have h0' : decide ((a : Int) < 0) = false := by simp
      have h1' : decide ((l.length : Int) ≤ (a : Int)) = false := by simp; omega
      go_enter Try.func104, Try.ntmps104
      go_wp2
      go_loop [7] (fun k => ∃ q : Nat, k = .int .i64 (q : Int) ∧ q ≤ 9 ∧ a + q ≤ l.length ∧ ∀ j, j < q → 128 ≤ (byteAt l (a + j)).toNat) (fun k => 9 - (intOf k).toNat)
      case atStart => exact ⟨0, rfl, by omega, by omega, fun j hj => by omega⟩
      case round =>
        obtain ⟨k, rfl, hk9, hkl, hj⟩ := hrel
        have HJ : Hid (∀ j, j < k → 128 ≤ (byteAt l (a + j)).toNat) := hj
        clear hj
        by_cases hk : k < 9
        · by_cases hlt : a + k < l.length
          · have hcl := HC.out (a + k) hlt
            generalize hx : byteAt l (a + k) = x at hcl
            have HX : Hid (byteAt l (a + k) = x) := hx
            clear hx
            by_cases hx8 : 128 ≤ (x.toNat : Int)
            · go_wp2
              go_round
              case rel =>
                refine ⟨k + 1, by go_num, by omega, by omega, fun j hj => ?_⟩
                by_cases e : j = k
                · subst e; rw [HX.out]; omega
                · exact HJ.out j (by omega)
              case measure => simp [intOf]; omega
            · have hk9' : ((k : Int) == 9) = false := by rw [beq_eq_false_iff_ne]; omega
              by_cases hzz : 0 < k ∧ x.toNat = 0
              · obtain ⟨hk0, hx0⟩ := hzz
                have HV : Hid (intAt l a = (0, 0, 4)) := verdict_zero l a k hk hlt HJ.out (by rw [HX.out]; exact hx0) hk0
                have hx0' : ((x.toNat : Int) == 0) = true := by simp [hx0]
                clear hx0
                go_wp2
                go_ret3
                exact ⟨by rw [HV.out]; rfl, rfl⟩
              · have HV : Hid (intAt l a = if 4611686018427387904 < val ((l.drop a).take (k + 1)) then (0, 0, 1) else (val ((l.drop a).take (k + 1)), k + 1, 0)) :=
                  verdict_num l a k hk hlt HJ.out (by rw [HX.out]; omega) (by rw [HX.out]; intro h; omega)
                have hge' : decide ((l.length : Int) ≤ (a : Int) + (k : Int)) = false := by simp; omega
                have hsp : (0 < k ∧ ((x.toNat : Int) == 0) = false) ∨ decide (0 < k) = false := by
                  by_cases hk0 : 0 < k
                  · exact .inl ⟨hk0, by rw [beq_eq_false_iff_ne]; omega⟩
                  · exact .inr (by simp; omega)
                clear hzz
                generalize hp : (l.drop a).take (k + 1) = p at HV
                have hplen : p.length = k + 1 := by rw [← hp]; simp; omega
                have HPB : Hid (∀ j, j ≤ k → byteAt p j = byteAt l (a + j)) := by
                  intro j hj; rw [← hp, byteAt_take _ _ _ (by omega), byteAt_drop]
                have HPL : Hid (p.length = k + 1) := hplen
                clear hp hplen
                rcases hsp with ⟨hk0, hx0'⟩ | hk0'
                all_goals
                  go_wp2
                  go_loop [8, 9] (fun n i => ∃ c : Nat, c ≤ k + 1 ∧ i = .int .i64 ((c : Int) - 1) ∧ n = .int .i64 (val (p.drop c) : Int)) (fun _ i => (intOf i + 1).toNat)
                  case atStart => exact ⟨k + 1, by omega, by go_num, by rw [List.drop_eq_nil_of_le (by have := HPL.out; omega)]; rfl⟩
                  case round =>
                    obtain ⟨c, hck, hci, rfl⟩ := hrel
                    cases c with
                    | zero =>
                      subst hci
                      have hvb : val (p.drop 0) < 9223372036854775808 := by
                        have h1 := val_lt (p.drop 0)
                        have h2 : (p.drop 0).length ≤ 9 := by have := HPL.out; simp; omega
                        have h3 : 128 ^ (p.drop 0).length ≤ 128 ^ 9 := Nat.pow_le_pow_right (by decide) h2
                        have h4 : (128 : Nat) ^ 9 = 9223372036854775808 := by decide
                        omega
                      generalize hval : val (p.drop 0) = vv at hvb
                      have HVV : Hid (val (p.drop 0) = vv) := hval
                      clear hval
                      by_cases hbig : 4611686018427387904 < vv
                      · go_wp2
                        go_ret3
                        have hvv := HVV.out
                        simp only [List.drop_zero] at hvv
                        exact ⟨by rw [HV.out, hvv, if_pos hbig]; rfl, rfl⟩
                      · go_wp2
                        go_ret3
                        have hvv := HVV.out
                        simp only [List.drop_zero] at hvv
                        refine ⟨?_, rfl⟩
                        rw [HV.out, hvv, if_neg hbig]
                        show Ending.returned (.tuple #[.int .i64 (vv : Int), .int .i64 ((k : Int) + 1), .int .i64 0]) = _
                        simp [tup3]
                    | succ c =>
                      rw [show (((c + 1 : Nat) : Int) - 1) = (c : Int) by omega] at hci
                      subst hci
                      have hvb : val (p.drop (c + 1)) < 72057594037927936 := by
                        have h1 := val_lt (p.drop (c + 1))
                        have h2 : (p.drop (c + 1)).length ≤ 8 := by have := HPL.out; simp; omega
                        have h3 : 128 ^ (p.drop (c + 1)).length ≤ 128 ^ 8 := Nat.pow_le_pow_right (by decide) h2
                        have h4 : (128 : Nat) ^ 8 = 72057594037927936 := by decide
                        omega
                      have HD : Hid (val (p.drop c) = (byteAt l (a + c)).toNat % 128 + 128 * val (p.drop (c + 1))) := by
                        have := val_dropB p c (by have := HPL.out; omega)
                        rw [HPB.out c (by omega)] at this
                        exact this
                      have hcl2 := HC.out (a + c) (by omega)
                      generalize val (p.drop (c + 1)) = vv at hvb HD
                      generalize byteAt l (a + c) = y at hcl2 HD
                      have hy := y.toNat_lt
                      go_wp2
                      go_round
                      case rel => exact ⟨c, by omega, by go_num, by rw [HD.out]; go_num⟩
                      case measure => simp [intOf]
          · have HV : Hid (intAt l a = (0, 0, 2)) := verdict_short l a k hk hal (by omega) HJ.out
            have hk9' : ((k : Int) == 9) = false := by rw [beq_eq_false_iff_ne]; omega
            go_wp2
            go_ret3
            exact ⟨by rw [HV.out]; rfl, rfl⟩
        · obtain rfl : k = 9 := by omega
          have HV : Hid (intAt l a = (0, 0, 4)) := verdict_nine l a hkl HJ.out
          go_wp2
          go_ret3
          exact ⟨by rw [HV.out]; rfl, rfl⟩
end Go.Proofs.Ytfnnbfgfmbiabab
