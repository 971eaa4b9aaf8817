/-
  The index of a name: the document's. The name of a snapshot: the document's.
-/
import Derived.Test.YtadajbdmlmickaaGreatDoorIdx
import Derived.Sort.Walk0
import Derived.Test.YtadajbdmlmickaaGreatDoorNam
namespace Go.Proofs.YtadajbdmlmickaaGreatDoor
open Go.RowKit Go.Shelf
set_option linter.unusedVariables false

theorem piece5 (l : List UInt8) : (({ data := l.toArray } : ByteArray).extract 0 5).toList = l.take 5 := by
  rw [Lib.toList_data]
  simp
theorem valL_app (a : Nat) (l m : List UInt8) : valL a (l ++ m) = valL (valL a l) m := by simp [valL]
theorem valL_front (t : List UInt8) (k : Nat) (hk : k < t.length) (h : 461168601842738790 < valL 0 (t.take k)) : 4611686018427387904 < valL 0 t := by
  have e : t = t.take k ++ t[k] :: t.drop (k + 1) := by rw [← List.drop_eq_getElem_cons hk, List.take_append_drop]
  have e2 : valL 0 t = valL (valL 0 (t.take k) * 10 + (t[k].toNat - 48)) (t.drop (k + 1)) := by
    conv => lhs; rw [e, valL_app]
    rfl
  have := valL_ge (t.drop (k + 1)) (valL 0 (t.take k) * 10 + (t[k].toNat - 48))
  omega
set_option maxRecDepth 100000 in
set_option maxHeartbeats 400000 in
theorem refIndex_any (l : List UInt8) (hm : l.length ≤ 4000) (w : World) : Calls Tryz.prog 22 #[.string ⟨l.toArray⟩] w fun e w' => e = .returned (.int .i64 (idxL l : Int)) ∧ w' = w := by
  by_cases h24 : l.length = 24
  · by_cases hp : l.take 5 = [115, 110, 97, 112, 45]
    · obtain ⟨t, hte⟩ : ∃ t, l.drop 5 = t := ⟨_, rfl⟩
      have h19 : t.length = 19 := by rw [← hte, List.length_drop]; omega
      have HI : Hid (idxL l = if t.all isDg = true ∧ valL 0 t ≤ 4611686018427387904 then valL 0 t else 0) := by
        show idxL l = _
        rw [idxL, hte]
        by_cases hx : t.all isDg = true ∧ valL 0 t ≤ 4611686018427387904
        · rw [if_pos ⟨h24, hp, hx⟩, if_pos hx]
        · rw [if_neg (fun h => hx h.2.2), if_neg hx]
      have HT : Hid (t.length = 19) := h19
      have HG : Hid (∀ k : Nat, (h : k < 19) → l[5 + k]'(by omega) = t[k]'(by omega)) := fun k h => by
        subst hte
        simp
      have dn : (!(({ data := l.toArray } : ByteArray).extract 0 5).toList == [115, 110, 97, 112, 45]) = false := by rw [piece5, hp]; rfl
      have d0 : ((l.length : Int) != 24) = false := by simp; omega
      obtain ⟨R, hR⟩ : ∃ R, idxL l = R := ⟨_, rfl⟩
      rw [hR] at HI ⊢
      clear hte hp hR
      go_enter Tryz.func22, Tryz.ntmps22
      go_wp2
      go_loopw [3, 4] (fun nv iv wr => ∃ k : Nat, nv = .int .i64 ((valL 0 (t.take k) : Nat) : Int) ∧ iv = .int .i64 ((5 + k : Nat) : Int) ∧ k ≤ 19 ∧ (t.take k).all isDg = true ∧ valL 0 (t.take k) ≤ 4611686018427387909 ∧ wr = w) (fun nv iv _ => 24 - (intOf iv).toNat)
      case atStart => exact ⟨0, rfl, rfl, Nat.zero_le _, rfl, by simp [valL], rfl⟩
      case round =>
        obtain ⟨k, rfl, rfl, hk, hall, hle, rfl⟩ := hrel
        have HA : Hid ((t.take k).all isDg = true) := hall
        obtain ⟨v, hv⟩ : ∃ v, valL 0 (t.take k) = v := ⟨_, rfl⟩
        rw [hv] at hle ⊢
        have HV : Hid (valL 0 (t.take k) = v) := hv
        have HLE : Hid (v ≤ 4611686018427387909) := hle
        clear hall hle hv
        by_cases hlt : k < 19
        · have hi : 5 + k < l.length := by omega
          have HX : Hid (t.take (k + 1) = t.take k ++ [l[5 + k]]) := by
            show t.take (k + 1) = t.take k ++ [l[5 + k]]
            have := HT.out
            rw [HG.out k hlt]
            exact List.take_succ_eq_append_getElem (by omega)
          have HB : Hid (({ data := l.toArray } : ByteArray)[5 + k].toNat = l[5 + k].toNat) := rfl
          have HC : Hid (¬ isDg l[5 + k] = true → R = 0) := fun h => by
            rw [HI.out, if_neg]
            intro hx
            have h2 := hx.1
            have := HT.out
            rw [List.all_eq_true] at h2
            exact h (by rw [HG.out k hlt]; exact h2 _ (List.getElem_mem _))
          have HD : Hid (461168601842738790 < v → R = 0) := fun h => by
            rw [HI.out, if_neg]
            intro hx
            have := HT.out
            have := valL_front t k (by omega) (by rw [HV.out]; exact h)
            omega
          go_wp2
          all_goals have hb := HB.out
          all_goals have hdg : isDg l[5 + k] = true ↔ 48 ≤ l[5 + k].toNat ∧ l[5 + k].toNat ≤ 57 := (by simp [isDg])
          all_goals first
            | (go_ret; refine ⟨?_, rfl⟩; rw [HC.out (by rw [hdg]; omega)]; rfl)
            | (go_ret; refine ⟨?_, rfl⟩; rw [HD.out (by omega)]; rfl)
            | (have hle := HLE.out
               have hval : valL 0 (t.take (k + 1)) = v * 10 + (l[5 + k].toNat - 48) := (by rw [HX.out, valL_app, HV.out]; rfl)
               refine ⟨⟨k + 1, ?_, ?_, by omega, ?_, ?_, trivial⟩, by simp [intOf]; omega⟩
               · rw [hval]; congr 1; omega
               · congr 1
               · rw [HX.out, List.all_append, HA.out]; have : isDg l[5 + k] = true := (by rw [hdg]; omega); simp [this]
               · rw [hval]; omega)
        · have ek : k = 19 := by omega
          subst ek
          have HR : Hid (R = if v ≤ 4611686018427387904 then v else 0) := by
            show R = _
            have ht : t.take 19 = t := List.take_of_length_le (by have := HT.out; omega)
            have h1 := HA.out
            have h2 := HV.out
            rw [ht] at h1 h2
            rw [HI.out, h2]
            by_cases hx : v ≤ 4611686018427387904
            · rw [if_pos ⟨h1, hx⟩, if_pos hx]
            · rw [if_neg (fun h => hx h.2), if_neg hx]
          go_wp2
          all_goals first
            | (go_ret; refine ⟨?_, rfl⟩; rw [HR.out, if_pos (by omega)]; done)
            | (go_ret; refine ⟨?_, rfl⟩; rw [HR.out, if_neg (by omega)]; rfl)
            | (go_ret; refine ⟨?_, rfl⟩; rw [HR.out, if_pos (by omega)]; rfl)
    · have hI0 : idxL l = 0 := by rw [idxL, if_neg (fun h => hp h.2.1)]
      rw [hI0]
      have dn : (!(({ data := l.toArray } : ByteArray).extract 0 5).toList == [115, 110, 97, 112, 45]) = true := by rw [piece5]; simpa using hp
      have d0 : ((l.length : Int) != 24) = false := by simp; omega
      clear hI0 hp
      go_enter Tryz.func22, Tryz.ntmps22
      go_wp2
      go_ret
      exact ⟨rfl, rfl⟩
  · have hI0 : idxL l = 0 := by rw [idxL, if_neg (fun h => h24 h.1)]
    rw [hI0]
    have d1 : ((l.length : Int) != 24) = true := by simp; omega
    have HM : Hid (l.length ≤ 4000) := hm
    clear hm hI0 h24
    go_enter Tryz.func22, Tryz.ntmps22
    go_wp2
    go_ret
    exact ⟨rfl, rfl⟩
end Go.Proofs.YtadajbdmlmickaaGreatDoor
namespace Go.Proofs.YtadajbdmlmickaaGreatDoor
open Go.RowKit Go.Shelf
set_option linter.unusedVariables false

theorem enc_dg : ∀ d : Nat, d < 10 → Utf8.encode (48 + (d : Int)) = ⟨#[UInt8.ofNat (48 + d)]⟩ := by
  intro d hd
  match d, hd with
  | 0, _ => rfl
  | 1, _ => rfl
  | 2, _ => rfl
  | 3, _ => rfl
  | 4, _ => rfl
  | 5, _ => rfl
  | 6, _ => rfl
  | 7, _ => rfl
  | 8, _ => rfl
  | 9, _ => rfl
  | d + 10, h => omega
set_option maxRecDepth 100000 in
set_option maxHeartbeats 400000 in
theorem refSnapName_any (n : Nat) (h2 : n ≤ 4611686018427387904) (w : World) : Calls Tryz.prog 23 #[.int .i64 (n : Int)] w fun e w' => e = .returned (.string ⟨(nmL n).toArray⟩) ∧ w' = w := by
  have HB : Hid (n ≤ 4611686018427387904) := h2
  have HQ : Hid (∀ k : Nat, ((n / 10 ^ k : Nat) : Int) ≤ 4611686018427387904) := fun k => by have := Nat.div_le_self n (10 ^ k); omega
  clear h2
  go_enter Tryz.func23, Tryz.ntmps23
  go_wp2
  go_loopw [0, 3, 4] (fun qv sv iv wr => ∃ k : Nat, qv = .int .i64 ((n / 10 ^ k : Nat) : Int) ∧ sv = .string ⟨(low k n).toArray⟩ ∧ iv = .int .i64 (k : Int) ∧ k ≤ 19 ∧ wr = w) (fun qv sv iv _ => 19 - (intOf iv).toNat)
  case atStart => exact ⟨0, by simp, rfl, rfl, Nat.zero_le _, rfl⟩
  case round =>
    obtain ⟨k, rfl, rfl, rfl, hk, rfl⟩ := hrel
    have HL : Hid ((low k n).length = k) := low_len k n
    have HS : Hid (low (k + 1) n = Lib.dg n k :: low k n) := low_succ k n
    have hq := HQ.out k
    obtain ⟨q, hq'⟩ : ∃ q, n / 10 ^ k = q := ⟨_, rfl⟩
    rw [hq'] at hq ⊢
    have HQ' : Hid (n / 10 ^ k = q) := hq'
    obtain ⟨L, hL⟩ : ∃ L, low k n = L := ⟨_, rfl⟩
    rw [hL] at HL HS ⊢
    have HL' : Hid (low k n = L) := hL
    clear hq' hL
    by_cases hlt : k < 19
    · have d1 : decide ((k : Int) < 19) = true := by simp; omega
      have d2 : IntKind.i64.wrap (Int.tmod (q : Int) 10) = ((q % 10 : Nat) : Int) := by
        have e : Int.tmod (q : Int) 10 = ((q % 10 : Nat) : Int) := rfl
        rw [e, IntKind.wrap_i64]
        have := Nat.mod_lt q (show 0 < 10 by decide)
        omega
      go_wp2
      all_goals have HD3 : Utf8.encode (48 + (q : Int) % 10) = ⟨#[Lib.dg n k]⟩ := (by
        have := enc_dg (q % 10) (Nat.mod_lt _ (by decide))
        rw [Lib.dg, HQ'.out]
        exact this)
      all_goals first
        | (refine ⟨⟨k + 1, ?_, ?_, by go_num, by omega, trivial⟩, by simp [intOf]; omega⟩
           · rw [Nat.pow_succ, ← Nat.div_div_eq_div_mul, HQ'.out]; rfl
           · rw [HS.out, HD3]; rfl)
        | (exfalso
           have hl := HL.out
           have e : (ByteArray.mk #[Lib.dg n k]).size = 1 := rfl
           rename_i hx
           rw [HD3, e] at hx
           omega)
    · have ek : k = 19 := by omega
      subst ek
      have d1 : decide (((19 : Nat) : Int) < 19) = false := by decide
      have HN : Hid (nmL n = [115, 110, 97, 112, 45] ++ L) := by show nmL n = _; rw [nmL, HL'.out]
      go_wp2
      all_goals first
        | (exfalso; have := HL.out; omega)
        | skip
      go_ret
      refine ⟨?_, rfl⟩
      rw [HN.out]
      rfl
end Go.Proofs.YtadajbdmlmickaaGreatDoor
