/-
  small: few operations, and small.
-/
import Derived.Test.YtnahghldlkjleaaGreatDoorRwo
import Derived.Test.YtnahghldlkjleaaGreatDoorPc
namespace Go.Proofs.YtnahghldlkjleaaGreatDoor
open Go.RowKit
set_option linter.unusedVariables false

def wm (e : Ent) : Nat := min e.d.length 20000 + 1
def wmE (es : List Ent) : Nat := (es.map wm).sum
def wmO (os : List Wop) : Nat := (os.map fun o => wmE (o.B.es.take 200)).sum
/-- What operations weigh. -/
def wtO (os : List Wop) : Nat := (os.map fun o => wtE o.B.es).sum
theorem wm_le (e : Ent) : wm e ≤ 20001 := by unfold wm; omega
theorem wmE_le : ∀ es : List Ent, wmE es ≤ es.length * 20001
  | [] => by simp [wmE]
  | e :: q => by
    have h1 := wm_le e
    have h2 := wmE_le q
    have h3 : wmE (e :: q) = wm e + wmE q := by simp [wmE]
    rw [h3, List.length_cons, Nat.add_mul, Nat.one_mul]; omega
theorem wmO_le : ∀ os : List Wop, wmO os ≤ os.length * 4000200
  | [] => by simp [wmO]
  | o :: q => by
    have h1 := wmE_le (o.B.es.take 200)
    have h2 := wmO_le q
    have h3 : wmO (o :: q) = wmE (o.B.es.take 200) + wmO q := by simp [wmO]
    have h4 : (o.B.es.take 200).length ≤ 200 := by simp; omega
    have h5 : (o.B.es.take 200).length * 20001 ≤ 200 * 20001 := Nat.mul_le_mul_right _ h4
    rw [h3, List.length_cons, Nat.add_mul, Nat.one_mul]; omega
theorem wmE_step {es : List Ent} {k : Nat} (h : k < es.length) : wmE (es.take (k + 1)) = wmE (es.take k) + wm (es.getD k nilEnt) := by
  rw [take_succ' h]; simp [wmE]
theorem take_wop {os : List Wop} {k : Nat} (h : k < os.length) : os.take (k + 1) = os.take k ++ [os.getD k nilWop] := by
  rw [List.take_succ_eq_append_getElem h, List.getD_eq_getElem?_getD, List.getElem?_eq_getElem h]; rfl
theorem wmO_step {os : List Wop} {k : Nat} (h : k < os.length) : wmO (os.take (k + 1)) = wmO (os.take k) + wmE ((os.getD k nilWop).B.es.take 200) := by
  rw [take_wop h]; simp [wmO]
theorem wtO_step {os : List Wop} {k : Nat} (h : k < os.length) : wtO (os.take (k + 1)) = wtO (os.take k) + wtE (os.getD k nilWop).B.es := by
  rw [take_wop h]; simp [wtO]
theorem wtE_wm : ∀ (es : List Ent), wmE es ≤ 20000 → wtE es = wmE es
  | [], _ => rfl
  | e :: q, h => by
    have h3 : wmE (e :: q) = wm e + wmE q := by simp [wmE]
    have h4 : wtE (e :: q) = e.d.length + 1 + wtE q := by simp [wtE]
    rw [h3] at h
    rw [h3, h4, wtE_wm q (by omega)]
    unfold wm at *
    omega
theorem wtO_wm : ∀ (os : List Wop), (∀ o ∈ os, o.B.es.length ≤ 200) → wmO os ≤ 20000 → wtO os ≤ 20000
  | [], _, _ => by simp [wtO]
  | o :: q, hs, h => by
    have e1 : ∀ (os : List Wop), (∀ o ∈ os, o.B.es.length ≤ 200) → wmO os ≤ 20000 → wtO os = wmO os := by
      intro os
      induction os with
      | nil => intro _ _; rfl
      | cons o q ih =>
        intro hs h
        have h3 : wmO (o :: q) = wmE (o.B.es.take 200) + wmO q := by simp [wmO]
        have h4 : wtO (o :: q) = wtE o.B.es + wtO q := by simp [wtO]
        rw [List.take_of_length_le (hs o (List.mem_cons_self ..))] at h3
        rw [h3] at h
        rw [h3, h4, ih (fun x hx => hs x (List.mem_cons_of_mem _ hx)) (by omega), wtE_wm _ (by omega)]
    rw [e1 _ hs h]; exact h
/-- Few operations, and small. -/
def SmallOk (os : List Wop) : Prop := os.length ≤ 200 ∧ (∀ o ∈ os, o.B.es.length ≤ 200) ∧ wtO os ≤ 20000

set_option maxRecDepth 100000 in
set_option maxHeartbeats 8000000 in
theorem small_any (a : Option Addr) (c : Nat) (l : List Wop) (N : Nat) (w : World) (h : WopsAt N w a l) (hN : N ≤ w.heap.size) (hz : l.length ≤ 9223372036854775807) :
    Calls Tryz.prog 10 #[.slice a l.length c] w fun e w' => ∃ b : Bool, e = .returned (.bool b) ∧ (b = true → SmallOk l) ∧ Below w.heap.size w w' := by
  have H1 : Hid (WopsAt N w a l) := h
  clear h
  go_enter Tryz.func10, Tryz.ntmps10
  go_wp2_with fail
  go_loopw [3, 4] (fun sv iv wr => ∃ i : Nat, iv = .int .i64 (i : Int) ∧ sv = .int .i64 (wmO (l.take i) : Int) ∧ i ≤ l.length ∧ i ≤ 200 ∧ Hid (∀ o ∈ l.take i, o.B.es.length ≤ 200) ∧ Hid (Below w.heap.size w wr)) (fun _ iv _ => l.length - (intOf iv).toNat)
  case atStart => exact ⟨0, rfl, rfl, Nat.zero_le _, by omega, by show ∀ o ∈ [], _; simp, Below.refl _ _⟩
  case round =>
    obtain ⟨i, rfl, rfl, hi, hi2, HF, HB⟩ := hrel
    have hT0 := wmO_le (l.take i)
    have hTl : (l.take i).length = i := by simp; omega
    rw [hTl] at hT0
    by_cases hlt : i < l.length
    · have k1 : (i : Int) < (l.length : Int) := by omega
      have k0 : (0 : Int) ≤ (i : Int) := by omega
      by_cases h4 : i < 200
      · have hi4 : (i : Int) < 200 := by omega
        obtain ⟨b, off, rfl, hb, ho⟩ := H1.out.at hlt
        obtain ⟨⟨-, -, -, -, -, -, -, -, c8⟩, hes, hcl, hcm⟩ := ho.below hb (HB.out.mono hN)
        have HST : Hid (wmO (l.take (i + 1)) = wmO (l.take i) + wmE ((l.getD i nilWop).B.es.take 200)) := wmO_step hlt
        have HFN : Hid ((l.getD i nilWop).B.es.length ≤ 200 → ∀ o ∈ l.take (i + 1), o.B.es.length ≤ 200) := fun h9 o ho => by
          rw [take_wop hlt] at ho
          rcases List.mem_append.1 ho with ho | ho
          · exact HF.out o ho
          · obtain rfl := List.mem_singleton.1 ho; exact h9
        obtain ⟨es, hes9⟩ : ∃ es, (l.getD i nilWop).B.es = es := ⟨_, rfl⟩
        obtain ⟨ea, hea9⟩ : ∃ ea, (l.getD i nilWop).B.a = ea := ⟨_, rfl⟩
        obtain ⟨ec, hec9⟩ : ∃ ec, (l.getD i nilWop).B.cp = ec := ⟨_, rfl⟩
        rw [hes9] at HST HFN hes hcl c8
        rw [hea9] at hes c8
        rw [hec9] at hcl hcm c8
        clear hes9 hea9 hec9 ho hb H1
        have HES : Hid (EntsAt N wr ea es) := hes
        obtain ⟨T, hT⟩ : ∃ T, wmO (l.take i) = T := ⟨_, rfl⟩
        rw [hT] at HST hT0 ⊢
        clear hT hes
        unfold maxLen at hcm
        have hel : es.length ≤ 9223372036854775807 := by omega
        go_wp2_with fail
        go_loopw [3, 5] (fun sv kv wr2 => ∃ k : Nat, kv = .int .i64 (k : Int) ∧ sv = .int .i64 ((T + wmE (es.take k) : Nat) : Int) ∧ k ≤ es.length ∧ k ≤ 200 ∧ wr2 = wr) (fun _ kv _ => es.length - (intOf kv).toNat)
        case atStart => exact ⟨0, rfl, by simp [wmE], Nat.zero_le _, by omega, rfl⟩
        case round =>
          obtain ⟨k, rfl, rfl, hk, hk2, rfl⟩ := hrel
          have hE0 := wmE_le (es.take k)
          have hEl : (es.take k).length = k := by simp; omega
          rw [hEl] at hE0
          by_cases hkl : k < es.length
          · have q1 : (k : Int) < (es.length : Int) := by omega
            have q0 : (0 : Int) ≤ (k : Int) := by omega
            by_cases hk4 : k < 200
            · have hq4 : (k : Int) < 200 := by omega
              obtain ⟨be, oe, rfl, hbe, -, -, -, e3, hsl⟩ := HES.out.at hkl
              have HSE : Hid (wmE (es.take (k + 1)) = wmE (es.take k) + wm (es.getD k nilEnt)) := wmE_step hkl
              have q2 : (es.getD k nilEnt).d.length ≤ 9223372036854775807 := by obtain ⟨_, _, e, h5, h6, _⟩ := hsl; unfold maxLen at h6; unfold Ent.x at e; injection e with e1 e2 e3; omega
              unfold Ent.x at e3
              unfold wm at HSE
              generalize (es.getD k nilEnt).d = dd at *
              obtain ⟨m1, hm1⟩ : ∃ m, min dd.length 20000 = m := ⟨_, rfl⟩
              rw [hm1] at HSE
              have x1 : min (dd.length : Int) 20000 = (m1 : Int) := by omega
              have y1 : m1 ≤ 20000 := by omega
              obtain ⟨E, hE⟩ : ∃ E, wmE (es.take k) = E := ⟨_, rfl⟩
              rw [hE] at HSE hE0 ⊢
              clear hsl hm1 hE
              go_wp2_with fail
              exact ⟨⟨k + 1, by go_num, by rw [HSE.out]; go_num, by omega, by omega, trivial⟩, by simp [intOf]; omega⟩
            · have hq4 : ¬ (k : Int) < 200 := by omega
              have hk20 : k = 200 := by omega
              by_cases hgt : 200 < es.length
              · have hg2 : (200 : Int) < (es.length : Int) := by omega
                go_wp2_with fail
                go_ret
                exact .inl ⟨rfl, HB.out⟩
              · exact absurd hkl (by omega)
          · have q1 : ¬ (k : Int) < (es.length : Int) := by omega
            have hg2 : ¬ (200 : Int) < (es.length : Int) := by omega
            have HTK : Hid (wmE (es.take k) = wmE (es.take 200)) := by
              show _ = _
              rw [List.take_of_length_le (show es.length ≤ k by omega), List.take_of_length_le (show es.length ≤ 200 by omega)]
            go_wp2_with fail
            exact ⟨⟨i + 1, by go_num, by rw [HST.out, HTK.out], by omega, by omega, HFN.out (by omega), HB.out⟩, by simp [intOf]; omega⟩
      · have hi4 : ¬ (i : Int) < 200 := by omega
        by_cases h5 : l.length ≤ 200
        · exact absurd hlt (by omega)
        · have h6 : ¬ (l.length : Int) ≤ 200 := by omega
          go_wp2_with fail
          go_ret
          exact .inl ⟨rfl, HB.out⟩
    · have k1 : ¬ (i : Int) < (l.length : Int) := by omega
      have h5 : (l.length : Int) ≤ 200 := by omega
      have hil : i = l.length := by omega
      have hta : l.take i = l := List.take_of_length_le (by omega)
      have hf := HF.out
      rw [hta] at hf hT0 ⊢
      clear HF
      by_cases h7 : wmO l ≤ 20000
      · have h7' : (wmO l : Int) ≤ 20000 := by omega
        have HSM : Hid (SmallOk l) := ⟨by omega, hf, wtO_wm l hf h7⟩
        clear h7 hta hf
        go_wp2_with fail
        go_ret
        exact .inr ⟨rfl, HSM.out, HB.out⟩
      · have h7' : ¬ (wmO l : Int) ≤ 20000 := by omega
        clear h7 hta hf
        go_wp2_with fail
        go_ret
        exact .inl ⟨rfl, HB.out⟩
end Go.Proofs.YtnahghldlkjleaaGreatDoor
