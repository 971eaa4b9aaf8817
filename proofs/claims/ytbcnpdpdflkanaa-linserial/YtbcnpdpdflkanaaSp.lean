/-
  Operations one behind the other, plainly.
-/
import Derived.Test.YtbcnpdpdflkanaaFw
namespace Go.Proofs.Ytbcnpdpdflkanaa
open Go.RowKit

def runS : Bool → Bs → List Lo → Bool × Bs
  | th, v, [] => (th, v)
  | th, v, y :: r => runS (step th v y).1 (step th v y).2.1 r
def rightAll : Bool → Bs → List Lo → Bool
  | _, _, [] => true
  | th, v, y :: r => decide (y.rp = (step th v y).2.2) && rightAll (step th v y).1 (step th v y).2.1 r
theorem runS_snoc : ∀ (l : List Lo) (th : Bool) (v : Bs) (y : Lo), runS th v (l ++ [y]) = ((step (runS th v l).1 (runS th v l).2 y).1, (step (runS th v l).1 (runS th v l).2 y).2.1)
  | [], _, _, _ => rfl
  | _ :: l, _, _, y => runS_snoc l _ _ y
theorem rightAll_snoc : ∀ (l : List Lo) (th : Bool) (v : Bs) (y : Lo), rightAll th v (l ++ [y]) = (rightAll th v l && decide (y.rp = (step (runS th v l).1 (runS th v l).2 y).2.2))
  | [], _, _, _ => by
    show (_ && true) = (true && _)
    rw [Bool.and_true, Bool.true_and]
    rfl
  | x :: l, th, v, y => by
    show (_ && rightAll _ _ (l ++ [y])) = _
    rw [rightAll_snoc l, ← Bool.and_assoc]
    rfl

structure SerAt (i : Nat) (y : Lo) : Prop where
  key : y.key = [107]
  call : y.call = 2 * (i : Int) + 1
  back : y.back = 2 * (i : Int) + 2
  kind : 1 ≤ y.kind ∧ y.kind ≤ 4
  code : y.rp.code = 1 ∨ y.rp.code = 2 ∨ y.rp.code = 3
def Ser (l : List Lo) : Prop := ∀ i, i < l.length → SerAt i (oat l i)
theorem oat_snoc_lt {l : List Lo} {y : Lo} {i : Nat} (h : i < l.length) : oat (l ++ [y]) i = oat l i := by unfold oat; rw [List.getElem?_append_left h]
theorem oat_snoc_eq (l : List Lo) (y : Lo) : oat (l ++ [y]) l.length = y := by unfold oat; simp
theorem Ser.snoc {l : List Lo} {y : Lo} (h : Ser l) (hy : SerAt l.length y) : Ser (l ++ [y]) := by
  intro i hi
  by_cases e : i < l.length
  · rw [oat_snoc_lt e]; exact h i e
  · have : i = l.length := by simp at hi; omega
    subst this
    rw [oat_snoc_eq]; exact hy

theorem SerAt.sound {i : Nat} {y : Lo} (h : SerAt i y) : sound y = 0 := by
  unfold Go.Proofs.Ytbcnpdpdflkanaa.sound
  have h1 := h.kind
  have h2 := h.call
  have h3 := h.back
  rw [if_neg (by omega), if_neg (by omega), if_neg (by omega), if_neg (by omega), if_neg (by rcases h.code with e | e | e <;> omega)]
theorem SerAt.counts {i : Nat} {y : Lo} (h : SerAt i y) : y.counts = true := by
  unfold Lo.counts
  have h3 := h.back
  rw [if_neg (by omega)]
  simpa using h.code
theorem Ser.valid {l : List Lo} (h : Ser l) (hl : l.length ≤ 12) : valid l = 0 :=
  valid_ok (by omega) (fun i hi => (h i hi).sound) (fun k => by have := cntK_le l l.length k; omega)
theorem Ser.nums {l : List Lo} (h : Ser l) : nums l [107] = List.range l.length := by
  unfold Go.Proofs.Ytbcnpdpdflkanaa.nums
  rw [List.filter_eq_self]
  intro i hi
  have := h i (List.mem_range.1 hi)
  unfold mine
  rw [this.key, this.counts]; rfl
theorem range_oat (l : List Lo) : (List.range l.length).map (oat l) = l := by
  apply List.ext_getElem (by simp)
  intro i h1 h2
  simp [oat, List.getElem?_eq_getElem h2]
theorem Ser.ops {l : List Lo} (h : Ser l) : opsOf l [107] = l := by
  unfold opsOf
  rw [h.nums, range_oat]

theorem ser_path {l : List Lo} (h : Ser l) : ∀ (m i : Nat) (D : Nat → Bool) (th : Bool) (v : Bs), i + m = l.length → (∀ k, k < l.length → D k = decide (k < i)) → ((∃ p, Path l D th v p) ↔ rightAll th v (l.drop i) = true)
  | 0, i, D, th, v, hi, hD => by
    rw [List.drop_eq_nil_of_le (by omega)]
    refine ⟨fun _ => rfl, fun _ => ⟨[], ?_⟩⟩
    show fineB l D = true
    unfold fineB
    rw [List.all_eq_true]
    intro k hk
    have hk' := List.mem_range.1 hk
    rw [hD k hk']
    simp; omega
  | m + 1, i, D, th, v, hi, hD => by
    have hil : i < l.length := by omega
    have hdrop : l.drop i = oat l i :: l.drop (i + 1) := by
      rw [List.drop_eq_getElem_cons hil]
      congr 1
      unfold oat; rw [List.getElem?_eq_getElem hil]; rfl
    have hDi : D i = false := by rw [hD i hil]; simp
    have hU : ∀ k, k < l.length → upd D i k = decide (k < i + 1) := fun k hk => by
      unfold upd
      rw [hD k hk]
      by_cases e : k = i
      · subst e; simp
      · by_cases e2 : k < i
        · simp [e2, show k < i + 1 by omega]
        · simp [e2, e, show ¬ k < i + 1 by omega]
    have ih := ser_path h m (i + 1) (upd D i) (step th v (oat l i)).1 (step th v (oat l i)).2.1 (by omega) hU
    have hsi := h i hil
    have hok : okB th v (oat l i) = decide ((oat l i).rp = (step th v (oat l i)).2.2) := by
      unfold okB
      have := hsi.back
      rw [show decide ((oat l i).back = 0) = false from by simp; omega]
      simp [eq_comm]
    have hmay : mayB l D i = true := by
      unfold mayB
      rw [hDi]
      simp only [Bool.not_false, Bool.true_and, List.all_eq_true]
      intro k hk
      have hk' := List.mem_range.1 hk
      rw [hD k hk']
      have a1 := (h k hk').back
      have a2 := hsi.call
      by_cases e : k < i
      · simp [e]
      · simp only [e, decide_false, Bool.or_false, Bool.or_eq_true, decide_eq_true_eq]
        right; omega
    rw [hdrop]
    show _ ↔ (_ && _) = true
    rw [Bool.and_eq_true, ← ih]
    constructor
    · rintro ⟨p, hp⟩
      cases p with
      | nil =>
        exfalso
        have hf : fineB l D = true := hp
        unfold fineB at hf
        have := List.all_eq_true.1 hf i (List.mem_range.2 hil)
        rw [hDi] at this
        have := hsi.back
        simp at *
        omega
      | cons j q =>
        obtain ⟨hj, hn, hq⟩ := hp
        have hji : j = i := by
          unfold nextB mayB at hn
          simp only [Bool.and_eq_true, Bool.not_eq_true', List.all_eq_true, List.mem_range, Bool.or_eq_true, decide_eq_true_eq] at hn
          have hDj := hn.1.1
          rw [hD j hj] at hDj
          simp at hDj
          rcases Nat.lt_or_ge i j with h1 | h1
          · have := hn.1.2 i hil
            rw [hDi] at this
            have a1 := hsi.back
            have a2 := (h j hj).call
            rcases this with (e | e) | e
            · omega
            · omega
            · cases e
          · omega
        subst hji
        unfold nextB at hn
        rw [hok, Bool.and_eq_true] at hn
        exact ⟨hn.2, q, hq⟩
    · rintro ⟨h1, q, hq⟩
      refine ⟨i :: q, hil, ?_, hq⟩
      unfold nextB
      rw [hmay, hok, h1]; rfl

theorem isL_some {ops : List Lo} {D : Nat → Bool} {th : Bool} {v : Bs} {r : Option (List Nat)} (h : IsL ops D th v r) : r.isSome = true ↔ ∃ p, Path ops D th v p := by
  cases r with
  | none => exact ⟨fun e => (by cases e), fun ⟨p, hp⟩ => absurd hp (h p)⟩
  | some l => exact ⟨fun _ => ⟨l, h.path⟩, fun _ => rfl⟩
theorem Ser.judged {l : List Lo} (h : Ser l) : judged l = rightAll false [] l := by
  have he : (explain l [107]).isSome = rightAll false [] l := by
    have h1 : (explain l [107]).isSome = (expl l).isSome := by unfold explain; rw [h.ops]; simp
    rw [h1, Bool.eq_iff_iff, isL_some (expl_isL l)]
    have := ser_path h l.length 0 (fun _ => false) false [] (by omega) (fun k _ => by simp)
    rw [List.drop_zero] at this
    exact this
  cases l with
  | nil => rfl
  | cons x r =>
    rw [Bool.eq_iff_iff, ← he]
    unfold Go.Proofs.Ytbcnpdpdflkanaa.judged
    rw [List.all_eq_true]
    constructor
    · intro hall
      have h0 := h 0 (by simp)
      have := hall x (by simp)
      have hx : oat (x :: r) 0 = x := rfl
      rw [hx] at h0
      rw [h0.counts, h0.key] at this
      simpa using this
    · intro hs y hy
      obtain ⟨i, hi, rfl⟩ := List.getElem_of_mem hy
      have h0 := h i hi
      have ho : oat (x :: r) i = (x :: r)[i] := by unfold oat; rw [List.getElem?_eq_getElem hi]; rfl
      rw [ho] at h0
      rw [h0.key, hs]; simp
theorem Ser.check {l : List Lo} (h : Ser l) (hl : l.length ≤ 12) : checkE l = rightAll false [] l := by
  unfold checkE
  rw [h.valid hl, h.judged]; simp

/-! ### what the statement makes of an operation -/
def kd (k : Int) : Int := ((k.tmod 4 + 4).tmod 4) + 1
theorem kd_in (k : Int) : 1 ≤ kd k ∧ kd k ≤ 4 := by
  unfold kd
  have h1 := Int.lt_tmod_of_pos k (b := 4) (by omega)
  have h2 : (k.tmod 4 + 4).tmod 4 = (k.tmod 4 + 4) % 4 := Int.tmod_eq_emod_of_nonneg (by omega)
  rw [h2]
  omega
def serZ (i : Nat) (x : Lo) : Lo := ⟨x.cl, x.sq, kd x.kind, [107], x.val, x.old, 2 * (i : Int) + 1, 2 * (i : Int) + 2, x.rp⟩
theorem step_rp (th : Bool) (v : Bs) (x : Lo) (r : Rp) : step th v { x with rp := r } = step th v x := rfl
theorem step_code (th : Bool) (v : Bs) (x : Lo) (h : 1 ≤ x.kind ∧ x.kind ≤ 4) : (step th v x).2.2.code = 1 ∨ (step th v x).2.2.code = 2 ∨ (step th v x).2.2.code = 3 := by
  unfold step
  split
  · split <;> simp
  split
  · simp
  split
  · cases th <;> simp
  split
  · split
    · split <;> simp
    · simp
  · omega
end Go.Proofs.Ytbcnpdpdflkanaa
