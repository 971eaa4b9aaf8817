/-
  The conditions of an order as the statement reckons them, plainly; they are those of a path.
-/
import Derived.Test.YtbcnpdpdflkanaaFw
namespace Go.Proofs.Ytbcnpdpdflkanaa
open Go.RowKit

/-- The operation of a number that may be none. -/
def zat (h : List Lo) (n : Int) : Lo := oat h n.toNat
def inR (h : List Lo) (n : Int) : Bool := decide (0 ≤ n) && decide (n < (h.length : Int))
/-- Does one that comes later have to stand ahead? -/
def late (h : List Lo) (n m : Int) : Bool := inR h m && (decide ((zat h m).back ≠ 0) && decide ((zat h m).back < (zat h n).call))
def fits (h : List Lo) (key : Bs) (S : List Nat) (n : Int) : Bool := inR h n && (!S.contains n.toNat && mine h key n.toNat)
def kp (h : List Lo) (key : Bs) : List Nat → Bool → Bs → List Int → Bool
  | S, _, _, [] => (List.range h.length).all fun i => !(mine h key i && decide ((oat h i).back ≠ 0)) || S.contains i
  | S, th, v, n :: r => fits h key S n && (r.all (fun m => !late h n m) && (okB th v (zat h n) && kp h key (n.toNat :: S) (step th v (zat h n)).1 (step th v (zat h n)).2.1 r))

/-- All that were answered are in it. -/
theorem kp_all {h : List Lo} {key : Bs} : ∀ (l : List Int) (S : List Nat) (th : Bool) (v : Bs), kp h key S th v l = true → ∀ i, i < h.length → mine h key i = true → (oat h i).back ≠ 0 → i ∈ S ∨ (i : Int) ∈ l
  | [], S, th, v, hk, i, hi, hm, hb => by
    have := List.all_eq_true.1 (show (List.range h.length).all _ = true from hk) i (List.mem_range.2 hi)
    simp [hm, hb] at this
    exact .inl this
  | n :: r, S, th, v, hk, i, hi, hm, hb => by
    unfold kp at hk
    simp only [Bool.and_eq_true] at hk
    rcases kp_all r _ _ _ hk.2.2.2 i hi hm hb with e | e
    · rcases List.mem_cons.1 e with e | e
      · have hf := hk.1
        unfold fits inR at hf
        simp only [Bool.and_eq_true, decide_eq_true_eq] at hf
        right
        have : (i : Int) = n := by omega
        rw [this]; simp
      · exact .inl e
    · exact .inr (List.mem_cons_of_mem _ e)

/-- What a path goes through is not done yet. -/
theorem path_not {ops : List Lo} : ∀ (p : List Nat) (D : Nat → Bool) (th : Bool) (v : Bs), Path ops D th v p → ∀ j ∈ p, j < ops.length ∧ D j = false
  | [], _, _, _, _, j, hj => by cases hj
  | i :: q, D, th, v, hp, j, hj => by
    rcases List.mem_cons.1 hj with e | e
    · rw [e]; exact ⟨hp.1, nextB_not hp.2.1⟩
    · have := path_not q _ _ _ hp.2.2 j e
      refine ⟨this.1, ?_⟩
      have h2 := this.2
      unfold upd at h2
      simp only [Bool.or_eq_false_iff] at h2
      exact h2.1

structure Nm (h : List Lo) (key : Bs) (ns : List Nat) : Prop where
  mem : ∀ i, i ∈ ns ↔ i < h.length ∧ mine h key i = true
  rise : ns.Pairwise (· < ·)
theorem nm_nums (h : List Lo) (key : Bs) : Nm h key (nums h key) := by
  refine ⟨fun i => ?_, ?_⟩
  · unfold nums; rw [List.mem_filter, List.mem_range]
  · unfold nums; exact List.pairwise_lt_range.filter _
theorem Nm.at_lt {h : List Lo} {key : Bs} {ns : List Nat} (H : Nm h key ns) {j : Nat} (hj : j < ns.length) : ns.getD j 0 < h.length ∧ mine h key (ns.getD j 0) = true := by
  rw [← H.mem, List.getD_eq_getElem?_getD, List.getElem?_eq_getElem hj]
  exact List.getElem_mem hj
theorem Nm.mono {h : List Lo} {key : Bs} {ns : List Nat} (H : Nm h key ns) {i j : Nat} (hij : i < j) (hj : j < ns.length) : ns.getD i 0 < ns.getD j 0 := by
  rw [List.getD_eq_getElem?_getD, List.getD_eq_getElem?_getD, List.getElem?_eq_getElem hj, List.getElem?_eq_getElem (by omega)]
  exact List.pairwise_iff_getElem.1 H.rise i j (by omega) hj hij
theorem Nm.inj {h : List Lo} {key : Bs} {ns : List Nat} (H : Nm h key ns) {i j : Nat} (hi : i < ns.length) (hj : j < ns.length) (e : ns.getD i 0 = ns.getD j 0) : i = j := by
  rcases Nat.lt_trichotomy i j with h1 | h1 | h1
  · have := H.mono h1 hj; omega
  · exact h1
  · have := H.mono h1 hi; omega
theorem Nm.find {h : List Lo} {key : Bs} {ns : List Nat} (H : Nm h key ns) {i : Nat} (hi : i < h.length) (hm : mine h key i = true) : ∃ j, j < ns.length ∧ ns.getD j 0 = i := by
  obtain ⟨j, hj, he⟩ := List.getElem_of_mem ((H.mem i).2 ⟨hi, hm⟩)
  exact ⟨j, hj, by rw [List.getD_eq_getElem?_getD, List.getElem?_eq_getElem hj]; exact he⟩

/-- The numbers of a path, as the statement has them. -/
def zs (ns : List Nat) (p : List Nat) : List Int := p.map fun j => ((ns.getD j 0 : Nat) : Int)

theorem kp_of_path {h : List Lo} {key : Bs} {ns : List Nat} (H : Nm h key ns) : ∀ (p : List Nat) (D : Nat → Bool) (S : List Nat) (th : Bool) (v : Bs), (∀ j, j < ns.length → (ns.getD j 0 ∈ S ↔ D j = true)) → Path (L h ns) D th v p → kp h key S th v (zs ns p) = true
  | [], D, S, th, v, hD, hp => by
    show (List.range h.length).all _ = true
    rw [List.all_eq_true]
    intro i hi
    have hi' := List.mem_range.1 hi
    by_cases hm : mine h key i = true
    · by_cases hb : (oat h i).back = 0
      · simp [hb]
      · obtain ⟨j, hj, he⟩ := H.find hi' hm
        have hf : fineB (L h ns) D = true := hp
        unfold fineB at hf
        have := List.all_eq_true.1 hf j (List.mem_range.2 (by rw [L_len]; exact hj))
        rw [L_at h ns hj] at this
        unfold nops at this
        rw [he] at this
        simp [hb] at this
        have hin := (hD j hj).2 this
        rw [he] at hin
        simp [hin]
    · simp [hm]
  | j :: q, D, S, th, v, hD, hp => by
    obtain ⟨hj, hn, hq⟩ := hp
    rw [L_len] at hj
    have hat := H.at_lt hj
    have hla := L_at h ns hj
    have hz : zat h ((ns.getD j 0 : Nat) : Int) = nops h ns j := rfl
    show (_ && _) = true
    rw [hz]
    rw [hla] at hq
    have hDj := nextB_not hn
    unfold nextB mayB at hn
    rw [hla] at hn
    simp only [Bool.and_eq_true, List.all_eq_true, List.mem_range, L_len, Bool.or_eq_true, decide_eq_true_eq] at hn
    simp only [Bool.and_eq_true]
    refine ⟨?_, ?_, hn.2, ?_⟩
    · unfold fits inR
      have : ¬ ns.getD j 0 ∈ S := fun e => by rw [(hD j hj).1 e] at hDj; cases hDj
      simp only [Int.toNat_natCast, hat.2, Bool.and_true, Bool.and_eq_true, decide_eq_true_eq, Bool.not_eq_true']
      exact ⟨⟨by omega, by have := hat.1; omega⟩, by simpa using this⟩
    · rw [List.all_eq_true]
      intro m hm
      obtain ⟨k, hk, rfl⟩ := List.mem_map.1 hm
      have hpn := path_not q _ _ _ hq k hk
      rw [L_len] at hpn
      have hDk : D k = false := by
        have := hpn.2
        unfold upd at this
        simp only [Bool.or_eq_false_iff] at this
        exact this.1
      have h1 := hn.1.2 k hpn.1
      rw [L_at h ns hpn.1, hDk] at h1
      unfold late
      have hzk : zat h ((ns.getD k 0 : Nat) : Int) = nops h ns k := rfl
      rw [hzk, hz]
      rcases h1 with (e | e) | e
      · simp [e]
      · have : ¬ (nops h ns k).back < (nops h ns j).call := by omega
        simp [this]
      · cases e
    · refine kp_of_path H q (upd D j) _ _ _ (fun k hk => ?_) hq
      unfold upd
      simp only [Int.toNat_natCast, List.mem_cons, Bool.or_eq_true, decide_eq_true_eq]
      constructor
      · rintro (e | e)
        · exact .inr (H.inj hk hj e)
        · exact .inl ((hD k hk).1 e)
      · rintro (e | e)
        · exact .inr ((hD k hk).2 e)
        · left; rw [e]

theorem path_of_kp {h : List Lo} {key : Bs} {ns : List Nat} (H : Nm h key ns) (hs : ∀ i, i < h.length → (oat h i).back ≠ 0 → (oat h i).call ≤ (oat h i).back) :
    ∀ (l : List Int) (D : Nat → Bool) (S : List Nat) (th : Bool) (v : Bs), (∀ j, j < ns.length → (ns.getD j 0 ∈ S ↔ D j = true)) → kp h key S th v l = true → ∃ p, l = zs ns p ∧ Path (L h ns) D th v p
  | [], D, S, th, v, hD, hk => by
    refine ⟨[], rfl, ?_⟩
    show fineB (L h ns) D = true
    unfold fineB
    rw [List.all_eq_true]
    intro j hj
    rw [List.mem_range, L_len] at hj
    rw [L_at h ns hj]
    have hat := H.at_lt hj
    have := List.all_eq_true.1 (show (List.range h.length).all _ = true from hk) _ (List.mem_range.2 hat.1)
    by_cases hb : (nops h ns j).back = 0
    · simp [hb]
    · have hb' : ¬ (oat h (ns.getD j 0)).back = 0 := hb
      simp only [hat.2, hb', ne_eq, not_false_eq_true, decide_true, Bool.and_self, Bool.not_true, Bool.false_or] at this
      have h1 := (hD j hj).1 (by simpa using this)
      simp [h1]
  | n :: r, D, S, th, v, hD, hk => by
    have hk0 := hk
    unfold kp at hk
    simp only [Bool.and_eq_true] at hk
    obtain ⟨hf, hla, hokb, hrest⟩ := hk
    unfold fits inR at hf
    simp only [Bool.and_eq_true, decide_eq_true_eq, Bool.not_eq_true'] at hf
    obtain ⟨j, hj, he⟩ := H.find (i := n.toNat) (by omega) hf.2.2
    have hne : n = ((ns.getD j 0 : Nat) : Int) := by rw [he]; omega
    have hDj : D j = false := by
      cases hd : D j
      · rfl
      · have := (hD j hj).2 hd
        rw [he] at this
        have h2 := hf.2.1
        simp at h2
        exact absurd this h2
    have hz : zat h n = nops h ns j := by unfold zat nops; rw [he]
    obtain ⟨q, hq, hp⟩ := path_of_kp H hs r (upd D j) (n.toNat :: S) (step th v (zat h n)).1 (step th v (zat h n)).2.1 (fun k hk' => by
      unfold upd
      simp only [List.mem_cons, Bool.or_eq_true, decide_eq_true_eq]
      constructor
      · rintro (e | e)
        · exact .inr (H.inj hk' hj (by rw [he]; exact e))
        · exact .inl ((hD k hk').1 e)
      · rintro (e | e)
        · exact .inr ((hD k hk').2 e)
        · left; rw [e, he]) hrest
    refine ⟨j :: q, ?_, by rw [L_len]; exact hj, ?_, ?_⟩
    · show n :: r = ((ns.getD j 0 : Nat) : Int) :: zs ns q
      rw [← hne, ← hq]
    · unfold nextB mayB
      rw [L_at h ns hj, hDj, ← hz, hokb]
      simp only [Bool.not_false, Bool.true_and, Bool.and_true, List.all_eq_true, List.mem_range, L_len]
      intro k hk'
      rw [L_at h ns hk']
      by_cases e1 : (nops h ns k).back = 0
      · simp [e1]
      by_cases e2 : (zat h n).call ≤ (nops h ns k).back
      · simp [e2]
      have hatk := H.at_lt hk'
      have hDk : D k = true := by
        rcases kp_all (n :: r) S th v hk0 _ hatk.1 hatk.2 e1 with e | e
        · exact (hD k hk').1 e
        · exfalso
          rcases List.mem_cons.1 e with e | e
          · have hkj : k = j := H.inj hk' hj (by omega)
            subst hkj
            have := hs _ hatk.1 e1
            rw [hz] at e2
            exact e2 this
          · have h3 := List.all_eq_true.1 hla _ e
            have hzk : zat h ((ns.getD k 0 : Nat) : Int) = nops h ns k := rfl
            have := hatk.1
            have hl1 : late h n ((ns.getD k 0 : Nat) : Int) = true := by
              unfold late inR
              rw [hzk]
              simp only [Bool.and_eq_true, decide_eq_true_eq]
              exact ⟨⟨by omega, by omega⟩, e1, by omega⟩
            rw [hl1] at h3
            cases h3
      simp [hDk]
    · rw [L_at h ns hj, ← hz]
      exact hp

def aheadZ : List Int → List Int → Bool
  | [], [] => false
  | [], _ :: _ => true
  | _ :: _, [] => false
  | a :: l, b :: m => if a = b then aheadZ l m else decide (a < b)
theorem ahead_zs {h : List Lo} {key : Bs} {ns : List Nat} (H : Nm h key ns) : ∀ (p q : List Nat), (∀ j ∈ p, j < ns.length) → (∀ j ∈ q, j < ns.length) → aheadZ (zs ns p) (zs ns q) = ahead p q
  | [], [], _, _ => rfl
  | [], _ :: _, _, _ => rfl
  | _ :: _, [], _, _ => rfl
  | a :: p, b :: q, hp, hq => by
    have ha := hp a (by simp)
    have hb := hq b (by simp)
    show (if ((ns.getD a 0 : Nat) : Int) = ((ns.getD b 0 : Nat) : Int) then aheadZ (zs ns p) (zs ns q) else decide (((ns.getD a 0 : Nat) : Int) < ((ns.getD b 0 : Nat) : Int))) = (if a = b then ahead p q else decide (a < b))
    by_cases e : a = b
    · subst e
      rw [if_pos rfl, if_pos rfl]
      exact ahead_zs H p q (fun j hj => hp j (by simp [hj])) (fun j hj => hq j (by simp [hj]))
    · rw [if_neg (fun e2 => e (H.inj ha hb (by omega))), if_neg e]
      rcases Nat.lt_trichotomy a b with h1 | h1 | h1
      · have := H.mono h1 hb
        rw [decide_eq_true (show a < b from h1), decide_eq_true (by omega)]
      · exact absurd h1 e
      · have := H.mono h1 ha
        rw [decide_eq_false (by omega), decide_eq_false (by omega)]

theorem valid_back {h : List Lo} (hv : valid h = 0) : ∀ i, i < h.length → (oat h i).back ≠ 0 → (oat h i).call ≤ (oat h i).back := by
  have hl := valid_len hv
  have hs : sounds h = 0 := by
    unfold valid at hv
    rw [if_neg (by omega)] at hv
    by_cases e : sounds h = 0
    · exact e
    · rw [if_pos e] at hv; exact hv
  have key : ∀ (l : List Lo), sounds l = 0 → ∀ i, i < l.length → sound (oat l i) = 0 := by
    intro l
    induction l with
    | nil => intro _ i hi; simp at hi
    | cons x r ih =>
      intro h0 i hi
      unfold sounds at h0
      by_cases e : sound x = 0
      · rw [if_pos e] at h0
        cases i with
        | zero => exact e
        | succ i => exact ih h0 i (by simpa using hi)
      · rw [if_neg e] at h0; exact absurd h0 e
  intro i hi hb
  have := key h hs i hi
  unfold sound at this
  split at this
  · cases this
  split at this
  · cases this
  split at this
  · cases this
  · omega

/-- The first order, as the statement has it. -/
def zl (l : List Nat) : List Int := l.map fun (i : Nat) => (i : Int)
theorem zs_eq (h : List Lo) (key : Bs) (p : List Nat) : zl (p.map fun i => (nums h key)[i]?.getD 0) = zs (nums h key) p := by
  unfold zl zs
  rw [List.map_map]
  apply List.map_congr_left
  intro i _
  simp [List.getD_eq_getElem?_getD]
theorem explain_keeps {h : List Lo} {key : Bs} {l : List Nat} (he : explain h key = some l) : kp h key [] false [] (zl l) = true := by
  unfold explain at he
  rw [Option.map_eq_some_iff] at he
  obtain ⟨p, hp, rfl⟩ := he
  have hI := expl_isL (opsOf h key)
  rw [hp, opsOf_L] at hI
  rw [zs_eq]
  exact kp_of_path (nm_nums h key) p _ [] _ _ (fun j _ => by simp) hI.path
theorem keeps_least {h : List Lo} {key : Bs} (hv : valid h = 0) {o : List Int} (hk : kp h key [] false [] o = true) : ∃ l, explain h key = some l ∧ aheadZ o (zl l) = false := by
  obtain ⟨p, rfl, hp⟩ := path_of_kp (nm_nums h key) (valid_back hv) o (fun _ => false) [] false [] (fun j _ => by simp) hk
  have hI := expl_isL (opsOf h key)
  rw [opsOf_L] at hI
  unfold explain
  rw [opsOf_L]
  cases he : expl (L h (nums h key)) with
  | none => rw [he] at hI; exact absurd hp (hI p)
  | some q =>
    rw [he] at hI
    refine ⟨_, rfl, ?_⟩
    rw [zs_eq, ahead_zs (nm_nums h key) p q (fun j hj => by have := (path_not p _ _ _ hp j hj).1; rwa [L_len] at this) (fun j hj => by have := (path_not q _ _ _ hI.path j hj).1; rwa [L_len] at this)]
    exact hI.none p hp
end Go.Proofs.Ytbcnpdpdflkanaa
