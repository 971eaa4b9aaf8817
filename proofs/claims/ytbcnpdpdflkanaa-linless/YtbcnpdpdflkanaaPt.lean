/-
  What a judgement doesn't hang on, plainly: clients and numbers, the order of the list, what does not count.
-/
import Derived.Test.YtbcnpdpdflkanaaOo
namespace Go.Proofs.Ytbcnpdpdflkanaa
open Go.RowKit

def ess (x : Lo) : Lo := { x with cl := 0, sq := 0 }
theorem ess_counts (x : Lo) : (ess x).counts = x.counts := rfl
theorem ess_key (x : Lo) : (ess x).key = x.key := rfl
theorem ess_sound (x : Lo) : sound (ess x) = sound x := rfl
theorem ess_step (th : Bool) (v : Bs) (x : Lo) : step th v (ess x) = step th v x := rfl

theorem isL_some {ops : List Lo} {D : Nat → Bool} {th : Bool} {v : Bs} {r : Option (List Nat)} (h : IsL ops D th v r) : r.isSome = true ↔ ∃ p, Path ops D th v p := by
  cases r with
  | none => exact ⟨fun e => (by cases e), fun ⟨p, hp⟩ => absurd hp (h p)⟩
  | some l => exact ⟨fun _ => ⟨l, h.path⟩, fun _ => rfl⟩

/-- Of the same sense. -/
def Sim (x y : Lo) : Prop := ess x = ess y
theorem Sim.step {x y : Lo} (h : Sim x y) (th : Bool) (v : Bs) : step th v x = step th v y := by rw [← ess_step th v x, ← ess_step th v y, h]
theorem Sim.call {x y : Lo} (h : Sim x y) : x.call = y.call := by
  have h' : (ess x).call = (ess y).call := by rw [show ess x = ess y from h]
  exact h'
theorem Sim.back {x y : Lo} (h : Sim x y) : x.back = y.back := by
  have h' : (ess x).back = (ess y).back := by rw [show ess x = ess y from h]
  exact h'
theorem Sim.rp {x y : Lo} (h : Sim x y) : x.rp = y.rp := by
  have h' : (ess x).rp = (ess y).rp := by rw [show ess x = ess y from h]
  exact h'

theorem path_map {ops ops' : List Lo} {n : Nat} (hl : ops.length = n) (hl' : ops'.length = n) (r : Nat → Nat) (hr : ∀ i, i < n → r i < n ∧ r (r i) = i) (hs : ∀ i, i < n → Sim (oat ops' (r i)) (oat ops i)) :
    ∀ (p : List Nat) (D D' : Nat → Bool) (th : Bool) (v : Bs), (∀ i, i < n → D' (r i) = D i) → Path ops D th v p → Path ops' D' th v (p.map r)
  | [], D, D', th, v, hD, hp => by
    show fineB ops' D' = true
    have hp' : fineB ops D = true := hp
    unfold fineB at *
    rw [List.all_eq_true] at *
    intro k hk
    rw [List.mem_range, hl'] at hk
    have h1 := hp' (r k) (List.mem_range.2 (by rw [hl]; exact (hr k hk).1))
    have h2 := hD (r k) (hr k hk).1
    rw [(hr k hk).2] at h2
    have h3 := (hs (r k) (hr k hk).1).back
    rw [(hr k hk).2] at h3
    rw [h2, h3]
    exact h1
  | i :: q, D, D', th, v, hD, hp => by
    obtain ⟨hi, hn, hq⟩ := hp
    rw [hl] at hi
    have hsi := hs i hi
    refine ⟨by rw [hl']; exact (hr i hi).1, ?_, ?_⟩
    · unfold nextB mayB okB at *
      rw [hD i hi, hsi.step, hsi.rp, hsi.back]
      simp only [Bool.and_eq_true, List.all_eq_true] at *
      refine ⟨⟨hn.1.1, fun k hk => ?_⟩, hn.2⟩
      rw [List.mem_range, hl'] at hk
      have h1 := hn.1.2 (r k) (List.mem_range.2 (by rw [hl]; exact (hr k hk).1))
      have h2 := hD (r k) (hr k hk).1
      rw [(hr k hk).2] at h2
      have h3 := (hs (r k) (hr k hk).1).back
      rw [(hr k hk).2] at h3
      rw [h2, h3, hsi.call]
      exact h1
    · rw [hsi.step]
      refine path_map hl hl' r hr hs q (upd D i) (upd D' (r i)) _ _ (fun k hk => ?_) hq
      unfold upd
      rw [hD k hk]
      congr 1
      by_cases e : k = i
      · subst e; simp
      · have : ¬ r k = r i := fun e2 => e (by rw [← (hr k hk).2, e2, (hr i hi).2])
        simp [e, this]

theorem oat_map_ess {l : List Lo} {i : Nat} (hi : i < l.length) : ess (oat l i) = oat (l.map ess) i := by
  unfold oat
  rw [List.getElem?_map, List.getElem?_eq_getElem hi]; rfl
theorem oat_rev {l : List Lo} {i : Nat} (hi : i < l.length) : oat l.reverse i = oat l (l.length - 1 - i) := by
  unfold oat
  rw [List.getElem?_reverse hi]

theorem expl_rev {ops ops' : List Lo} (h : ops'.map ess = (ops.map ess).reverse) : (expl ops').isSome = (expl ops).isSome := by
  have hl : ops'.length = ops.length := by have := congrArg List.length h; simpa using this
  have hr : ∀ i, i < ops.length → ops.length - 1 - i < ops.length ∧ ops.length - 1 - (ops.length - 1 - i) = i := fun i hi => ⟨by omega, by omega⟩
  have key : ∀ i, i < ops.length → ess (oat ops' (ops.length - 1 - i)) = ess (oat ops i) := fun i hi => by
    rw [oat_map_ess (by omega), h, oat_rev (by simp; omega), oat_map_ess hi]
    simp only [List.length_map]
    rw [(hr i hi).2]
  rw [Bool.eq_iff_iff, isL_some (expl_isL ops'), isL_some (expl_isL ops)]
  constructor
  · rintro ⟨p, hp⟩
    exact ⟨_, path_map hl rfl (fun i => ops.length - 1 - i) hr (fun i hi => by
      have := key (ops.length - 1 - i) (by omega)
      rw [(hr i hi).2] at this
      exact this.symm) p _ _ _ _ (fun _ _ => rfl) hp⟩
  · rintro ⟨p, hp⟩
    exact ⟨_, path_map rfl hl (fun i => ops.length - 1 - i) hr key p _ _ _ _ (fun _ _ => rfl) hp⟩

def isOf (k : Bs) (x : Lo) : Bool := decide (x.key = k) && x.counts
theorem range_map (l : List Lo) : (List.range l.length).map (oat l) = l := by
  apply List.ext_getElem (by simp)
  intro i h1 h2
  simp [oat, List.getElem?_eq_getElem h2]
theorem opsOf_filter (h : List Lo) (k : Bs) : opsOf h k = h.filter (isOf k) := by
  unfold opsOf nums
  conv => rhs; rw [← range_map h, List.filter_map]
  rfl
theorem ops_len (h : List Lo) (k : Bs) : cntK h h.length k = (h.filter (isOf k)).length := by
  rw [← opsOf_filter]
  unfold opsOf cntK nums
  simp
theorem explain_some (h : List Lo) (k : Bs) : (explain h k).isSome = (expl (h.filter (isOf k))).isSome := by
  unfold explain
  rw [opsOf_filter]
  simp
theorem filter_ess (l : List Lo) (k : Bs) : (l.filter (isOf k)).map ess = (l.map ess).filter (isOf k) := by
  rw [List.filter_map]
  rfl

theorem sounds_mem : ∀ {l : List Lo}, sounds l = 0 ↔ ∀ x ∈ l, sound x = 0
  | [] => by simp [sounds]
  | x :: r => by
    unfold sounds
    by_cases e : sound x = 0
    · rw [if_pos e, sounds_mem (l := r)]; simp [e]
    · rw [if_neg e]; simp [e]
theorem valid_iff {h : List Lo} : valid h = 0 ↔ h.length ≤ 400 ∧ (∀ x ∈ h, sound x = 0) ∧ ∀ k, (h.filter (isOf k)).length ≤ 12 := by
  constructor
  · intro hv
    have hl := valid_len hv
    refine ⟨hl, sounds_mem.1 ?_, fun k => ?_⟩
    · unfold valid at hv
      rw [if_neg (by omega)] at hv
      by_cases e : sounds h = 0
      · exact e
      · rw [if_pos e] at hv; exact hv
    · rw [← ops_len]; exact valid_few hv k
  · rintro ⟨h1, h2, h3⟩
    exact valid_ok h1 (fun i hi => h2 _ (oat_mem hi)) (fun k => by rw [ops_len]; exact h3 k)

theorem turned_valid {h T : List Lo} (hT : T.map ess = (h.map ess).reverse) (hv : valid h = 0) : valid T = 0 := by
  rw [valid_iff] at *
  have hl : T.length = h.length := by have := congrArg List.length hT; simpa using this
  refine ⟨by omega, fun x hx => ?_, fun k => ?_⟩
  · have h1 : ess x ∈ T.map ess := List.mem_map_of_mem hx
    rw [hT, List.mem_reverse, List.mem_map] at h1
    obtain ⟨y, hy, he⟩ := h1
    rw [← ess_sound, ← he, ess_sound]
    exact hv.2.1 y hy
  · have h1 : ((T.filter (isOf k)).map ess).length = ((h.filter (isOf k)).map ess).length := by
      rw [filter_ess, hT, List.filter_reverse, List.length_reverse, ← filter_ess]
    simp only [List.length_map] at h1
    rw [h1]; exact hv.2.2 k
theorem judged_iff {h : List Lo} : judged h = true ↔ ∀ x ∈ h, x.counts = true → (expl (h.filter (isOf x.key))).isSome = true := by
  unfold judged
  rw [List.all_eq_true]
  refine forall_congr' fun x => forall_congr' fun _ => ?_
  rw [explain_some]
  cases x.counts <;> simp
theorem turned_expl {h T : List Lo} (hT : T.map ess = (h.map ess).reverse) (k : Bs) : (expl (T.filter (isOf k))).isSome = (expl (h.filter (isOf k))).isSome :=
  expl_rev (by rw [filter_ess, hT, List.filter_reverse, ← filter_ess])
theorem turned_judged {h T : List Lo} (hT : T.map ess = (h.map ess).reverse) : judged T = judged h := by
  rw [Bool.eq_iff_iff, judged_iff, judged_iff]
  have mem1 : ∀ x ∈ T, ∃ y ∈ h, ess y = ess x := fun x hx => by
    have h1 : ess x ∈ T.map ess := List.mem_map_of_mem hx
    rw [hT, List.mem_reverse, List.mem_map] at h1
    exact h1
  have mem2 : ∀ x ∈ h, ∃ y ∈ T, ess y = ess x := fun x hx => by
    have h1 : ess x ∈ (h.map ess).reverse := List.mem_reverse.2 (List.mem_map_of_mem hx)
    rw [← hT, List.mem_map] at h1
    exact h1
  constructor
  · intro hall x hx hc
    obtain ⟨y, hy, he⟩ := mem2 x hx
    have h1 := hall y hy (by rw [← ess_counts, he, ess_counts]; exact hc)
    rw [turned_expl hT] at h1
    rwa [← ess_key x, ← he, ess_key]
  · intro hall x hx hc
    obtain ⟨y, hy, he⟩ := mem1 x hx
    have h1 := hall y hy (by rw [← ess_counts, he, ess_counts]; exact hc)
    rw [turned_expl hT]
    rwa [← ess_key x, ← he, ess_key]
theorem turned_check {h T : List Lo} (hT : T.map ess = (h.map ess).reverse) (hv : valid h = 0) : checkE T = checkE h := by
  unfold checkE
  rw [turned_valid hT hv, hv, turned_judged hT]

theorem less_filter (h : List Lo) (k : Bs) : (h.filter Lo.counts).filter (isOf k) = h.filter (isOf k) := by
  rw [List.filter_filter]
  apply List.filter_congr
  intro x _
  unfold isOf
  cases x.counts <;> simp
theorem less_valid {h : List Lo} (hv : valid h = 0) : valid (h.filter Lo.counts) = 0 := by
  rw [valid_iff] at *
  have := List.length_filter_le Lo.counts h
  exact ⟨by omega, fun x hx => hv.2.1 x (List.mem_filter.1 hx).1, fun k => by rw [less_filter]; exact hv.2.2 k⟩
theorem less_judged (h : List Lo) : judged (h.filter Lo.counts) = judged h := by
  rw [Bool.eq_iff_iff, judged_iff, judged_iff]
  constructor
  · intro hall x hx hc
    have := hall x (List.mem_filter.2 ⟨hx, hc⟩) hc
    rwa [less_filter] at this
  · intro hall x hx hc
    rw [less_filter]
    exact hall x (List.mem_filter.1 hx).1 hc
theorem less_check {h : List Lo} (hv : valid h = 0) : checkE (h.filter Lo.counts) = checkE h := by
  unfold checkE
  rw [less_valid hv, hv, less_judged]
end Go.Proofs.Ytbcnpdpdflkanaa
