/-
  Lanes beside a list of rows; which lane is next; how many things there are.
-/
import Derived.Test.YthaoobfldponpaaWo
import Derived.Test.YthaoobfldponpaaOp
namespace Go.Proofs.Ythaoobfldponpaa
open Go.RowKit
set_option linter.unusedVariables false

structure LM (N : Nat) (S S' : Nat → Prop) (w : World) (d m n room nx : Nat) (vs : Nat → Value) (ls L : Nat → List Int) : Prop where
  la : La N S w d n room nx ls
  mx : Mx N S' w m n vs L
  ap : ∀ i, S i → ¬ S' i
theorem LM.one {N : Nat} {S S' : Nat → Prop} {w w1 : World} {d m n room nx n2 : Nat} {vs : Nat → Value} {ls l2 L : Nat → List Int} (h : LM N S S' w d m n room nx vs ls L) (t : LTh N S w w1 d n room n2 l2) : LM N (grew S w w1) S' w1 d m n room n2 vs l2 L :=
  ⟨t.q, h.mx.out t.out (fun i hi hs => h.ap i hs hi), fun i hi hs => hi.elim (fun h1 => h.ap i h1 hs) (fun h2 => by have := h.mx.inn i hs; omega)⟩
theorem LM.two {N : Nat} {S S' : Nat → Prop} {w w1 : World} {d m n room nx : Nat} {vs v2 : Nat → Value} {ls L L2 : Nat → List Int} (h : LM N S S' w d m n room nx vs ls L) (t : Mx N (grew S' w w1) w1 m n v2 L2) (hO : Out S' w w1) : LM N S (grew S' w w1) w1 d m n room nx v2 ls L2 :=
  ⟨h.la.out hO (fun i hi hs => h.ap i hi hs), t, fun i hs hi => hi.elim (fun h1 => h.ap i hs h1) (fun h2 => by have := h.la.inn i hs; omega)⟩
theorem LM.below {N : Nat} {S S' : Nat → Prop} {w w1 : World} {d m n room nx : Nat} {vs : Nat → Value} {ls L : Nat → List Int} (h : LM N S S' w d m n room nx vs ls L) (hB : Below w.heap.size w w1) : LM N S S' w1 d m n room nx vs ls L := ⟨h.la.below hB, h.mx.below hB, h.ap⟩
theorem La.nums {N : Nat} {S : Nat → Prop} {w : World} {d n room nx : Nat} {ls : Nat → List Int} (h : La N S w d n room nx ls) : (1 ≤ n ∧ n ≤ 64 ∧ nx ≤ n) ∧ ∀ i, i < n → (ls i).length ≤ room ∧ room ≤ 64 := by
  obtain ⟨c, bs, F, h⟩ := h
  exact ⟨⟨h.n1, h.n64, h.nx⟩, fun i hi => ⟨(h.qs i hi).len, (h.qs i hi).rm⟩⟩

theorem tot_zero {ls : Nat → List Int} : ∀ {n : Nat}, tot ls n = 0 → ∀ i, i < n → ls i = []
  | 0, _, i, hi => by omega
  | n + 1, h, i, hi => by
    simp only [tot] at h
    by_cases e : i = n
    · subst e; exact List.length_eq_zero_iff.1 (by omega)
    · exact tot_zero (n := n) (by omega) i (by omega)
theorem tot_pos {ls : Nat → List Int} {n : Nat} (h : ∀ i, i < n → ls i = []) : tot ls n = 0 := by
  induction n with
  | zero => rfl
  | succ n ih => simp only [tot]; rw [ih (fun i hi => h i (by omega)), h n (by omega)]; rfl
theorem tot_set {ls : Nat → List Int} {i n : Nat} (hi : i < n) (l : List Int) : tot (upd ls i l) n + (ls i).length = tot ls n + l.length := by
  have := tot_upd (ls := ls) (i := i) (l := l) (n := n)
  rwa [if_pos hi, if_pos hi] at this

/-- The first lane from next on that isn't empty. -/
theorem pick_some {ls : Nat → List Int} {n nx : Nat} (hnx : nx ≤ n) (h : ¬ ∀ i, i < n → ls i = []) : ∃ m, m < n ∧ (∀ k, k < m → ls ((nx + k) % n) = []) ∧ ls ((nx + m) % n) ≠ [] := by
  have hex : ∃ m, m < n ∧ ls ((nx + m) % n) ≠ [] := by
    apply Classical.byContradiction
    intro hno
    apply h
    intro i hi
    apply Classical.byContradiction
    intro hne
    refine hno ⟨(i + n - nx) % n, Nat.mod_lt _ (by omega), ?_⟩
    have e : (nx + (i + n - nx) % n) % n = i := by
      rw [Nat.add_mod_mod, show nx + (i + n - nx) = i + n from by omega, Nat.add_mod_right, Nat.mod_eq_of_lt hi]
    rw [e]
    exact hne
  let p : Nat → Prop := fun m => m < n ∧ ls ((nx + m) % n) ≠ []
  have hp : ∃ m, p m := hex
  have ⟨m, hm, hmin⟩ : ∃ m, p m ∧ ∀ k, k < m → ¬ p k := by
    obtain ⟨m, hm⟩ := hp
    induction m using Nat.strongRecOn with
    | _ m ih =>
      by_cases hk : ∃ k, k < m ∧ p k
      · obtain ⟨k, hk1, hk2⟩ := hk
        exact ih k hk1 hk2
      · exact ⟨m, hm, fun k hk1 hk2 => hk ⟨k, hk1, hk2⟩⟩
  refine ⟨m, hm.1, fun k hk => ?_, hm.2⟩
  apply Classical.byContradiction
  intro hne
  exact hmin k hk ⟨by omega, hne⟩

/-- A lane's number of any number. -/
theorem laneOf (n : Nat) (h1 : 1 ≤ n) (h2 : n ≤ 64) (r : Int) : ∃ (x : Int) (J : Nat), r.tmod (n : Int) = x ∧ IntKind.i64.wrap (x + (n : Int)) = x + (n : Int) ∧ (x + (n : Int)).tmod (n : Int) = (J : Int) ∧ J < n := by
  have h1 : -(n : Int) < r.tmod (n : Int) := by
    have h := Int.natAbs_tmod r (n : Int)
    have h' := Nat.mod_lt r.natAbs (y := (n : Int).natAbs) (by omega)
    rw [← h] at h'
    omega
  have h2 : r.tmod (n : Int) < (n : Int) := Int.tmod_lt_of_pos r (by omega)
  have h3 : 0 ≤ (r.tmod (n : Int) + (n : Int)).tmod (n : Int) := Int.tmod_nonneg _ (by omega)
  have h4 : (r.tmod (n : Int) + (n : Int)).tmod (n : Int) < (n : Int) := Int.tmod_lt_of_pos _ (by omega)
  refine ⟨_, ((r.tmod (n : Int) + (n : Int)).tmod (n : Int)).toNat, rfl, ?_, ?_, by omega⟩
  · rw [IntKind.wrap_i64]; omega
  · omega

/-- An append onto row J, and the store. -/
theorem Mx.app {N : Nat} {S : Nat → Prop} {w : World} {m n J : Nat} {vs : Nat → Value} {L : Nat → List Int} (h : Mx N S w m n vs L) (hN : N ≤ w.heap.size) (hJ : J < n) (x : Int) {a : Option Addr} {c : Nat} (hv : vs J = .slice a (L J).length c) :
    (w.alloc (.cells #[.int .i64 x] 3)).cell? ⟨w.heap.size, 0, none⟩ = some (.int .i64 x) ∧ Wo (w.alloc (.cells #[.int .i64 x] 3)) (.slice a (L J).length c) (L J) ∧
    ∀ v' w2, Wo w2 v' (L J ++ [x]) → (w.alloc (.cells #[.int .i64 x] 3)).grownBy w2 (Value.slice a (L J).length c).ownBlock → (v'.ownBlock = (Value.slice a (L J).length c).ownBlock ∨ v'.ownBlock = some (w.alloc (.cells #[.int .i64 x] 3)).heap.size) →
      (w2.cell? ⟨m, J, none⟩ = some (.slice a (L J).length c) ∧ w2.frozen? ⟨m, J, none⟩ = false) ∧ Mx N (grew S w (w2.setCell ⟨m, J, none⟩ v')) (w2.setCell ⟨m, J, none⟩ v') m n (upd vs J v') (upd L J (L J ++ [x])) ∧ Out S w (w2.setCell ⟨m, J, none⟩ v') := by
  have hb : (w.alloc (.cells #[.int .i64 x] 3)).heap[w.heap.size]? = some (.cells #[.int .i64 x] 3) := heap_alloc_new w _
  have hB : Below w.heap.size w (w.alloc (.cells #[.int .i64 x] 3)) := (Below.refl _ _).alloc (Nat.le_refl _) _
  have hr := (h.rows J hJ).1
  rw [hv] at hr
  refine ⟨by simp only [World.cell?, hb]; rfl, hr.out (X := fun _ => False) (Out.of_below hB) (fun _ _ hf => hf), fun v' w2 h1 h2 h3 => ?_⟩
  have hO : Out (fun g => (vs J).ownBlock = some g) w w2 := (Out.of_below hB).trans (Out.grown h2 (X := fun g => (vs J).ownBlock = some g) (fun j hj => by rw [hv]; exact hj)) (fun i hi _ => hi)
  have hne : (vs J).ownBlock ≠ some m := by
    obtain ⟨cs, hc, -⟩ := h.hm
    exact (h.rows J hJ).1.not_at hc (by decide)
  obtain ⟨c1, c2⟩ := h.cell hJ
  have hbm := hO.block m (h.inn _ h.Sm) hne
  refine ⟨⟨?_, ?_⟩, h.turn hN hJ hO h1 (fun g hg => ?_)⟩
  · rw [← hv]; exact (World.cell?_of_block (a := ⟨m, J, none⟩) hbm).trans c1
  · obtain ⟨cs, hc, -⟩ := h.hm
    simp [World.frozen?, hbm, hc]
  · rcases h3 with e | e
    · left; rw [hv, ← e]; exact hg
    · right; rw [e] at hg; cases hg; simp
/-- A cut of row J, and the store. -/
theorem Mx.cutS {N : Nat} {S : Nat → Prop} {w : World} {m n J : Nat} {vs : Nat → Value} {L : Nat → List Int} (h : Mx N S w m n vs L) (hN : N ≤ w.heap.size) (hJ : J < n) {a : Option Addr} {c : Nat} (hv : vs J = .slice a (L J).length c) (k : Nat) (hk : k ≤ (L J).length) :
    Mx N (grew S w (w.setCell ⟨m, J, none⟩ (cutV a (L J).length c k))) (w.setCell ⟨m, J, none⟩ (cutV a (L J).length c k)) m n (upd vs J (cutV a (L J).length c k)) (upd L J ((L J).drop k)) ∧ Out S w (w.setCell ⟨m, J, none⟩ (cutV a (L J).length c k)) := by
  have hr := (h.rows J hJ).1
  rw [hv] at hr
  obtain ⟨h1, h2⟩ := hr.cut k hk
  exact h.turn hN hJ (Out.refl _ _) h1 (fun g hg => .inl (by rw [hv]; exact h2 g hg))
end Go.Proofs.Ythaoobfldponpaa
