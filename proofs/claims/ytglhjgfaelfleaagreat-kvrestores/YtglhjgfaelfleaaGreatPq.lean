/-
  What follows of a store in plain lists: a command that was done is not done again.
-/
import Derived.Test.YtglhjgfaelfleaaGreatFi
namespace Go.Proofs.YtglhjgfaelfleaaGreat
open Go.RowKit
set_option linter.unusedVariables false

section
variable {α : Type} {κ : α → Lit}
theorem look_ins_same (hK : ∀ x, WideAt.IsKeyLit (κ x)) (x : α) : ∀ {xs : List α}, (∀ y ∈ xs, (κ y).sameKey (κ x) = false) → lookK κ (κ x) (insK κ x xs) = some x
  | [], _ => by unfold lookK insK; simp [WideAt.sameKey_self (hK x)]
  | y :: q, h => by
    unfold insK
    split
    · unfold lookK; rw [List.find?_cons, WideAt.sameKey_self (hK x)]
    · have h1 := look_ins_same hK x (xs := q) (fun z hz => h z (by simp [hz]))
      unfold lookK at *
      rw [List.find?_cons, h y (by simp)]
      exact h1
theorem look_put_same (hK : ∀ x, WideAt.IsKeyLit (κ x)) (x : α) (xs : List α) : lookK κ (κ x) (putK κ x xs) = some x :=
  look_ins_same hK x (fun y hy => (mem_delK.1 hy).2)
theorem look_ins_other {x : α} {k : Lit} (hne : (κ x).sameKey k = false) : ∀ {xs : List α}, lookK κ k (insK κ x xs) = lookK κ k xs
  | [] => by unfold lookK insK; simp [hne]
  | y :: q => by
    unfold insK
    split
    · unfold lookK; rw [List.find?_cons, hne]
    · have h1 := look_ins_other (x := x) (k := k) hne (xs := q)
      unfold lookK at *
      rw [List.find?_cons, List.find?_cons, h1]
theorem look_del_other {k k' : Lit} (hne : k ≠ k') (xs : List α) : lookK κ k' (delK κ k xs) = lookK κ k' xs := by
  unfold lookK delK
  induction xs with
  | nil => rfl
  | cons y q ih =>
    rw [List.filter_cons]
    by_cases h : (κ y).sameKey k
    · have hy : (κ y).sameKey k' = false := by
        cases e : (κ y).sameKey k'
        · rfl
        · exact absurd ((WideAt.sameKey_eq h).symm.trans (WideAt.sameKey_eq e)) hne
      simp only [h, Bool.not_true, Bool.false_eq_true, if_false]
      rw [List.find?_cons, hy]; exact ih
    · simp only [h, Bool.not_false, if_true]
      rw [List.find?_cons, List.find?_cons, ih]
theorem look_put_other {x : α} {k : Lit} (hne : κ x ≠ k) (xs : List α) : lookK κ k (putK κ x xs) = lookK κ k xs := by
  unfold putK
  rw [look_ins_other (Maps.sameKey_ne hne), look_del_other hne]
theorem len_del_one (hK : ∀ x, WideAt.IsKeyLit (κ x)) {k : Lit} : ∀ {xs : List α}, xs.Pairwise (fun x y => κ x ≠ κ y) → xs.length ≤ (delK κ k xs).length + 1
  | [], _ => by simp
  | y :: q, hp => by
    obtain ⟨h1, h2⟩ := List.pairwise_cons.1 hp
    unfold delK
    rw [List.filter_cons]
    by_cases h : (κ y).sameKey k
    · have e := WideAt.sameKey_eq h
      have : q.filter (fun x => !(κ x).sameKey k) = q := List.filter_eq_self.2 (fun z hz => by
        have : (κ z).sameKey k = false := Maps.sameKey_ne (fun e2 => h1 z hz (e.trans e2.symm))
        simp [this])
      simp [h, this]
    · have ih := len_del_one hK (k := k) h2
      unfold delK at ih
      simp only [h, Bool.not_false, if_true, List.length_cons]
      omega
theorem len_put_ge (hK : ∀ x, WideAt.IsKeyLit (κ x)) (x : α) {xs : List α} (hp : xs.Pairwise (fun x y => κ x ≠ κ y)) : xs.length ≤ (putK κ x xs).length := by
  unfold putK; rw [len_insK]; exact len_del_one hK hp
end

theorem lookS_put_same (s : Se) (ss : List Se) : lookS s.cl (putK kS s ss) = some s := look_put_same keySe s ss
theorem lookS_put_other {s : Se} {cl : Int} (h : s.cl ≠ cl) (ss : List Se) : lookS cl (putK kS s ss) = lookS cl ss := look_put_other (κ := kS) (x := s) (k := .int .i64 cl) (by simp [kS, h]) ss
theorem lookP_put_same (k v : Bs) (ps : List (Bs × Bs)) : lookP k (putK kP (k, v) ps) = some (k, v) := look_put_same keyP (k, v) ps
theorem lookP_put_other {k v k' : Bs} (h : k ≠ k') (ps : List (Bs × Bs)) : lookP k' (putK kP (k, v) ps) = lookP k' ps := look_put_other (κ := kP) (x := (k, v)) (k := .string k') (by simp [kP, h]) ps

/-- A command that would do nothing. -/
def Good (K : KV) (c : Cm) : Prop := c.ck = 0 → settled K.ss c.cl c.sq ≠ none
theorem good_same {K : KV} {c : Cm} (h : Good K c) : (doF K c).1 = K := by
  unfold doF
  split
  · rfl
  · rename_i h1
    cases hq : settled K.ss c.cl c.sq with
    | some r => rfl
    | none => exact absurd hq (h (by simpa using h1))
theorem settled_put {s : Se} {ss : List Se} : settled (putK kS s ss) s.cl s.sq = some s.rp := by
  unfold settled
  rw [lookS_put_same]
  simp
theorem good_after (K : KV) (c : Cm) : Good (doF K c).1 c := by
  intro hck
  unfold doF
  rw [if_neg (by simpa using hck)]
  cases hq : settled K.ss c.cl c.sq with
  | some r => simp [hq]
  | none =>
    have := settled_put (s := ⟨c.cl, c.sq, (opK K.ps c).2⟩) (ss := K.ss)
    show settled (putK kS ⟨c.cl, c.sq, (opK K.ps c).2⟩ K.ss) c.cl c.sq ≠ none
    dsimp only at this
    rw [this]; simp
/-- The same command once more: the same reply, and nothing is done. -/
theorem twice (K : KV) (c : Cm) : doF (doF K c).1 c = ((doF K c).1, (doF K c).2) := by
  by_cases hck : c.ck = 0
  · cases hq : settled K.ss c.cl c.sq with
    | some r =>
      have e : doF K c = (K, r) := by unfold doF; rw [if_neg (by simpa using hck), hq]
      rw [e]; exact e
    | none =>
      have e : doF K c = (⟨(opK K.ps c).1, putK kS ⟨c.cl, c.sq, (opK K.ps c).2⟩ K.ss⟩, (opK K.ps c).2) := by unfold doF; rw [if_neg (by simpa using hck), hq]
      rw [e]
      have := settled_put (s := ⟨c.cl, c.sq, (opK K.ps c).2⟩) (ss := K.ss)
      dsimp only at this
      show doF ⟨(opK K.ps c).1, putK kS ⟨c.cl, c.sq, (opK K.ps c).2⟩ K.ss⟩ c = _
      unfold doF
      rw [if_neg (by simpa using hck)]
      dsimp only
      rw [this]
  · have e : ∀ K, doF K c = (K, rp0) := fun K => by unfold doF; rw [if_pos hck]
    rw [e, e]
theorem good_keeps {K : KV} {c : Cm} (h : Good K c) (hr : Ris kS K.ss) (d : Cm) : Good (doF K d).1 c := by
  intro hck
  have hg := h hck
  unfold doF
  split
  · exact hg
  · cases hq : settled K.ss d.cl d.sq with
    | some r => exact hg
    | none =>
      dsimp only
      by_cases e : d.cl = c.cl
      · unfold settled
        have := lookS_put_same ⟨d.cl, d.sq, (opK K.ps d).2⟩ K.ss
        dsimp only at this
        rw [← e, this]
        dsimp only
        rcases settled_none hq with ⟨h1, h2⟩ | ⟨s0, h1, h2⟩
        · exfalso
          apply hg
          unfold settled
          rw [← e, h1]
          dsimp only
          rw [if_neg (by omega)]
        · have hs : c.sq ≤ s0.sq := by
            unfold settled at hg
            rw [← e, h1] at hg
            dsimp only at hg
            by_cases hlt : s0.sq < c.sq
            · rw [if_pos hlt] at hg; exact absurd rfl hg
            · omega
          rw [if_neg (by omega), if_neg (by omega)]
          simp
      · unfold settled at hg ⊢
        have := lookS_put_other (s := ⟨d.cl, d.sq, (opK K.ps d).2⟩) (cl := c.cl) e K.ss
        rw [this]
        cases hl : lookS c.cl K.ss with
        | some s => rw [hl] at hg; exact hg
        | none =>
          rw [hl] at hg
          dsimp only at hg ⊢
          have hge := len_put_ge keySe ⟨d.cl, d.sq, (opK K.ps d).2⟩ (ris_neS hr)
          by_cases h32 : 32 ≤ K.ss.length
          · rw [if_pos (by omega)]; simp
          · rw [if_neg h32] at hg; exact absurd rfl hg
/-- Commands, one behind the other. -/
def runF (K : KV) (cs : List Cm) : KV := cs.foldl (fun K c => (doF K c).1) K
theorem runF_snoc (K : KV) (cs : List Cm) (c : Cm) : runF K (cs ++ [c]) = (doF (runF K cs) c).1 := by simp [runF]
theorem runF_take {cs : List Cm} {K : KV} {k : Nat} (h : k < cs.length) : runF K (cs.take (k + 1)) = (doF (runF K (cs.take k)) cs[k]).1 := by
  rw [List.take_succ_eq_append_getElem h, runF_snoc]
/-- What each got. -/
def repF : KV → List Cm → List Rp
  | _, [] => []
  | K, c :: q => (doF K c).2 :: repF (doF K c).1 q
theorem repF_snoc : ∀ (K : KV) (cs : List Cm) (c : Cm), repF K (cs ++ [c]) = repF K cs ++ [(doF (runF K cs) c).2]
  | K, [], c => rfl
  | K, d :: q, c => by simp only [List.cons_append, repF, repF_snoc (doF K d).1 q c]; rfl
theorem repF_take {cs : List Cm} {K : KV} {k : Nat} (h : k < cs.length) : repF K (cs.take (k + 1)) = repF K (cs.take k) ++ [(doF (runF K (cs.take k)) cs[k]).2] := by
  rw [List.take_succ_eq_append_getElem h, repF_snoc]
theorem repF_len : ∀ (K : KV) (cs : List Cm), (repF K cs).length = cs.length
  | _, [] => rfl
  | K, c :: q => by simp [repF, repF_len _ q]
end Go.Proofs.YtglhjgfaelfleaaGreat
