/-
  What a range over a map still has to tell.
-/
import Derived.Test.YtglhjgfaelfleaaGreatSc
import Derived.Test.YtglhjgfaelfleaaGreatLy
namespace Go.Proofs.YtglhjgfaelfleaaGreat
open Go.RowKit Go.Shelf Go.Sort

/-- What is still to come, of a range over a map. -/
def Left {α : Type} (κ : α → Lit) (xs got rest : List α) (left : Lit → Bool) : Prop := (got ++ rest).Perm xs ∧ (∀ k, left k = true ↔ ∃ x ∈ rest, κ x = k)

theorem key_inj {α : Type} {κ : α → Lit} : ∀ {xs : List α}, xs.Pairwise (fun x y => κ x ≠ κ y) → ∀ {x y : α}, x ∈ xs → y ∈ xs → κ x = κ y → x = y
  | [], _, _, _, h, _, _ => by cases h
  | z :: t, hp, x, y, hx, hy, e => by
    obtain ⟨h1, h2⟩ := List.pairwise_cons.1 hp
    rcases List.mem_cons.1 hx with rfl | hx'
    · rcases List.mem_cons.1 hy with rfl | hy'
      · rfl
      · exact absurd e (h1 y hy')
    · rcases List.mem_cons.1 hy with rfl | hy'
      · exact absurd e.symm (h1 x hx')
      · exact key_inj h2 hx' hy' e
theorem perm_out {α : Type} {κ : α → Lit} (hK : ∀ x, WideAt.IsKeyLit (κ x)) : ∀ {rest : List α}, rest.Pairwise (fun x y => κ x ≠ κ y) → ∀ {x : α}, x ∈ rest → rest.Perm (x :: rest.filter (fun y => !(κ y).sameKey (κ x)))
  | [], _, _, h => by cases h
  | z :: t, hp, x, hx => by
    obtain ⟨h1, h2⟩ := List.pairwise_cons.1 hp
    rcases List.mem_cons.1 hx with rfl | hx'
    · have e1 : t.filter (fun y => !(κ y).sameKey (κ x)) = t := List.filter_eq_self.2 (fun y hy => by
        have : (κ y).sameKey (κ x) = false := Maps.sameKey_ne (fun e => h1 y hy e.symm)
        simp [this])
      rw [List.filter_cons, WideAt.sameKey_self (hK x), e1]
      simp
    · have hz : (κ z).sameKey (κ x) = false := Maps.sameKey_ne (h1 x hx')
      rw [List.filter_cons, hz]
      simp only [Bool.not_false, if_true]
      exact ((perm_out hK h2 hx').cons z).trans (List.Perm.swap x z _)
theorem left_start {α : Type} {κ : α → Lit} (hK : ∀ x, WideAt.IsKeyLit (κ x)) (ν : α → Value) (xs : List α) : Left κ xs [] xs (Maps.has (entsL κ ν xs)) := by
  refine ⟨List.Perm.refl _, fun k => ?_⟩
  rw [has_ents]
  unfold lookK
  rw [List.find?_isSome]
  constructor
  · rintro ⟨x, hx, h⟩; exact ⟨x, hx, WideAt.sameKey_eq h⟩
  · rintro ⟨x, hx, rfl⟩; exact ⟨x, hx, WideAt.sameKey_self (hK x)⟩
theorem left_end {α : Type} {κ : α → Lit} {xs got rest : List α} {left : Lit → Bool} (h : Left κ xs got rest left) (hl : ∀ k, left k = false) : got.Perm xs := by
  have : rest = [] := by
    cases rest with
    | nil => rfl
    | cons x q =>
      have := (h.2 (κ x)).2 ⟨x, by simp, rfl⟩
      rw [hl] at this
      cases this
  have h1 := h.1
  rw [this, List.append_nil] at h1
  exact h1
theorem left_step {α : Type} {κ : α → Lit} (hK : ∀ x, WideAt.IsKeyLit (κ x)) {ν : α → Value} {xs got rest : List α} {left : Lit → Bool} (h : Left κ xs got rest left) (hne : xs.Pairwise (fun x y => κ x ≠ κ y)) {kl : Lit} (hk : left kl = true) {v : Value}
    (hv : ∀ zd, (entsL κ ν xs).atKey kl zd = .held v) : ∃ x, x ∈ xs ∧ κ x = kl ∧ v = ν x ∧ ∃ rest', Left κ xs (got ++ [x]) rest' (fun z => left z && !z.sameKey kl) := by
  obtain ⟨x, hx, rfl⟩ := (h.2 kl).1 hk
  have hxs : x ∈ xs := h.1.mem_iff.1 (List.mem_append_right _ hx)
  have hne2 : (got ++ rest).Pairwise (fun x y => κ x ≠ κ y) := (h.1.pairwise_iff (fun {_ _} h => Ne.symm h)).2 hne
  have hne3 : rest.Pairwise (fun x y => κ x ≠ κ y) := (List.pairwise_append.1 hne2).2.1
  refine ⟨x, hxs, rfl, ?_, rest.filter (fun y => !(κ y).sameKey (κ x)), ?_, fun k => ?_⟩
  · have e := hv .nil
    rw [atKey_ents] at e
    cases hq : lookK κ (κ x) xs with
    | none => rw [hq] at e; cases e
    | some y =>
      rw [hq] at e
      obtain ⟨hy1, hy2⟩ := lookK_some hq
      have hyx : y = x := key_inj hne hy1 hxs (WideAt.sameKey_eq hy2)
      injection e with e
      rw [← e, hyx]
  · refine List.Perm.trans ?_ h.1
    rw [List.append_assoc]
    exact List.Perm.append_left got (perm_out hK hne3 hx).symm
  · rw [Bool.and_eq_true, h.2]
    constructor
    · rintro ⟨⟨y, hy, rfl⟩, hkx⟩
      exact ⟨y, List.mem_filter.2 ⟨hy, by simpa using hkx⟩, rfl⟩
    · rintro ⟨y, hy, rfl⟩
      obtain ⟨h1, h2⟩ := List.mem_filter.1 hy
      exact ⟨⟨y, h1, rfl⟩, h2⟩
theorem keyP (p : Bs × Bs) : WideAt.IsKeyLit (kP p) := by simp [kP, WideAt.IsKeyLit]
theorem keySe (s : Se) : WideAt.IsKeyLit (kS s) := by simp [kS, WideAt.IsKeyLit]
theorem ris_neP {xs : List (Bs × Bs)} (h : Ris kP xs) : xs.Pairwise (fun x y => kP x ≠ kP y) := h.imp (fun {x y} hb e => by
  have hb' : bytesBefore x.1 y.1 = true := hb
  have e' : x.1 = y.1 := by simpa [kP] using e
  rw [e', WideAt.bytes_irrefl] at hb'; cases hb')
theorem ris_neS {xs : List Se} (h : Ris kS xs) : xs.Pairwise (fun x y => kS x ≠ kS y) := h.imp (fun {x y} hb e => by
  have e' : x.cl = y.cl := by simpa [kS] using e
  simp [kS, Lit.before, e'] at hb)

/-- A range's step over pairs. -/
theorem wpList_next_P {ops : Array Oper} {rest : List Oper} {o : Oper} {a : Act} {Q : Exit → Act → World → Prop} {w : World} (hg : o.guard = none) (it : Operand) (hop : o.op = Op.next it false) (b r n : Nat) (xs got rs : List (Bs × Bs)) (left : Lit → Bool) (cnt : Nat)
    (hr : Ris kP xs) (hL : Left kP xs got rs left) (hit : a.eval it = .pointer (some ⟨r, 0, none⟩)) (h : w.ranges Tryz.prog 9 rdV b r n (entsL kP pairV xs) left cnt)
    (hDone : got.Perm xs → wpList Tryz.prog ops Q rest (a.put o.dst (.tuple #[.bool false])) w)
    (hMore : ∀ (x1 x2 : Bs) (w' : World) (cnt' : Nat) (rs' : List (Bs × Bs)) (left' : Lit → Bool), (x1, x2) ∈ xs → Left kP xs (got ++ [(x1, x2)]) rs' left' → w'.ranges Tryz.prog 9 rdV b r n (entsL kP pairV xs) left' cnt' → cnt' < cnt → w.grownBy w' (some r) → w'.heap.size = w.heap.size →
      (Instr.entry (.pointer (some ⟨r, 0, none⟩))).run Tryz.prog w' = .ok (.tuple #[.string ⟨x1.toArray⟩, .agg #[.string ⟨x1.toArray⟩, .string ⟨x2.toArray⟩]]) w' → wpList Tryz.prog ops Q rest (a.put o.dst (.tuple #[.bool true, .string ⟨x1.toArray⟩, .agg #[.string ⟨x1.toArray⟩, .string ⟨x2.toArray⟩]])) w') :
    wpList Tryz.prog ops Q (o :: rest) a w := by
  refine wpList_plain hg fun K' hK' => ?_
  unfold Oper.wp
  rcases h.next lawS o.type with ⟨h0, hl, hrun⟩ | ⟨key, v, kl, y, w', cnt', hkey, hlk, hv, hat, hrun, hrg, hlt, hgr, hsz, hen⟩
  · simp [execOp, hop, hit, hrun, Result.andThen]
    exact hK' _ _ (hDone (left_end hL hl))
  · simp only [rdV, Option.some.injEq] at hv
    subst hv
    obtain ⟨x, hx, hxk, hxv, rs', hL'⟩ := left_step keyP hL (ris_neP hr) hlk hat
    have hk2 : key = .string ⟨x.1.toArray⟩ := by
      subst hxk
      cases key <;> simp [keyOf, Tryz.underlying9, mapKey] at hkey
      rename_i s
      obtain ⟨_, h2⟩ := hkey
      have : s.data.toList = x.1 := by simpa [kP] using h2
      rw [← this]
    rw [hk2, hxv] at hrun hen
    simp [execOp, hop, hit, hrun, Result.andThen]
    exact hK' _ _ (hMore x.1 x.2 w' cnt' rs' _ hx hL' hrg hlt hgr hsz hen)
theorem wpList_next_S {ops : Array Oper} {rest : List Oper} {o : Oper} {a : Act} {Q : Exit → Act → World → Prop} {w : World} (hg : o.guard = none) (it : Operand) (hop : o.op = Op.next it false) (b r n : Nat) (xs got rs : List Se) (left : Lit → Bool) (cnt : Nat)
    (hr : Ris kS xs) (hL : Left kS xs got rs left) (hit : a.eval it = .pointer (some ⟨r, 0, none⟩)) (h : w.ranges Tryz.prog 3 rdV b r n (entsL kS Se.v xs) left cnt)
    (hDone : got.Perm xs → wpList Tryz.prog ops Q rest (a.put o.dst (.tuple #[.bool false])) w)
    (hMore : ∀ (x : Se) (w' : World) (cnt' : Nat) (rs' : List Se) (left' : Lit → Bool), x ∈ xs → Left kS xs (got ++ [x]) rs' left' → w'.ranges Tryz.prog 3 rdV b r n (entsL kS Se.v xs) left' cnt' → cnt' < cnt → w.grownBy w' (some r) → w'.heap.size = w.heap.size →
      (Instr.entry (.pointer (some ⟨r, 0, none⟩))).run Tryz.prog w' = .ok (.tuple #[.int .i64 x.cl, .agg #[.int .i64 x.cl, .int .i64 x.sq, .int .i64 x.rp.code, .string ⟨x.rp.val.toArray⟩]]) w' → wpList Tryz.prog ops Q rest (a.put o.dst (.tuple #[.bool true, .int .i64 x.cl, .agg #[.int .i64 x.cl, .int .i64 x.sq, .int .i64 x.rp.code, .string ⟨x.rp.val.toArray⟩]])) w') :
    wpList Tryz.prog ops Q (o :: rest) a w := by
  refine wpList_plain hg fun K' hK' => ?_
  unfold Oper.wp
  rcases h.next lawI o.type with ⟨h0, hl, hrun⟩ | ⟨key, v, kl, y, w', cnt', hkey, hlk, hv, hat, hrun, hrg, hlt, hgr, hsz, hen⟩
  · simp [execOp, hop, hit, hrun, Result.andThen]
    exact hK' _ _ (hDone (left_end hL hl))
  · simp only [rdV, Option.some.injEq] at hv
    subst hv
    obtain ⟨x, hx, hxk, hxv, rs', hL'⟩ := left_step keySe hL (ris_neS hr) hlk hat
    have hk2 : key = .int .i64 x.cl := by
      subst hxk
      obtain ⟨n, e1, e2, _⟩ := Maps.keyOf_int_inv Tryz.underlying3 hkey
      have : x.cl = n := by simpa [kS] using e2
      rw [e1, this]
    rw [hk2, hxv] at hrun hen
    simp [execOp, hop, hit, hrun, Result.andThen]
    exact hK' _ _ (hMore x w' cnt' rs' _ hx hL' hrg hlt hgr hsz hen)
end Go.Proofs.YtglhjgfaelfleaaGreat
