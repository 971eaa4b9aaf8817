/-
  Commands of unlike clients on unlike keys change places.
-/
import Derived.Test.YtglhjgfaelfleabPq
namespace Go.Proofs.Ytglhjgfaelfleab
open Go.RowKit
set_option linter.unusedVariables false

section
variable {α : Type} {κ : α → Lit}
/-- Two rising lists of the same. -/
theorem ris_same : ∀ {xs ys : List α}, Ris κ xs → Ris κ ys → (∀ x, x ∈ xs ↔ x ∈ ys) → xs = ys
  | [], [], _, _, _ => rfl
  | [], y :: r, _, _, h => by have := (h y).2 (by simp); simp at this
  | x :: q, [], _, _, h => by have := (h x).1 (by simp); simp at this
  | x :: q, y :: r, hx, hy, h => by
    obtain ⟨h1, h2⟩ := List.pairwise_cons.1 hx
    obtain ⟨k1, k2⟩ := List.pairwise_cons.1 hy
    have irr : ∀ a : α, ¬ (κ a).before (κ a) = true := fun a e => by rw [WideShapes.before_irrefl] at e; cases e
    have e : x = y := by
      rcases List.mem_cons.1 ((h x).1 (by simp)) with e | e
      · exact e
      · rcases List.mem_cons.1 ((h y).2 (by simp)) with e' | e'
        · exact e'.symm
        · exact absurd (WideShapes.before_trans (h1 y e') (k1 x e)) (irr x)
    subst e
    have : q = r := ris_same h2 k2 (fun z => by
      constructor
      · intro hz
        rcases List.mem_cons.1 ((h z).1 (by simp [hz])) with e | e
        · subst e; exact absurd (h1 z hz) (irr z)
        · exact e
      · intro hz
        rcases List.mem_cons.1 ((h z).2 (by simp [hz])) with e | e
        · subst e; exact absurd (k1 z hz) (irr z)
        · exact e)
    rw [this]
theorem ris_ne' {xs : List α} (h : Ris κ xs) : xs.Pairwise (fun x y => κ x ≠ κ y) := h.imp (fun {x y} hb e => by
  rw [e, WideShapes.before_irrefl] at hb; cases hb)
theorem mem_look (hK : ∀ x, WideAt.IsKeyLit (κ x)) {xs : List α} (h : Ris κ xs) (x : α) : x ∈ xs ↔ lookK κ (κ x) xs = some x := by
  constructor
  · intro hx
    cases hq : lookK κ (κ x) xs with
    | none =>
      have := lookK_none hq x hx
      rw [WideAt.sameKey_self (hK x)] at this
      cases this
    | some y =>
      obtain ⟨h1, h2⟩ := lookK_some hq
      rw [key_inj (ris_ne' h) h1 hx (WideAt.sameKey_eq h2)]
  · intro hx; exact (lookK_some hx).1
theorem ris_look (hK : ∀ x, WideAt.IsKeyLit (κ x)) {xs ys : List α} (hx : Ris κ xs) (hy : Ris κ ys) (h : ∀ x, lookK κ (κ x) xs = lookK κ (κ x) ys) : xs = ys :=
  ris_same hx hy (fun x => by rw [mem_look hK hx, mem_look hK hy, h x])
theorem look_del_same (k : Lit) (xs : List α) : lookK κ k (delK κ k xs) = none := by
  unfold lookK delK
  rw [List.find?_eq_none]
  intro x hx
  simpa using (List.mem_filter.1 hx).2
end

/-- What may be done to the keys. -/
inductive Upd where
  | no
  | put (v : Bs)
  | del
def Upd.ap (k : Bs) : Upd → List (Bs × Bs) → List (Bs × Bs)
  | .no, ps => ps
  | .put v, ps => putK kP (k, v) ps
  | .del, ps => delK kP (.string k) ps
def Upd.get (k : Bs) : Upd → Option (Bs × Bs) → Option (Bs × Bs)
  | .no, o => o
  | .put v, _ => some (k, v)
  | .del, _ => none
theorem Upd.look (k k' : Bs) (u : Upd) (ps : List (Bs × Bs)) : lookP k' (u.ap k ps) = if k' = k then u.get k (lookP k ps) else lookP k' ps := by
  by_cases e : k' = k
  · subst e
    rw [if_pos rfl]
    cases u with
    | no => rfl
    | put v => exact lookP_put_same k' v ps
    | del => exact look_del_same _ ps
  · rw [if_neg e]
    cases u with
    | no => rfl
    | put v => exact lookP_put_other (fun h => e h.symm) ps
    | del => exact look_del_other (by simpa using fun h => e h.symm) ps
theorem Upd.len (k : Bs) (u : Upd) (ps : List (Bs × Bs)) : (u.ap k ps).length ≤ ps.length + 1 := by
  cases u with
  | no => exact Nat.le_succ _
  | put v => show (putK kP _ _).length ≤ _; unfold putK; rw [len_insK]; have := len_delK (κ := kP) (kP (k, v)) ps; omega
  | del => have := len_delK (κ := kP) (.string k) ps; show (delK kP _ _).length ≤ _; omega
/-- An operation hangs on its key alone, as long as there is room. -/
theorem opK_own (c : Cm) (o : Option (Bs × Bs)) : ∃ (u : Upd) (r : Rp), ∀ ps : List (Bs × Bs), ps.length < 128 → lookP c.key ps = o → opK ps c = (u.ap c.key ps, r) := by
  by_cases h2 : c.op = 2
  · refine ⟨.put c.val, ⟨1, []⟩, fun ps hl ho => ?_⟩
    unfold opK
    rw [if_pos h2, ho]
    cases o with
    | none => dsimp only; rw [if_neg (by omega)]; rfl
    | some p => rfl
  · by_cases h3 : c.op = 3
    · cases o with
      | none => exact ⟨.no, ⟨2, []⟩, fun ps hl ho => by unfold opK; rw [if_neg h2, if_pos h3, ho]; rfl⟩
      | some p => exact ⟨.del, ⟨1, []⟩, fun ps hl ho => by unfold opK; rw [if_neg h2, if_pos h3, ho]; rfl⟩
    · cases o with
      | none => exact ⟨.no, ⟨2, []⟩, fun ps hl ho => by unfold opK; rw [if_neg h2, if_neg h3, ho]; rfl⟩
      | some p =>
        by_cases hp : p.2 = c.old
        · exact ⟨.put c.val, ⟨1, []⟩, fun ps hl ho => by unfold opK; rw [if_neg h2, if_neg h3, ho]; dsimp only; rw [if_pos hp]; rfl⟩
        · exact ⟨.no, ⟨3, p.2⟩, fun ps hl ho => by unfold opK; rw [if_neg h2, if_neg h3, ho]; dsimp only; rw [if_neg hp]; rfl⟩
theorem settled_own {ss ss' : List Se} {cl sq : Int} (h1 : ss.length < 32) (h2 : ss'.length < 32) (h : lookS cl ss = lookS cl ss') : settled ss cl sq = settled ss' cl sq := by
  unfold settled
  rw [h]
  cases lookS cl ss' with
  | none => dsimp only; rw [if_neg (by omega), if_neg (by omega)]
  | some s => rfl
/-- What a command does, by its own key and its own session alone. -/
theorem doF_own (c : Cm) (o : Option (Bs × Bs)) (t : Option Se) : ∃ (u : Upd) (n : Option Se) (r : Rp), (∀ s, n = some s → s.cl = c.cl) ∧ ∀ K : KV, K.ps.length < 128 → K.ss.length < 32 → lookP c.key K.ps = o → lookS c.cl K.ss = t → doF K c = (⟨u.ap c.key K.ps, match n with | none => K.ss | some s => putK kS s K.ss⟩, r) := by
  by_cases hck : c.ck = 0
  · obtain ⟨u, r, hu⟩ := opK_own c o
    by_cases hs : (match t with | none => true | some s => decide (s.sq < c.sq)) = true
    · refine ⟨u, some ⟨c.cl, c.sq, r⟩, r, (fun s e => by cases e; rfl), fun K h1 h2 h3 h4 => ?_⟩
      have hse : settled K.ss c.cl c.sq = none := by
        unfold settled
        rw [h4]
        cases t with
        | none => dsimp only; rw [if_neg (by omega)]
        | some s => dsimp only at hs ⊢; rw [if_pos (by simpa using hs)]
      unfold doF
      rw [if_neg (by simpa using hck), hse]
      dsimp only
      rw [hu K.ps h1 h3]
    · cases t with
      | none => exact absurd rfl hs
      | some s =>
        refine ⟨.no, none, if c.sq = s.sq then s.rp else ⟨4, []⟩, (fun s e => by cases e), fun K h1 h2 h3 h4 => ?_⟩
        have hse : settled K.ss c.cl c.sq = some (if c.sq = s.sq then s.rp else ⟨4, []⟩) := by
          unfold settled
          rw [h4]
          dsimp only at hs ⊢
          rw [if_neg (by simpa using hs)]
          split <;> rfl
        unfold doF
        rw [if_neg (by simpa using hck), hse]
        rfl
  · refine ⟨.no, none, rp0, (fun s e => by cases e), fun K _ _ _ _ => ?_⟩
    unfold doF
    rw [if_pos hck]
    rfl

def putO (n : Option Se) (ss : List Se) : List Se := match n with | none => ss | some s => putK kS s ss
theorem putO_len (n : Option Se) (ss : List Se) : (putO n ss).length ≤ ss.length + 1 := by
  cases n with
  | none => exact Nat.le_succ _
  | some s => show (putK kS _ _).length ≤ _; unfold putK; rw [len_insK]; have := len_delK (κ := kS) (kS s) ss; omega
theorem putO_look {n : Option Se} {cl : Int} (hn : ∀ s, n = some s → s.cl = cl) (cl' : Int) (ss : List Se) : lookS cl' (putO n ss) = if cl' = cl then (match n with | none => lookS cl ss | some s => some s) else lookS cl' ss := by
  cases n with
  | none => unfold putO; dsimp only; split <;> simp_all
  | some s =>
    obtain rfl := hn s rfl
    by_cases e : cl' = s.cl
    · subst e; rw [if_pos rfl]; exact lookS_put_same s ss
    · rw [if_neg e]; exact lookS_put_other (fun h => e h.symm) ss

/-- Either order. -/
theorem commute {K : KV} {a b : Cm} (hc : a.cl ≠ b.cl) (hk : a.key ≠ b.key) (hp : K.ps.length ≤ 126) (hs : K.ss.length ≤ 30)
    (r1 : Ris kP (runF K [a, b]).ps) (r2 : Ris kS (runF K [a, b]).ss) (r3 : Ris kP (runF K [b, a]).ps) (r4 : Ris kS (runF K [b, a]).ss) :
    runF K [a, b] = runF K [b, a] ∧ ∃ x y, repF K [a, b] = [x, y] ∧ repF K [b, a] = [y, x] := by
  obtain ⟨u, n, r, hn, ha⟩ := doF_own a (lookP a.key K.ps) (lookS a.cl K.ss)
  obtain ⟨u', n', r', hn', hb⟩ := doF_own b (lookP b.key K.ps) (lookS b.cl K.ss)
  have a1 : doF K a = (⟨u.ap a.key K.ps, putO n K.ss⟩, r) := ha K (by omega) (by omega) rfl rfl
  have b1 : doF K b = (⟨u'.ap b.key K.ps, putO n' K.ss⟩, r') := hb K (by omega) (by omega) rfl rfl
  have b2 : doF ⟨u.ap a.key K.ps, putO n K.ss⟩ b = (⟨u'.ap b.key (u.ap a.key K.ps), putO n' (putO n K.ss)⟩, r') := by
    refine hb _ ?_ ?_ ?_ ?_
    · have := u.len a.key K.ps; show (u.ap a.key K.ps).length < _; omega
    · have := putO_len n K.ss; show (putO n K.ss).length < _; omega
    · show lookP b.key (u.ap a.key K.ps) = _
      rw [Upd.look, if_neg (fun e => hk e.symm)]
    · show lookS b.cl (putO n K.ss) = _
      rw [putO_look hn, if_neg (fun e => hc e.symm)]
  have a2 : doF ⟨u'.ap b.key K.ps, putO n' K.ss⟩ a = (⟨u.ap a.key (u'.ap b.key K.ps), putO n (putO n' K.ss)⟩, r) := by
    refine ha _ ?_ ?_ ?_ ?_
    · have := u'.len b.key K.ps; show (u'.ap b.key K.ps).length < _; omega
    · have := putO_len n' K.ss; show (putO n' K.ss).length < _; omega
    · show lookP a.key (u'.ap b.key K.ps) = _
      rw [Upd.look, if_neg hk]
    · show lookS a.cl (putO n' K.ss) = _
      rw [putO_look hn', if_neg hc]
  have e1 : runF K [a, b] = ⟨u'.ap b.key (u.ap a.key K.ps), putO n' (putO n K.ss)⟩ := by
    show (doF (doF K a).1 b).1 = _
    rw [a1]; dsimp only; rw [b2]
  have e2 : runF K [b, a] = ⟨u.ap a.key (u'.ap b.key K.ps), putO n (putO n' K.ss)⟩ := by
    show (doF (doF K b).1 a).1 = _
    rw [b1]; dsimp only; rw [a2]
  have f1 : repF K [a, b] = [r, r'] := by
    show [(doF K a).2, (doF (doF K a).1 b).2] = _
    rw [a1]; dsimp only; rw [b2]
  have f2 : repF K [b, a] = [r', r] := by
    show [(doF K b).2, (doF (doF K b).1 a).2] = _
    rw [b1]; dsimp only; rw [a2]
  refine ⟨?_, r, r', f1, f2⟩
  rw [e1] at r1 r2
  rw [e2] at r3 r4
  dsimp only at r1 r2 r3 r4
  rw [e1, e2]
  have g1 : u'.ap b.key (u.ap a.key K.ps) = u.ap a.key (u'.ap b.key K.ps) := ris_look keyP r1 r3 (fun x => by
    show lookP x.1 _ = lookP x.1 _
    rw [Upd.look, Upd.look, Upd.look, Upd.look, Upd.look, Upd.look]
    by_cases h1 : x.1 = b.key
    · have h2 : ¬ x.1 = a.key := fun e => hk (e.symm.trans h1)
      have h3 : ¬ b.key = a.key := fun e => hk e.symm
      rw [if_pos h1, if_neg h2, if_neg h3, if_pos h1]
    · rw [if_neg h1]
      by_cases h2 : x.1 = a.key
      · rw [if_pos h2, if_pos h2, if_neg hk]
      · rw [if_neg h2, if_neg h2, if_neg h1])
  have g2 : putO n' (putO n K.ss) = putO n (putO n' K.ss) := ris_look keySe r2 r4 (fun x => by
    show lookS x.cl _ = lookS x.cl _
    rw [putO_look hn', putO_look hn, putO_look hn, putO_look hn, putO_look hn', putO_look hn']
    by_cases h1 : x.cl = b.cl
    · have h2 : ¬ x.cl = a.cl := fun e => hc (e.symm.trans h1)
      have h3 : ¬ b.cl = a.cl := fun e => hc e.symm
      rw [if_pos h1, if_neg h2, if_neg h3, if_pos h1]
    · rw [if_neg h1]
      by_cases h2 : x.cl = a.cl
      · rw [if_pos h2, if_pos h2, if_neg hc]
      · rw [if_neg h2, if_neg h2, if_neg h1])
  rw [g1, g2]
end Go.Proofs.Ytglhjgfaelfleab
