/-
  Writers beside other memory; a store's bytes.
-/
import Derived.Test.YtglhjgfaelfleaaGreatEa
namespace Go.Proofs.YtglhjgfaelfleaaGreat
open Go.RowKit Go.Shelf
set_option linter.unusedVariables false

/-- What a writer leaves alone: all but writers and bytes. -/
def KeepW (w w' : World) : Prop := w.heap.size ≤ w'.heap.size ∧ ∀ (i : Nat) (o : Obj), w.heap[i]? = some o → (∀ c z, o ≠ .cells c 135 z) → (∀ c z, o ≠ .cells c 5 z) → w'.heap[i]? = some o
theorem KeepW.trans {A B C : World} (h : KeepW A B) (k : KeepW B C) : KeepW A C := ⟨Nat.le_trans h.1 k.1, fun i o hi h1 h2 => k.2 i o (h.2 i o hi h1 h2) h1 h2⟩
theorem KeepW.refl (A : World) : KeepW A A := ⟨Nat.le_refl _, fun _ _ h _ _ => h⟩
theorem KeepW.below {W W' : World} (h : Below W.heap.size W W') : KeepW W W' := ⟨h.size, fun i o hi _ _ => (h.block i (Array.getElem?_eq_some_iff.1 hi).1).trans hi⟩
theorem keep_of_tn {t : TypeId} {N B : Nat} {v : Value} {l : List UInt8} {e : Nat} {w w' : World} (h : Wtr 135 N w B v l e) (hT : Tn w w' B v) : KeepW w w' := by
  refine ⟨hT.size, fun i o hi h1 h2 => (hT.block i (Array.getElem?_eq_some_iff.1 hi).1 (fun e => ?_) (fun e => ?_)).trans hi⟩
  · subst e; rw [h.at0] at hi; cases hi; exact h1 _ _ rfl
  · rcases h.ow.2 with ⟨rfl, _⟩ | ⟨g, cap, cur, rfl, _, hb, _⟩
    · simp [Value.ownBlock] at e
    · obtain rfl : g = i := by simpa [Value.ownBlock] using e
      rw [hb] at hi; cases hi; exact h2 _ _ rfl
theorem KeepW.p {W W' : World} (h : KeepW W W') : KeepP W W' := ⟨h.1, fun i c z hi => h.2 i _ hi (by simp) (by simp)⟩
theorem KeepW.from {W W' : World} (h : KeepW W W') (B : Nat) : KeepsFrom B W W' := ⟨h.1, fun k o _ hk ho => h.2 k o hk (fun c z e => by subst e; cases ho) (fun c z e => by subst e; cases ho)⟩
theorem Boxed.keepW {W W' : World} {B : Nat} {t : TypeId} {v : Value} (h : Boxed W B t v) (hk : KeepW W W') (h1 : t ≠ 135) (h2 : t ≠ 5) : Boxed W' B t v := hk.2 B _ h (by simp [h1]) (by simp [h2])
theorem Ro.keepW {α : Type} {R : RK α} {N : Nat} {W W' : World} {v : Value} {xs : List α} (h : Ro R N W v xs) (hk : KeepW W W') (h1 : R.E ≠ 135) (h2 : R.E ≠ 5) : Ro R N W' v xs := by
  refine ⟨h.1, ?_⟩
  rcases h.2 with h3 | ⟨g, cap, cur, rfl, hg, hb, r⟩
  · exact .inl h3
  · exact .inr ⟨g, cap, cur, rfl, hg, hk.2 g _ hb (by simp [h1]) (by simp [h2]), r⟩

theorem Wr.mono {w0 w w' : World} {l : List UInt8} (h : Wr w0 w l) (hB : Below w.heap.size w w') : Wr w0 w' l := by
  obtain ⟨⟨v, hW⟩, hb⟩ := h
  exact ⟨⟨v, hW.below hB (Nat.le_refl _)⟩, hb.trans (hB.mono hb.size)⟩
theorem wkInt_any (n : Int) {w0 w : World} {l : List UInt8} (h : Wr w0 w l) (hl : l.length ≤ 1073741824) (hn : isNumB n = true) :
    Calls Tryz.prog 60 #[.pointer (some ⟨w0.heap.size, 0, none⟩), .int .i64 n] w fun r w' => r = .returned (.tuple #[]) ∧ Wr w0 w' (l ++ numB n.toNat) ∧ KeepW w w' := by
  obtain ⟨⟨v, hW⟩, hB⟩ := h
  refine (wwInt_any _ _ v l 0 n w hW hl).mono ?_
  rintro r w' ⟨rfl, v', hW', hT, -⟩
  rw [wInt_ok l n hn] at hW'
  exact ⟨rfl, ⟨⟨v', hW'⟩, Tn.bel hW hB hT⟩, keep_of_tn (t := 0) hW hT⟩
theorem wkText_any (most : Int) {w0 w : World} {l m : List UInt8} (h : Wr w0 w l) (hl : l.length ≤ 1073741824) (hm : m.length ≤ 1073741824) (hmost : (m.length : Int) ≤ most) :
    Calls Tryz.prog 61 #[.pointer (some ⟨w0.heap.size, 0, none⟩), .string ⟨m.toArray⟩, .int .i64 most] w fun r w' => r = .returned (.tuple #[]) ∧ Wr w0 w' (l ++ (numB m.length ++ m)) ∧ KeepW w w' := by
  obtain ⟨⟨v, hW⟩, hB⟩ := h
  refine (wwText_any _ _ v l m 0 most w hW hl hm).mono ?_
  rintro r w' ⟨rfl, v', hW', hT, -⟩
  rw [wBytes_ok l m most hmost] at hW'
  exact ⟨rfl, ⟨⟨v', hW'⟩, Tn.bel hW hB hT⟩, keep_of_tn (t := 0) hW hT⟩
theorem wkDone_any {w0 w : World} {l : List UInt8} (h : Wr w0 w l) (hl : l.length ≤ 1073741824) :
    Calls Tryz.prog 62 #[.pointer (some ⟨w0.heap.size, 0, none⟩)] w fun r w' => ∃ a c, r = .returned (.tuple #[.slice a l.length c, .int .i64 0]) ∧ Ow w0.heap.size w' (.slice a l.length c) l ∧ Below w.heap.size w w' := by
  obtain ⟨⟨v, hW⟩, hB⟩ := h
  have hz := hB.size
  refine (wwDone_any _ _ v l 0 w hW hl).mono ?_
  rintro r w' ⟨u, rfl, hO, hB'⟩
  obtain ⟨a, c, rfl, -⟩ := hO.shape
  exact ⟨a, c, rfl, hO.base hz, hB'⟩

/-- A pair's bytes, a session's, a store's. -/
def txP (p : Bs × Bs) : Bs := (numB p.1.length ++ p.1) ++ (numB p.2.length ++ p.2)
def txS (s : Se) : Bs := numB s.cl.toNat ++ (numB s.sq.toNat ++ (numB s.rp.code.toNat ++ (numB s.rp.val.length ++ s.rp.val)))
def snapB (K : KV) : Bs := numB K.ps.length ++ K.ps.flatMap txP ++ numB K.ss.length ++ K.ss.flatMap txS
theorem numB_le (n : Nat) : (numB n).length ≤ 10 := num_len_le 9 n
theorem txP_len {p : Bs × Bs} (h : PrOk p) : (txP p).length ≤ 1200 := by
  have := h.key.2; have := h.val; have := numB_le p.1.length; have := numB_le p.2.length
  simp [txP]; omega
theorem txS_len {s : Se} (h : SeOk s) : (txS s).length ≤ 1200 := by
  have := h.val; have := numB_le s.cl.toNat; have := numB_le s.sq.toNat; have := numB_le s.rp.code.toNat; have := numB_le s.rp.val.length
  simp [txS]; omega
theorem flat_le {α : Type} (f : α → Bs) (m : Nat) : ∀ (xs : List α), (∀ x ∈ xs, (f x).length ≤ m) → (xs.flatMap f).length ≤ xs.length * m
  | [], _ => by simp
  | x :: q, h => by
    have h1 := h x (by simp)
    have h2 := flat_le f m q (fun y hy => h y (by simp [hy]))
    rw [List.flatMap_cons, List.length_append, List.length_cons, Nat.add_mul, Nat.one_mul]
    omega
theorem isNumB_of {n : Int} (h : 0 ≤ n ∧ n ≤ 4611686018427387904) : isNumB n = true := by simp [isNumB]; omega
theorem snapB_len {K : KV} (h : K.Ok) : (snapB K).length ≤ 300000 := by
  have h1 := flat_le txP 1200 K.ps (fun p hp => txP_len (h.pr p hp))
  have h2 := flat_le txS 1200 K.ss (fun s hs => txS_len (h.se s hs))
  have h3 := h.few; have h4 := h.fewS; have := numB_le K.ps.length; have := numB_le K.ss.length
  simp only [snapB, List.length_append]; omega
end Go.Proofs.YtglhjgfaelfleaaGreat
