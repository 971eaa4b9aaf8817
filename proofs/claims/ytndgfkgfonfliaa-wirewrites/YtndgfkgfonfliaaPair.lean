/-
  The writer and the document's own, side by side; done returns true of them.
-/
import Derived.Test.YtndgfkgfonfliaaRwr
import Derived.Test.YtndgfkgfonfliaaSt
import Derived.Test.YtndgfkgfonfliaaAsked
namespace Go.Proofs.Ytndgfkgfonfliaa
open Go.RowKit Go.Shelf

/-- The same error; none: the same bytes; one: none. -/
def Rl (s t : List UInt8 × Nat) : Prop := s.2 = t.2 ∧ (s.2 = 0 → s.1 = t.1) ∧ (s.2 ≠ 0 → s.1 = [])

theorem Rl.int {s t : List UInt8 × Nat} (h : Rl s t) (n : Int) : Rl (wInt s.1 s.2 n) (vInt t.1 t.2 n) := by
  obtain ⟨l, e⟩ := s
  obtain ⟨l2, e2⟩ := t
  obtain ⟨h1, h2, h3⟩ := h
  simp only at h1 h2 h3
  subst h1
  by_cases he : e = 0
  · subst he
    obtain rfl := h2 rfl
    by_cases hN : isNumB n = true
    · simp [Rl, wInt, vInt, putB, putN, hN]
    · simp [Rl, wInt, vInt, putB, putN, hN]
  · have := h3 he
    simp [Rl, wInt, vInt, he, this]

theorem Rl.bytes {s t : List UInt8 × Nat} (h : Rl s t) (m : List UInt8) (most : Int) : Rl (wBytes s.1 s.2 m most) (vBytes t.1 t.2 m most) := by
  obtain ⟨l, e⟩ := s
  obtain ⟨l2, e2⟩ := t
  obtain ⟨h1, h2, h3⟩ := h
  simp only at h1 h2 h3
  subst h1
  by_cases he : e = 0
  · subst he
    obtain rfl := h2 rfl
    by_cases hN : max most 0 < (m.length : Int)
    · simp only [Rl, wBytes, vBytes, if_pos hN]; simp
    · simp only [Rl, wBytes, vBytes, if_neg hN]; simp
  · have := h3 he
    simp [Rl, wBytes, vBytes, he, this]

theorem vInt_le (l : List UInt8) (e : Nat) (n : Int) : (vInt l e n).1.length ≤ l.length + 10 := by
  have := putB_len n
  unfold vInt
  split
  · simp
  · simp; omega

theorem vBytes_le (l : List UInt8) (e : Nat) (m : List UInt8) (most : Int) : (vBytes l e m most).1.length ≤ l.length + 10 + m.length := by
  have := num_len_le 9 m.length
  unfold vBytes
  split
  · simp; omega
  · split
    · simp; omega
    · simp [numB]; omega

/-- Both writers, apart from one another. -/
structure Wp (N B C : Nat) (w : World) (v u : Value) (s t : List UInt8 × Nat) : Prop where
  a : Wtr 79 N w B v s.1 s.2
  b : Wtr 47 N w C u t.1 t.2
  vu : ∀ k, v.ownBlock = some k → u.ownBlock ≠ some k
  rl : Rl s t

theorem Wp.ne {N B C : Nat} {w : World} {v u : Value} {s t : List UInt8 × Nat} (h : Wp N B C w v u s t) : B ≠ C := by
  have h1 := h.a.at0
  have h2 := h.b.at0
  intro e; subst e
  rw [h1] at h2; simp at h2

theorem Wp.below {N B C : Nat} {w w' : World} {v u : Value} {s t : List UInt8 × Nat} (h : Wp N B C w v u s t) (hB : Below w.heap.size w w') : Wp N B C w' v u s t :=
  ⟨h.a.below hB (Nat.le_refl _), h.b.below hB (Nat.le_refl _), h.vu, h.rl⟩

theorem Wp.mid {N B C : Nat} {w w1 : World} {v u : Value} {s t : List UInt8 × Nat} (h : Wp N B C w v u s t) (T : Tn w w1 B v) : Wtr 47 N w1 C u t.1 t.2 :=
  h.b.kept T h.ne.symm (h.a.ow.not_at h.b.at0 (by decide)) (h.b.ow.not_at h.a.at0 (by decide)) (fun k hk e => h.vu k e hk)

/-- A call of the one, then of the other. -/
theorem Wp.two {N B C : Nat} {w w1 w2 : World} {v u v1 u2 : Value} {s t s1 t2 : List UInt8 × Nat} (h : Wp N B C w v u s t) (h1 : Wtr 79 N w1 B v1 s1.1 s1.2) (T1 : Tn w w1 B v) (S1 : Son w v v1)
    (h2 : Wtr 47 N w2 C u2 t2.1 t2.2) (T2 : Tn w1 w2 C u) (S2 : Son w1 u u2) (hr : Rl s1 t2) : Wp N B C w2 v1 u2 s1 t2 ∧ Below N w w2 := by
  have hm := h.mid T1
  have hlu : ∀ k, u.ownBlock = some k → k < w.heap.size := fun k hk => (World.ownsRow.lt h.b.ow k hk).2
  have hlv : ∀ k, v1.ownBlock = some k → k < w1.heap.size := fun k hk => (World.ownsRow.lt h1.ow k hk).2
  have d1 : ∀ k, v1.ownBlock = some k → u.ownBlock ≠ some k := fun k hk e => by
    rcases S1 with s | s | ⟨j, s, hj⟩
    · rw [s] at hk; cases hk
    · exact h.vu k (s ▸ hk) e
    · rw [s] at hk; cases hk; have := hlu _ e; omega
  have d2 : ∀ k, v1.ownBlock = some k → u2.ownBlock ≠ some k := fun k hk e => by
    rcases S2 with s | s | ⟨j, s, hj⟩
    · rw [s] at e; cases e
    · exact d1 k hk (s ▸ e)
    · rw [s] at e; cases e; have := hlv _ hk; omega
  refine ⟨⟨h1.kept T2 h.ne (hm.ow.not_at h1.at0 (by decide)) (h1.ow.not_at hm.at0 (by decide)) d1, h2, d2, hr⟩, ?_⟩
  exact (T1.below h.a (Nat.le_refl _)).trans (T2.below hm (Nat.le_refl _))

set_option maxRecDepth 100000 in
set_option maxHeartbeats 4000000 in
theorem done_any (N B C : Nat) (v u : Value) (s t : List UInt8 × Nat) (w : World) (h : Wp N B C w v u s t) (hl : s.1.length ≤ 1000000) :
    Calls Try.prog 31 #[.pointer (some ⟨B, 0, none⟩), .pointer (some ⟨C, 0, none⟩)] w fun r w' => r = .returned (.bool true) ∧ Below w.heap.size w w' := by
  obtain ⟨l, e⟩ := s
  obtain ⟨l2, e2⟩ := t
  obtain ⟨ha, hb, -, h1, h2, h3⟩ := h
  simp only at ha hb h1 h2 h3 hl
  subst h1
  have hl' : (if e = 0 then l2 else []) = l := by
    by_cases he : e = 0
    · rw [if_pos he]; exact (h2 he).symm
    · rw [if_neg he]; exact (h3 he).symm
  clear h2 h3
  have cB := fun w1 (hb : Wtr 47 N w1 C u l2 e) => vvDone_any N C u l2 e w1 hb
  rw [hl'] at cB
  have CB : Hid (∀ w1, Wtr 47 N w1 C u l2 e → Calls Try.prog 51 #[.pointer (some ⟨C, 0, none⟩)] w1 fun r w' => ∃ u, r = .returned (.tuple #[u, .int .i64 (e : Int)]) ∧ Sl w'.heap.size w' u l ∧ ∃ n, w' = w1.drewN n) := cB
  clear cB hl'
  go_enter Try.func31, Try.ntmps31
  go_wp2_with fail
  refine (wwDone_any N B v l e w ha (by omega)).mono ?_
  rintro r w1 ⟨x, rfl, hO1, hB1⟩
  obtain ⟨bx, cx, rfl, -, hcx⟩ := hO1.shape
  have hb1 := hb.below hB1 (Nat.le_refl _)
  clear ha hb
  go_wp2_with fail
  refine Calls.mono (CB.out _ hb1) ?_
  rintro r w2 ⟨y, rfl, hs2, n2, rfl⟩
  obtain ⟨ay, cy, rfl, -⟩ := id hs2
  have hO2 : Ow w.heap.size (w1.drewN n2) (.slice bx l.length cx) l := hO1.kept (grown_drewN w1 n2) (by cases bx <;> simp [Value.ownBlock])
  have hB2 : Below w.heap.size w (w1.drewN n2) := hB1.trans ⟨rfl, rfl, rfl, Nat.le_refl _, fun _ _ => rfl⟩
  obtain ⟨W2, hW2⟩ : ∃ W2, w1.drewN n2 = W2 := ⟨_, rfl⟩
  rw [hW2] at hO2 hB2 hs2 ⊢
  clear hW2 hO1 hB1 hb1 CB
  go_wp2_with fail
  refine (same_any _ _ _ l l _ (hO2.sl (Nat.le_refl _)) hs2).mono ?_
  rintro r w3 ⟨rfl, n3, rfl⟩
  simp only [decide_true]
  have hO3 : Ow w.heap.size (W2.drewN n3) (.slice bx l.length cx) l := hO2.kept (grown_drewN W2 n3) (by cases bx <;> simp [Value.ownBlock])
  have hB3 : Below w.heap.size w (W2.drewN n3) := hB2.trans ⟨rfl, rfl, rfl, Nat.le_refl _, fun _ _ => rfl⟩
  obtain ⟨W4, hW4⟩ : ∃ W4, W2.drewN n3 = W4 := ⟨_, rfl⟩
  rw [hW4] at hO3 hB3 ⊢
  clear hW4 hO2 hB2 hs2
  unfold maxLen at hcx
  go_wp2_with fail
  go_loopw [10] (fun i wr => ∃ (k : Nat) (T' : List UInt8), i = .int .i64 (k : Int) ∧ k ≤ l.length ∧ T'.length = l.length ∧ Ow w.heap.size wr (.slice bx T'.length cx) T' ∧ Below w.heap.size w wr) (fun i _ => l.length - (intOf i).toNat)
  case atStart => exact ⟨0, l, rfl, by omega, rfl, hO3, hB3⟩
  case round =>
    obtain ⟨k, T', rfl, hk, hT', hOr, hBr⟩ := hrel
    have HT' : Hid (T'.length = l.length) := hT'
    by_cases hlt : k < l.length
    · obtain ⟨g, hbg, -, -, -, -⟩ := hOr.at0 (by omega)
      subst hbg
      obtain ⟨hc, hf, hgN⟩ := hOr.can k (by omega)
      unfold encB at hc
      have HN : Hid (Ow w.heap.size (wr.setCell ⟨g, k, none⟩ (.int .u8 170)) (.slice (some ⟨g, 0, none⟩) (T'.set k 170).length cx) (T'.set k 170)) := by
        have := hOr.store k 170
        rw [List.length_set]; exact this
      have HL : Hid (Below w.heap.size w (wr.setCell ⟨g, k, none⟩ (.int .u8 170))) := hBr.setCell (p := ⟨g, k, none⟩) (by show w.heap.size ≤ g; omega) _
      clear hT' hOr hBr hO3 hB3
      go_wp2
      go_roundw
      case rel => exact ⟨k + 1, T'.set k 170, by go_num, by omega, by rw [List.length_set]; exact HT'.out, HN.out, HL.out⟩
      case measure => simp [intOf]; omega
    · rw [hT'] at hOr
      have hs5 := sl_new wr [170] #[.int .u8 170] (by simp) (by simp) (by rfl)
      have hO5 := hOr.alloc (.cells #[.int .u8 170] 5)
      have hzr := hBr.size
      have hlen : (T' ++ [(170 : UInt8)]).length = l.length + 1 := by simp [hT']
      have hOo := hOr
      clear hO3 hB3
      go_wp2_with (first
        | (at_builtin; refine wpList_append_ow rfl _ _ rfl w.heap.size _ _ _ T' [170] rfl hO5 rfl hs5 (by simp; omega) (by simp; omega) ?_; intro v6 w6 hO6 hg6 hn6; obtain ⟨a6, c6, rfl, hc6, hm6⟩ := hO6.shape; rw [hlen] at hO6 hc6 ⊢)
        | (go_at_call 13; refine (num_any _ _).mono ?_; rintro r w' ⟨rfl, hw⟩; subst w'))
      go_ret
      exact ⟨by simp, (hBr.alloc hzr _).grown hg6 (by simp; omega) (fun k hk => (World.ownsRow.lt hOo k hk).1)⟩
end Go.Proofs.Ytndgfkgfonfliaa
