/-
  GetN; PutC; SamB; MsgA.
-/
import Derived.Test.YtfnnbfgfmbiababJ11
import Derived.Handy
import Derived.Test.YtfnnbfgfmbiababJ08
import Derived.Test.YtfnnbfgfmbiababJ07
/-
  A number, a thing within bytes, judged as soon as it is read.
-/
namespace Go.Proofs.Ytfnnbfgfmbiabab
open Go.RowKit Go.Shelf

theorem ahead_pos (f : Nat) (l : List UInt8) (h : 0 < l.length) : 0 < (ahead (f + 1) l).length := by
  cases l with
  | nil => simp at h
  | cons x r => unfold ahead; split <;> simp

theorem intAt_pos (l : List UInt8) (a : Nat) (h : (intAt l a).2.2 = 0) : 0 < (intAt l a).2.1 := by
  have hin := intAt_in l a h
  unfold intAt at h ⊢
  rw [if_neg (by omega)] at h ⊢
  have hp := ahead_pos 8 (l.drop (a : Int).toNat) (by simp; omega)
  generalize ahead 9 (l.drop (a : Int).toNat) = p at *
  unfold verdict at h ⊢
  by_cases h1 : 128 ≤ lastB p ∧ p.length < 9
  · rw [if_pos h1] at h; simp at h
  · rw [if_neg h1] at h ⊢
    by_cases h2 : 128 ≤ lastB p
    · rw [if_pos h2] at h; simp at h
    · rw [if_neg h2] at h ⊢
      by_cases h3 : lastB p = 0 ∧ 1 < p.length
      · rw [if_pos h3] at h; simp at h
      · rw [if_neg h3] at h ⊢
        by_cases h4 : 4611686018427387904 < val p
        · rw [if_pos h4] at h; simp at h
        · rw [if_neg h4]; exact hp

theorem pk_pos (l : List UInt8) (a e : Nat) (h : (pk l a e).2.2 = 0) : 0 < (pk l a e).2.1 := by
  unfold pk at h ⊢
  by_cases he : e = 0
  · rw [if_pos he] at h ⊢; exact intAt_pos l a h
  · rw [if_neg he] at h; exact absurd h he

/-- What 'failure' tells behind a number. -/
theorem fail_num (l : List UInt8) (p e n p' e' : Nat) (h : rdN l (p, e) = (n, (p', e'))) : (if p < p' then 0 else doneE l p' e') = e' ∧ (e' ≠ 0 → n = 0 ∧ p' = p) := by
  simp only [rdN, Prod.mk.injEq] at h
  obtain ⟨rfl, rfl, rfl⟩ := h
  by_cases h0 : (pk l p e).2.2 = 0
  · have := pk_pos l p e h0
    rw [if_pos (by omega), h0]; simp
  · have := (pk_bd l p e).2.2.2 h0
    rw [this.2, this.1]
    simp [doneE, h0]

theorem takeAt_cases (l : List UInt8) (p e : Nat) (most : Int) : (∃ x, x ≠ 0 ∧ takeAt l p e most = ([], p, x)) ∨ (∃ t q, p < q ∧ takeAt l p e most = (t, q, 0)) := by
  unfold takeAt
  by_cases h0 : (pk l p e).2.2 ≠ 0
  · rw [if_pos h0]; exact .inl ⟨_, h0, rfl⟩
  · rw [if_neg h0]
    have hp := pk_pos l p e (by simpa using h0)
    by_cases h1 : max most 0 < ((pk l p e).1 : Int)
    · rw [if_pos h1]; exact .inl ⟨3, by simp, rfl⟩
    · rw [if_neg h1]
      by_cases h2 : l.length - (p + (pk l p e).2.1) < (pk l p e).1
      · rw [if_pos h2]; exact .inl ⟨2, by simp, rfl⟩
      · rw [if_neg h2]; exact .inr ⟨_, _, by omega, rfl⟩

theorem fail_bytes (l t : List UInt8) (most : Int) (p e p' e' : Nat) (h : rdB l most (p, e) = (t, (p', e'))) : (if p < p' then 0 else doneE l p' e') = e' ∧ (e' ≠ 0 → t = [] ∧ p' = p) := by
  simp only [rdB, Prod.mk.injEq] at h
  obtain ⟨rfl, rfl, rfl⟩ := h
  rcases takeAt_cases l p e most with ⟨x, hx, h⟩ | ⟨t, q, hq, h⟩
  · rw [h]; simp [doneE, hx]
  · rw [h]; simp [hq]

set_option maxRecDepth 100000 in
set_option maxHeartbeats 1000000 in
theorem rrAt_any {w0 w : World} {R : Nat} {l : List UInt8} {p e : Nat} (h : Rr w0 w R l p e) :
    Calls Try.prog 94 #[.pointer (some ⟨R, 0, none⟩)] w fun r w' => r = .returned (.int .i64 (p : Int)) ∧ w' = w := rAt_any _ R l p e w h.rdr

set_option maxRecDepth 100000 in
set_option maxHeartbeats 1000000 in
theorem failure_any {w0 w : World} {R : Nat} {l : List UInt8} {p e : Nat} (a : Nat) (h : Rr w0 w R l p e) :
    Calls Try.prog 95 #[.pointer (some ⟨R, 0, none⟩), .int .i64 (a : Int)] w fun r w' => r = .returned (.int .i64 ((if a < p then 0 else doneE l p e : Nat) : Int)) ∧ Below w.heap.size w w' := by
  by_cases hp : a < p
  · rw [if_pos hp]
    go_enter Try.func95, Try.ntmps95
    go_wp2_with (go_at_call 94; refine (rrAt_any h).mono ?_; rintro r w' ⟨rfl, hw⟩; subst w')
    go_returns
    exact ⟨rfl, Below.refl _ _⟩
  · rw [if_neg hp]
    have hd := rrDone_any h
    generalize doneE l p e = d at *
    go_enter Try.func95, Try.ntmps95
    go_wp2_with (first
      | (go_at_call 94; refine (rrAt_any h).mono ?_; rintro r w' ⟨rfl, hw⟩; subst w')
      | (go_at_call 72; refine hd.mono ?_; rintro r w1 ⟨rfl, hB1⟩))
    go_returns
    exact ⟨rfl, hB1⟩

set_option maxRecDepth 100000 in
set_option maxHeartbeats 1000000 in
theorem getNumber_any {w0 w : World} {R : Nat} {l : List UInt8} {p e n p' e' : Nat} (h : Rr w0 w R l p e) (hr : Hid (rdN l (p, e) = (n, (p', e')))) :
    Calls Try.prog 66 #[.pointer (some ⟨R, 0, none⟩)] w fun r w' => r = .returned (.tuple #[.int .i64 (n : Int), .int .i64 (e' : Int)]) ∧ Rr w0 w' R l p' e' := by
  have HF : Hid ((if p < p' then 0 else doneE l p' e') = e') := (fail_num l p e n p' e' hr.out).1
  have HFF : Hid (∀ w', Rr w0 w' R l p' e' → Calls Try.prog 95 #[.pointer (some ⟨R, 0, none⟩), .int .i64 (p : Int)] w' fun r w'' => r = .returned (.int .i64 (e' : Int)) ∧ Below w'.heap.size w' w'') := fun w' h' => by
    have := failure_any p h'
    rw [HF.out] at this
    exact this
  clear HF
  go_enter Try.func66, Try.ntmps66
  go_wp2_with (first
    | (go_at_call 94; refine (rrAt_any h).mono ?_; rintro r w' ⟨rfl, hw⟩; subst w')
    | (go_at_call 67; refine (rrI h hr).mono ?_; rintro r w1 ⟨rfl, h1⟩)
    | (go_at_call 95; refine (HFF.out _ h1).mono ?_; rintro r w2 ⟨rfl, hB2⟩))
  go_ret2
  exact ⟨rfl, h1.mono hB2⟩
end Go.Proofs.Ytfnnbfgfmbiabab

/-
  Put of the plain kinds, the code's and the document's.
-/
namespace Go.Proofs.Ytfnnbfgfmbiabab
open Go.RowKit Go.Shelf

set_option maxRecDepth 100000 in
set_option maxHeartbeats 2000000 in
theorem putCommand_any (o c s : Int) (k v d : List UInt8) (w : World) : Calls Try.prog 133 #[.agg #[], .agg #[.int .i64 o, .int .i64 c, .int .i64 s, .string ⟨k.toArray⟩, .string ⟨v.toArray⟩, .string ⟨d.toArray⟩]] w fun r w' =>
    ∃ u, r = .returned (.tuple #[u, .int .i64 (ckCommand o c s k v d : Int)]) ∧ Ow w.heap.size w' u (if ckCommand o c s k v d = 0 then txCommand o c s k v d else []) ∧ Below w.heap.size w w' := by
  have hbo := numB_len o.toNat
  have hbc := numB_len c.toNat
  have hbs := numB_len s.toNat
  have hbk := numB_len k.length
  have hbv := numB_len v.length
  have hbd := numB_len d.length
  obtain ⟨W0, hW0⟩ : ∃ W0, ((w.alloc (.cells #[] 58)).alloc (.cells #[.int .i64 o, .int .i64 c, .int .i64 s, .string ⟨k.toArray⟩, .string ⟨v.toArray⟩, .string ⟨d.toArray⟩] 45)) = W0 := ⟨_, rfl⟩
  have HW0 : Hid (((w.alloc (.cells #[] 58)).alloc (.cells #[.int .i64 o, .int .i64 c, .int .i64 s, .string ⟨k.toArray⟩, .string ⟨v.toArray⟩, .string ⟨d.toArray⟩] 45)) = W0) := hW0
  have HB0 : Hid (Below w.heap.size w W0) := by show Below w.heap.size w W0; rw [← hW0]; exact (((Below.refl _ w).alloc (by simp) _).alloc (by simp) _)
  have HQ : Hid (∀ w', Below W0.heap.size W0 w' → w'.cell? ⟨w.heap.size + 1, 0, none⟩ = some (.int .i64 o) ∧ w'.cell? ⟨w.heap.size + 1, 1, none⟩ = some (.int .i64 c) ∧ w'.cell? ⟨w.heap.size + 1, 2, none⟩ = some (.int .i64 s) ∧ w'.cell? ⟨w.heap.size + 1, 3, none⟩ = some (.string ⟨k.toArray⟩) ∧ w'.cell? ⟨w.heap.size + 1, 4, none⟩ = some (.string ⟨v.toArray⟩) ∧ w'.cell? ⟨w.heap.size + 1, 5, none⟩ = some (.string ⟨d.toArray⟩)) := fun w' hB => by
    have hlt : w.heap.size + 1 < W0.heap.size := by rw [← hW0]; simp
    have hh : W0.heap[w.heap.size + 1]? = some (.cells #[.int .i64 o, .int .i64 c, .int .i64 s, .string ⟨k.toArray⟩, .string ⟨v.toArray⟩, .string ⟨d.toArray⟩] 45 (0, 0)) := by
      rw [← hW0]; exact (by simpa using World.alloc_heap_new (w.alloc (.cells #[] 58)) _)
    have h2 := (hB.block _ hlt).trans hh
    refine ⟨?_, ?_, ?_, ?_, ?_, ?_⟩ <;> (simp only [World.cell?, h2]; rfl)
  clear hW0
  by_cases hk : ckCommand o c s k v d = 0
  · rw [if_pos hk]
    obtain ⟨ko, kc, ks, kk, kv, kd⟩ := ckCommand_ok hk
    go_enter Try.func133, Try.ntmps133
    go_wp2_with (go_at_call 131; refine (ckCommand_any o c s k v d _).mono ?_; rintro e w1 ⟨rfl, hB1⟩; rw [HW0.out] at hB1; obtain ⟨q0, q1, q2, q3, q4, q5⟩ := HQ.out w1 hB1)
    go_wp2_with fail
    refine (newW_any w1).mono ?_
    rintro r w2 ⟨rfl, h2⟩
    obtain ⟨q0, q1, q2, q3, q4, q5⟩ := HQ.out w2 (hB1.trans (h2.bel.mono hB1.size))
    go_wp2_with fail
    refine (wrInt_any o h2 (by simp <;> omega) ko).mono ?_
    rintro r w3 ⟨rfl, h3⟩
    obtain ⟨q0, q1, q2, q3, q4, q5⟩ := HQ.out w3 (hB1.trans (h3.bel.mono hB1.size))
    go_wp2_with fail
    refine (wrInt_any c h3 (by simp <;> omega) kc).mono ?_
    rintro r w4 ⟨rfl, h4⟩
    obtain ⟨q0, q1, q2, q3, q4, q5⟩ := HQ.out w4 (hB1.trans (h4.bel.mono hB1.size))
    go_wp2_with fail
    refine (wrInt_any s h4 (by simp <;> omega) ks).mono ?_
    rintro r w5 ⟨rfl, h5⟩
    obtain ⟨q0, q1, q2, q3, q4, q5⟩ := HQ.out w5 (hB1.trans (h5.bel.mono hB1.size))
    go_wp2_with fail
    refine (wrText_any 64 h5 (by simp <;> omega) (by omega) kk).mono ?_
    rintro r w6 ⟨rfl, h6⟩
    obtain ⟨q0, q1, q2, q3, q4, q5⟩ := HQ.out w6 (hB1.trans (h6.bel.mono hB1.size))
    go_wp2_with fail
    refine (wrText_any 1024 h6 (by simp <;> omega) (by omega) kv).mono ?_
    rintro r w7 ⟨rfl, h7⟩
    obtain ⟨q0, q1, q2, q3, q4, q5⟩ := HQ.out w7 (hB1.trans (h7.bel.mono hB1.size))
    go_wp2_with fail
    refine (wrText_any 1024 h7 (by simp <;> omega) (by omega) kd).mono ?_
    rintro r w8 ⟨rfl, h8⟩
    obtain ⟨q0, q1, q2, q3, q4, q5⟩ := HQ.out w8 (hB1.trans (h8.bel.mono hB1.size))
    go_wp2_with fail
    refine (wrDone_any h8 (by simp <;> omega)).mono ?_
    rintro r w9 ⟨u, rfl, hO9, hB9⟩
    go_wp2
    go_ret2
    refine ⟨u, by rw [hk]; rfl, ?_, HB0.out.trans ((hB1.trans (hB9.mono hB1.size)).mono HB0.out.size)⟩
    have hO := hO9.base (N' := w.heap.size) (by have := hB1.size; have := HB0.out.size; omega)
    simpa [txCommand, numB] using hO
  · rw [if_neg hk]
    have ck1 := fun w' => ckCommand_any o c s k v d w'
    generalize ckCommand o c s k v d = ke at *
    have hke : ((ke : Int) != 0) = true := by simp; omega
    go_enter Try.func133, Try.ntmps133
    go_wp2_with (go_at_call 131; refine (ck1 _).mono ?_; rintro e w1 ⟨rfl, hB1⟩; rw [HW0.out] at hB1)
    go_ret2
    exact ⟨_, rfl, Ow.nil _ _, HB0.out.trans (hB1.mono HB0.out.size)⟩

end Go.Proofs.Ytfnnbfgfmbiabab

/-
  Whether two entries, two snapshots are the same: the document's.
-/
namespace Go.Proofs.Ytfnnbfgfmbiabab
open Go.RowKit Go.Shelf

set_option maxRecDepth 100000 in
set_option maxHeartbeats 8000000 in
theorem sameEntry_any (t1 i1 k1 : Int) (a1 : Option Addr) (c1 : Nat) (m1 : List UInt8) (t2 i2 k2 : Int) (a2 : Option Addr) (c2 : Nat) (m2 : List UInt8) (M : Nat) (w : World) (h1 : Sl M w (.slice a1 m1.length c1) m1) (h2 : Sl M w (.slice a2 m2.length c2) m2) (hM : M ≤ w.heap.size) :
    Calls Try.prog 85 #[.agg #[.int .i64 t1, .int .i64 i1, .int .i64 k1, .slice a1 m1.length c1], .agg #[.int .i64 t2, .int .i64 i2, .int .i64 k2, .slice a2 m2.length c2]] w fun e w' => e = .returned (.bool (decide (m1 = m2) && (t1 == t2) && (i1 == i2) && (k1 == k2))) ∧ Below w.heap.size w w' := by
  obtain ⟨W0, hW0⟩ : ∃ W0, (w.alloc (.cells #[.int .i64 t1, .int .i64 i1, .int .i64 k1, .slice a1 m1.length c1] 26)).alloc (.cells #[.int .i64 t2, .int .i64 i2, .int .i64 k2, .slice a2 m2.length c2] 26) = W0 := ⟨_, rfl⟩
  have HW0 : Hid ((w.alloc (.cells #[.int .i64 t1, .int .i64 i1, .int .i64 k1, .slice a1 m1.length c1] 26)).alloc (.cells #[.int .i64 t2, .int .i64 i2, .int .i64 k2, .slice a2 m2.length c2] 26) = W0) := hW0
  have HB0 : Hid (Below w.heap.size w W0) := by show Below w.heap.size w W0; rw [← hW0]; exact (((Below.refl _ w).alloc (by simp) _).alloc (by simp) _)
  have HX : Hid (W0.heap[w.heap.size]? = some (.cells #[.int .i64 t1, .int .i64 i1, .int .i64 k1, .slice a1 m1.length c1] 26 (0, 0))) := by
    show W0.heap[w.heap.size]? = _
    rw [← hW0]; exact (((Below.refl (w.heap.size + 1) (w.alloc _)).alloc (by simp) _).block _ (by simp)).trans (World.alloc_heap_new w _)
  have HY : Hid (W0.heap[w.heap.size + 1]? = some (.cells #[.int .i64 t2, .int .i64 i2, .int .i64 k2, .slice a2 m2.length c2] 26 (0, 0))) := by
    show W0.heap[w.heap.size + 1]? = _
    rw [← hW0]; simpa using World.alloc_heap_new (w.alloc (.cells #[.int .i64 t1, .int .i64 i1, .int .i64 k1, .slice a1 m1.length c1] 26)) _
  clear hW0
  have g1 := h1.below (HB0.out.mono hM)
  have g2 := h2.below (HB0.out.mono hM)
  go_enter Try.func85, Try.ntmps85
  go_wp2_with fail
  rw [HW0.out]
  refine (same_any M _ _ m1 m2 W0 g1 g2).mono ?_
  rintro e w1 ⟨rfl, n1, hw1⟩
  have HB1 : Hid (Below w.heap.size w w1) := by show Below _ _ _; rw [hw1]; exact HB0.out.trans ⟨rfl, rfl, rfl, Nat.le_refl _, fun _ _ => rfl⟩
  obtain ⟨⟨p0, p1, p2, p3⟩, -⟩ := cells4 (show w1.heap[w.heap.size]? = _ by rw [hw1]; exact HX.out)
  obtain ⟨⟨q0, q1, q2, q3⟩, -⟩ := cells4 (show w1.heap[w.heap.size + 1]? = _ by rw [hw1]; exact HY.out)
  clear hw1 g1 g2 h1 h2
  go_wp2
  all_goals
    go_ret
    refine ⟨?_, HB1.out⟩
    simp_all

set_option maxRecDepth 100000 in
set_option maxHeartbeats 8000000 in
theorem sameSnap_any (i1 t1 : Int) (a1 : Option Addr) (c1 : Nat) (m1 : List UInt8) (i2 t2 : Int) (a2 : Option Addr) (c2 : Nat) (m2 : List UInt8) (M : Nat) (w : World) (h1 : Sl M w (.slice a1 m1.length c1) m1) (h2 : Sl M w (.slice a2 m2.length c2) m2) (hM : M ≤ w.heap.size) :
    Calls Try.prog 45 #[.agg #[.int .i64 i1, .int .i64 t1, .slice a1 m1.length c1], .agg #[.int .i64 i2, .int .i64 t2, .slice a2 m2.length c2]] w fun e w' => e = .returned (.bool (decide (m1 = m2) && (i1 == i2) && (t1 == t2))) ∧ Below w.heap.size w w' := by
  obtain ⟨W0, hW0⟩ : ∃ W0, (w.alloc (.cells #[.int .i64 i1, .int .i64 t1, .slice a1 m1.length c1] 47)).alloc (.cells #[.int .i64 i2, .int .i64 t2, .slice a2 m2.length c2] 47) = W0 := ⟨_, rfl⟩
  have HW0 : Hid ((w.alloc (.cells #[.int .i64 i1, .int .i64 t1, .slice a1 m1.length c1] 47)).alloc (.cells #[.int .i64 i2, .int .i64 t2, .slice a2 m2.length c2] 47) = W0) := hW0
  have HB0 : Hid (Below w.heap.size w W0) := by show Below w.heap.size w W0; rw [← hW0]; exact (((Below.refl _ w).alloc (by simp) _).alloc (by simp) _)
  have HX : Hid (W0.heap[w.heap.size]? = some (.cells #[.int .i64 i1, .int .i64 t1, .slice a1 m1.length c1] 47 (0, 0))) := by
    show W0.heap[w.heap.size]? = _
    rw [← hW0]; exact (((Below.refl (w.heap.size + 1) (w.alloc _)).alloc (by simp) _).block _ (by simp)).trans (World.alloc_heap_new w _)
  have HY : Hid (W0.heap[w.heap.size + 1]? = some (.cells #[.int .i64 i2, .int .i64 t2, .slice a2 m2.length c2] 47 (0, 0))) := by
    show W0.heap[w.heap.size + 1]? = _
    rw [← hW0]; simpa using World.alloc_heap_new (w.alloc (.cells #[.int .i64 i1, .int .i64 t1, .slice a1 m1.length c1] 47)) _
  clear hW0
  have g1 := h1.below (HB0.out.mono hM)
  have g2 := h2.below (HB0.out.mono hM)
  go_enter Try.func45, Try.ntmps45
  go_wp2_with fail
  rw [HW0.out]
  refine (same_any M _ _ m1 m2 W0 g1 g2).mono ?_
  rintro e w1 ⟨rfl, n1, hw1⟩
  have HB1 : Hid (Below w.heap.size w w1) := by show Below _ _ _; rw [hw1]; exact HB0.out.trans ⟨rfl, rfl, rfl, Nat.le_refl _, fun _ _ => rfl⟩
  obtain ⟨⟨p0, p1, p2⟩, -⟩ := cells3 (show w1.heap[w.heap.size]? = _ by rw [hw1]; exact HX.out)
  obtain ⟨⟨q0, q1, q2⟩, -⟩ := cells3 (show w1.heap[w.heap.size + 1]? = _ by rw [hw1]; exact HY.out)
  clear hw1 g1 g2 h1 h2
  go_wp2
  all_goals
    go_ret
    refine ⟨?_, HB1.out⟩
    simp_all

end Go.Proofs.Ytfnnbfgfmbiabab

/-
  Messages: what each of their parts may be: the code's small functions.
-/
namespace Go.Proofs.Ytfnnbfgfmbiabab
open Go.RowKit Go.Shelf

theorem natz (n : Nat) : ((n : Int) == 0) = (n == 0) := by rw [Bool.eq_iff_iff]; simp

/-- Are a message's numbers in range? -/
def msgRange (fr to tm ix lt cm hi cx : Int) : Bool :=
  isIn fr 1 7 && isIn to 1 7 && isIn tm 1 4611686018427387904 && isIn ix 0 4611686018427387904 && isIn lt 0 4611686018427387904 && isIn cm 0 4611686018427387904 && isIn hi 0 4611686018427387904 && isIn cx 0 4611686018427387904

/-- Is nothing said beside what every message says? -/
def blank (ix lt cm hi cx : Int) (rj : Bool) (en : Nat) (si st : Int) (sn : Nat) : Bool :=
  (ix == 0) && (lt == 0) && (cm == 0) && (hi == 0) && (cx == 0) && !rj && (en == 0) && ((si == 0) && (st == 0) && (sn == 0))

set_option maxRecDepth 100000 in
set_option maxHeartbeats 8000000 in
theorem isKind_any (n : Int) (w : World) : Calls Try.prog 57 #[.int .i64 n] w fun e w' => e = .returned (.bool (isIn n 1 7)) ∧ w' = w := by
  go_enter Try.func57, Try.ntmps57
  go_wp2_with (go_at_call 75; refine (within_any _ _ _ _).mono ?_; rintro e w' ⟨rfl, hw⟩; subst w')
  go_ret
  exact ⟨rfl, rfl⟩

/-- The error of a wrong form. -/
def fI (b : Bool) : Nat := if b then 4 else 0

set_option maxRecDepth 100000 in
set_option maxHeartbeats 8000000 in
theorem formIf_any (b : Bool) (w : World) : Calls Try.prog 62 #[.bool b] w fun e w' => e = .returned (.int .i64 (fI b : Int)) ∧ w' = w := by
  cases b
  all_goals
    go_enter Try.func62, Try.ntmps62
    go_wp2
    go_ret
    exact ⟨rfl, rfl⟩

set_option maxRecDepth 100000 in
set_option maxHeartbeats 8000000 in
theorem isNone_any (si st : Int) (sa : Option Addr) (sn sc : Nat) (w : World) : Calls Try.prog 91 #[.agg #[.int .i64 si, .int .i64 st, .slice sa sn sc]] w fun e w' => e = .returned (.bool ((si == 0) && (st == 0) && (sn == 0))) ∧ Below w.heap.size w w' := by
  have HB : Hid (∀ o0, Below w.heap.size w (w.alloc o0)) := fun _ => ((Below.refl _ w).alloc (by simp) _)
  go_enter Try.func91, Try.ntmps91
  go_wp2
  all_goals
    go_ret
    refine ⟨?_, HB.out _⟩
    simp_all [natz]

set_option maxRecDepth 100000 in
set_option maxHeartbeats 8000000 in
theorem isPlace_any (kd fr to tm ix lt cm hi cx : Int) (rj : Bool) (ea : Option Addr) (en ec : Nat) (si st : Int) (sa : Option Addr) (sn sc : Nat) (w : World) : Calls Try.prog 63 #[.agg #[.int .i64 kd, .int .i64 fr, .int .i64 to, .int .i64 tm, .int .i64 ix, .int .i64 lt, .int .i64 cm, .int .i64 hi, .int .i64 cx, .bool rj, .slice ea en ec, .int .i64 si, .int .i64 st, .slice sa sn sc]] w fun e w' => e = .returned (.bool ((ix == 0) == (lt == 0))) ∧ Below w.heap.size w w' := by
  have HB : Hid (∀ o0, Below w.heap.size w (w.alloc o0)) := fun _ => ((Below.refl _ w).alloc (by simp) _)
  go_enter Try.func63, Try.ntmps63
  go_wp2
  all_goals
    go_ret
    refine ⟨?_, HB.out _⟩
    simp_all

set_option maxRecDepth 100000 in
set_option maxHeartbeats 8000000 in
theorem isBlank_any (kd fr to tm ix lt cm hi cx : Int) (rj : Bool) (ea : Option Addr) (en ec : Nat) (si st : Int) (sa : Option Addr) (sn sc : Nat) (w : World) : Calls Try.prog 59 #[.agg #[.int .i64 kd, .int .i64 fr, .int .i64 to, .int .i64 tm, .int .i64 ix, .int .i64 lt, .int .i64 cm, .int .i64 hi, .int .i64 cx, .bool rj, .slice ea en ec, .int .i64 si, .int .i64 st, .slice sa sn sc]] w fun e w' => e = .returned (.bool (blank ix lt cm hi cx rj en si st sn)) ∧ Below w.heap.size w w' := by
  have HB : Hid (∀ o0, Below w.heap.size w (w.alloc o0)) := fun _ => ((Below.refl _ w).alloc (by simp) _)
  have HB2 : Hid (∀ o0 w2, Below (w.alloc o0).heap.size (w.alloc o0) w2 → Below w.heap.size w w2) := fun o w2 h => (HB.out o).trans (h.mono (by simp))
  unfold blank
  go_enter Try.func59, Try.ntmps59
  go_wp2_with (go_at_call 91; refine (isNone_any _ _ _ _ _ _).mono ?_; rintro e w2 ⟨rfl, hB2⟩)
  all_goals
    go_ret
    refine ⟨?_, by first | exact HB.out _ | exact HB2.out _ _ hB2⟩
    simp_all [natz]
end Go.Proofs.Ytfnnbfgfmbiabab

