/-
  MsgP3.
-/
import Derived.Test.YtfnnbfgfmbiababJ31
import Derived.Test.YtfnnbfgfmbiababJ19
/-
  Messages of kind 3: put.
-/
namespace Go.Proofs.Ytfnnbfgfmbiabab
open Go.RowKit Go.Shelf

set_option linter.unusedVariables false

theorem ckM3_ok {fr to tm ix lt cm hi cx : Int} {rj : Bool} {es : List Ent} {si st : Int} {sn : Nat} (h : ckM3 fr to tm ix lt cm hi cx rj es si st sn = 0) : isNumB fr = true ∧ isNumB to = true ∧ isNumB tm = true ∧ isNumB ix = true ∧ isNumB lt = true ∧ isNumB cm = true ∧ isNumB hi = true ∧ isNumB cx = true := by
  have hR : msgRange fr to tm ix lt cm hi cx = true := by
    cases hr : msgRange fr to tm ix lt cm hi cx
    · unfold ckM3 at h; rw [if_pos hr] at h; simp at h
    · rfl
  exact msgRange_ok hR
theorem ckM3_app {fr to tm ix lt cm hi cx : Int} {rj : Bool} {es : List Ent} {si st : Int} {sn : Nat} (h : ckM3 fr to tm ix lt cm hi cx rj es si st sn = 0) : es.length ≤ 64 ∧ firstErr es = 0 := by
  unfold ckM3 at h
  split at h
  · simp at h
  · split at h
    · simp at h
    · split at h
      · simp at h
      · unfold ckApp at h
        split at h
        · simp at h
        · split at h
          · rename_i h1 h2; exact absurd h h2
          · rename_i h1 h2
            exact ⟨by omega, by omega⟩
set_option maxRecDepth 100000 in
set_option maxHeartbeats 8000000 in
theorem putU3_any (fr to tm ix lt cm hi cx : Int) (rj : Bool) (ea : Option Addr) (ec : Nat) (es : List Ent) (si st : Int) (sa : Option Addr) (sn sc : Nat) {w0 w : World} {l : List UInt8} (N : Nat) (h : Wr w0 w l) (hl : l.length ≤ 900000) (hE : EntsAt N w0 ea es) (hN : N ≤ w0.heap.size) (hk : firstErr es = 0) (hn : es.length ≤ 64) (kix : isNumB ix = true) (klt : isNumB lt = true) (kcm : isNumB cm = true) :
    Calls Try.prog 56 #[.pointer (some ⟨w0.heap.size, 0, none⟩), .agg #[.int .i64 3, .int .i64 fr, .int .i64 to, .int .i64 tm, .int .i64 ix, .int .i64 lt, .int .i64 cm, .int .i64 hi, .int .i64 cx, .bool rj, .slice ea es.length ec, .int .i64 si, .int .i64 st, .slice sa sn sc]] w fun r w' => r = .returned (.int .i64 0) ∧ Wr w0 w' (l ++ numB ix.toNat ++ numB lt.toNat ++ numB cm.toNat ++ numB es.length ++ packs es) := by
  have hbix := numB_len ix.toNat
  have hblt := numB_len lt.toNat
  have hbcm := numB_len cm.toNat
  obtain ⟨W0, hW0⟩ : ∃ W0, w.alloc (.cells #[.int .i64 3, .int .i64 fr, .int .i64 to, .int .i64 tm, .int .i64 ix, .int .i64 lt, .int .i64 cm, .int .i64 hi, .int .i64 cx, .bool rj, .slice ea es.length ec, .int .i64 si, .int .i64 st, .slice sa sn sc] 49) = W0 := ⟨_, rfl⟩
  have HW0 : Hid (w.alloc (.cells #[.int .i64 3, .int .i64 fr, .int .i64 to, .int .i64 tm, .int .i64 ix, .int .i64 lt, .int .i64 cm, .int .i64 hi, .int .i64 cx, .bool rj, .slice ea es.length ec, .int .i64 si, .int .i64 st, .slice sa sn sc] 49) = W0) := hW0
  have hBx : Below w.heap.size w W0 := by rw [← hW0]; exact (Below.refl _ w).alloc (Nat.le_refl _) _
  have h0 : Ws w0 W0 (fun k => k = w.heap.size) l := by rw [← hW0]; exact h.ws ((Below.refl _ w).alloc (Nat.le_refl _) _) (fun k hk => by subst hk; simp)
  have hc0 : W0.heap[w.heap.size]? = some (.cells #[.int .i64 3, .int .i64 fr, .int .i64 to, .int .i64 tm, .int .i64 ix, .int .i64 lt, .int .i64 cm, .int .i64 hi, .int .i64 cx, .bool rj, .slice ea es.length ec, .int .i64 si, .int .i64 st, .slice sa sn sc] 49 (0, 0)) := by rw [← hW0]; exact World.alloc_heap_new w _
  clear hW0
  obtain ⟨⟨q0, q1, q2, q3, q4, q5, q6, q7, q8, q9, q10, q11, q12, q13⟩, -⟩ := cells14 hc0
  have HC0 : Hid (W0.heap[w.heap.size]? = some (.cells #[.int .i64 3, .int .i64 fr, .int .i64 to, .int .i64 tm, .int .i64 ix, .int .i64 lt, .int .i64 cm, .int .i64 hi, .int .i64 cx, .bool rj, .slice ea es.length ec, .int .i64 si, .int .i64 st, .slice sa sn sc] 49 (0, 0))) := hc0
  clear hc0
  clear hBx
  go_enter Try.func56, Try.ntmps56
  go_wp2_with fail
  rw [HW0.out]
  refine (wsInt_any ix h0 (by first | omega | (simp <;> omega)) kix).mono ?_
  rintro r w1 ⟨rfl, h1, hk1⟩
  have HC1 : Hid (w1.heap[w.heap.size]? = some (.cells #[.int .i64 3, .int .i64 fr, .int .i64 to, .int .i64 tm, .int .i64 ix, .int .i64 lt, .int .i64 cm, .int .i64 hi, .int .i64 cx, .bool rj, .slice ea es.length ec, .int .i64 si, .int .i64 st, .slice sa sn sc] 49 (0, 0))) := (hk1 _ rfl).trans HC0.out
  obtain ⟨⟨q0, q1, q2, q3, q4, q5, q6, q7, q8, q9, q10, q11, q12, q13⟩, -⟩ := cells14 HC1.out
  go_wp2_with fail
  refine (wsInt_any lt h1 (by first | omega | (simp <;> omega)) klt).mono ?_
  rintro r w2 ⟨rfl, h2, hk2⟩
  have HC2 : Hid (w2.heap[w.heap.size]? = some (.cells #[.int .i64 3, .int .i64 fr, .int .i64 to, .int .i64 tm, .int .i64 ix, .int .i64 lt, .int .i64 cm, .int .i64 hi, .int .i64 cx, .bool rj, .slice ea es.length ec, .int .i64 si, .int .i64 st, .slice sa sn sc] 49 (0, 0))) := (hk2 _ rfl).trans HC1.out
  obtain ⟨⟨q0, q1, q2, q3, q4, q5, q6, q7, q8, q9, q10, q11, q12, q13⟩, -⟩ := cells14 HC2.out
  go_wp2_with fail
  refine (wsInt_any cm h2 (by first | omega | (simp <;> omega)) kcm).mono ?_
  rintro r w3 ⟨rfl, h3, hk3⟩
  have HC3 : Hid (w3.heap[w.heap.size]? = some (.cells #[.int .i64 3, .int .i64 fr, .int .i64 to, .int .i64 tm, .int .i64 ix, .int .i64 lt, .int .i64 cm, .int .i64 hi, .int .i64 cx, .bool rj, .slice ea es.length ec, .int .i64 si, .int .i64 st, .slice sa sn sc] 49 (0, 0))) := (hk3 _ rfl).trans HC2.out
  obtain ⟨⟨q0, q1, q2, q3, q4, q5, q6, q7, q8, q9, q10, q11, q12, q13⟩, -⟩ := cells14 HC3.out
  go_wp2_with fail
  refine (putAll_any ea ec es 8192 N h3.wr (by simp <;> omega) hE hN hk (by omega) (by omega)).mono ?_
  rintro r w4 ⟨rfl, h4⟩
  go_wp2
  go_returns
  exact ⟨rfl, h4⟩

set_option maxRecDepth 100000 in
set_option maxHeartbeats 8000000 in
theorem putM3_any (fr to tm ix lt cm hi cx : Int) (rj : Bool) (ea : Option Addr) (ec : Nat) (es : List Ent) (si st : Int) (sa : Option Addr) (sn sc : Nat) (w : World) (N : Nat) (hEs : EntsAt N w ea es) (hN : N ≤ w.heap.size) : Calls Try.prog 23 #[.agg #[], .agg #[.int .i64 3, .int .i64 fr, .int .i64 to, .int .i64 tm, .int .i64 ix, .int .i64 lt, .int .i64 cm, .int .i64 hi, .int .i64 cx, .bool rj, .slice ea es.length ec, .int .i64 si, .int .i64 st, .slice sa sn sc]] w fun r w' =>
    ∃ u, r = .returned (.tuple #[u, .int .i64 (ckM3 fr to tm ix lt cm hi cx rj es si st sn : Int)]) ∧ Ow w.heap.size w' u (if ckM3 fr to tm ix lt cm hi cx rj es si st sn = 0 then numB 3 ++ numB fr.toNat ++ numB to.toNat ++ numB tm.toNat ++ (numB ix.toNat ++ (numB lt.toNat ++ (numB cm.toNat ++ (numB es.length ++ packs es)))) else []) ∧ Below w.heap.size w w' := by
  have hbfr := numB_len fr.toNat
  have hbto := numB_len to.toNat
  have hbtm := numB_len tm.toNat
  have hb0 := numB_len 3
  obtain ⟨W0, hW0⟩ : ∃ W0, (w.alloc (.cells #[] 60)).alloc (.cells #[.int .i64 3, .int .i64 fr, .int .i64 to, .int .i64 tm, .int .i64 ix, .int .i64 lt, .int .i64 cm, .int .i64 hi, .int .i64 cx, .bool rj, .slice ea es.length ec, .int .i64 si, .int .i64 st, .slice sa sn sc] 49) = W0 := ⟨_, rfl⟩
  have HW0 : Hid ((w.alloc (.cells #[] 60)).alloc (.cells #[.int .i64 3, .int .i64 fr, .int .i64 to, .int .i64 tm, .int .i64 ix, .int .i64 lt, .int .i64 cm, .int .i64 hi, .int .i64 cx, .bool rj, .slice ea es.length ec, .int .i64 si, .int .i64 st, .slice sa sn sc] 49) = W0) := hW0
  have HB0 : Hid (Below w.heap.size w W0) := by show Below w.heap.size w W0; rw [← hW0]; exact (((Below.refl _ w).alloc (by simp) _).alloc (by simp) _)
  have HX : Hid (∀ w', Below W0.heap.size W0 w' → w'.heap[w.heap.size + 1]? = some (.cells #[.int .i64 3, .int .i64 fr, .int .i64 to, .int .i64 tm, .int .i64 ix, .int .i64 lt, .int .i64 cm, .int .i64 hi, .int .i64 cx, .bool rj, .slice ea es.length ec, .int .i64 si, .int .i64 st, .slice sa sn sc] 49 (0, 0))) := fun w' hB => by
    have hlt : w.heap.size + 1 < W0.heap.size := by rw [← hW0]; simp
    refine (hB.block _ hlt).trans ?_
    rw [← hW0]; simpa using World.alloc_heap_new (w.alloc (.cells #[] 60)) _
  clear hW0
  by_cases hk : ckM3 fr to tm ix lt cm hi cx rj es si st sn = 0
  · rw [if_pos hk]
    obtain ⟨kfr, kto, ktm, kix, klt, kcm, khi, kcx⟩ := ckM3_ok hk
    have k0 : isNumB 3 = true := by decide
    obtain ⟨hn64, hf0⟩ := ckM3_app hk
    have hbix := numB_len ix.toNat
    have hblt := numB_len lt.toNat
    have hbcm := numB_len cm.toNat
    have hben := numB_len es.length
    have hpk := packs_len (firstErr_all hf0)
    go_enter Try.func23, Try.ntmps23
    go_wp2_with (go_at_call 24; rw [HW0.out]; refine (chkM3_any fr to tm ix lt cm hi cx rj ea ec es si st sa sn sc W0 N (hEs.below (HB0.out.mono hN)) (by have := HB0.out.size; omega)).mono ?_; rintro e w1 ⟨rfl, hB1⟩; rw [hk]; obtain ⟨⟨q0, q1, q2, q3, q4, q5, q6, q7, q8, q9, q10, q11, q12, q13⟩, -⟩ := cells14 (HX.out w1 hB1))
    refine (newW_any w1).mono ?_
    rintro r w2 ⟨rfl, h2⟩
    obtain ⟨⟨q0, q1, q2, q3, q4, q5, q6, q7, q8, q9, q10, q11, q12, q13⟩, -⟩ := cells14 (HX.out w2 (hB1.trans (h2.bel.mono hB1.size)))
    go_wp2_with fail
    refine (wrInt_any 3 h2 (by simp <;> omega) k0).mono ?_
    rintro r w3 ⟨rfl, h3⟩
    obtain ⟨⟨q0, q1, q2, q3, q4, q5, q6, q7, q8, q9, q10, q11, q12, q13⟩, -⟩ := cells14 (HX.out w3 (hB1.trans (h3.bel.mono hB1.size)))
    go_wp2_with fail
    refine (wrInt_any fr h3 (by simp <;> omega) kfr).mono ?_
    rintro r w4 ⟨rfl, h4⟩
    obtain ⟨⟨q0, q1, q2, q3, q4, q5, q6, q7, q8, q9, q10, q11, q12, q13⟩, -⟩ := cells14 (HX.out w4 (hB1.trans (h4.bel.mono hB1.size)))
    go_wp2_with fail
    refine (wrInt_any to h4 (by simp <;> omega) kto).mono ?_
    rintro r w5 ⟨rfl, h5⟩
    obtain ⟨⟨q0, q1, q2, q3, q4, q5, q6, q7, q8, q9, q10, q11, q12, q13⟩, -⟩ := cells14 (HX.out w5 (hB1.trans (h5.bel.mono hB1.size)))
    go_wp2_with fail
    refine (wrInt_any tm h5 (by simp <;> omega) ktm).mono ?_
    rintro r w6 ⟨rfl, h6⟩
    obtain ⟨⟨q0, q1, q2, q3, q4, q5, q6, q7, q8, q9, q10, q11, q12, q13⟩, -⟩ := cells14 (HX.out w6 (hB1.trans (h6.bel.mono hB1.size)))
    go_wp2_with fail
    refine (putU3_any fr to tm ix lt cm hi cx rj ea ec es si st sa sn sc N h6 (by simp <;> omega) (hEs.below ((HB0.out.trans (hB1.mono HB0.out.size)).mono hN)) (by have := hB1.size; have := HB0.out.size; omega) hf0 hn64 kix klt kcm).mono ?_
    rintro r w7 ⟨rfl, h7⟩
    go_wp2_with fail
    refine (wrDone_any h7 (by simp <;> omega)).mono ?_
    rintro r w9 ⟨u, rfl, hO9, hB9⟩
    go_wp2
    go_ret2
    refine ⟨u, by rw [hk]; rfl, ?_, HB0.out.trans ((hB1.trans (hB9.mono hB1.size)).mono HB0.out.size)⟩
    have hO := hO9.base (N' := w.heap.size) (by have := hB1.size; have := HB0.out.size; omega)
    simpa [numB] using hO
  · rw [if_neg hk]
    have ck1 := chkM3_any fr to tm ix lt cm hi cx rj ea ec es si st sa sn sc W0 N (hEs.below (HB0.out.mono hN)) (by have := HB0.out.size; omega)
    generalize ckM3 fr to tm ix lt cm hi cx rj es si st sn = ke at *
    have hke : ((ke : Int) != 0) = true := by simp; omega
    go_enter Try.func23, Try.ntmps23
    go_wp2_with (go_at_call 24; rw [HW0.out]; refine ck1.mono ?_; rintro e w1 ⟨rfl, hB1⟩)
    go_ret2
    exact ⟨_, rfl, Ow.nil _ _, HB0.out.trans (hB1.mono HB0.out.size)⟩

end Go.Proofs.Ytfnnbfgfmbiabab

