/-
  Messages of kind 1: put.
-/
import Derived.Test.YtfnnbfgfmbiababMsgC1
import Derived.Test.YtfnnbfgfmbiababMsgW
namespace Go.Proofs.Ytfnnbfgfmbiabab
open Go.RowKit Go.Shelf

theorem msgRange_ok {fr to tm ix lt cm hi cx : Int} (h : msgRange fr to tm ix lt cm hi cx = true) : isNumB fr = true ∧ isNumB to = true ∧ isNumB tm = true ∧ isNumB ix = true ∧ isNumB lt = true ∧ isNumB cm = true ∧ isNumB hi = true ∧ isNumB cx = true := by
  unfold msgRange at h
  simp only [Bool.and_eq_true] at h
  obtain ⟨⟨⟨⟨⟨⟨⟨h1, h2⟩, h3⟩, h4⟩, h5⟩, h6⟩, h7⟩, h8⟩ := h
  exact ⟨(isIn_num _ _ _ (by omega) (by omega) h1).1, (isIn_num _ _ _ (by omega) (by omega) h2).1, (isIn_num _ _ _ (by omega) (by omega) h3).1, (isIn_num _ _ _ (by omega) (by omega) h4).1, (isIn_num _ _ _ (by omega) (by omega) h5).1, (isIn_num _ _ _ (by omega) (by omega) h6).1, (isIn_num _ _ _ (by omega) (by omega) h7).1, (isIn_num _ _ _ (by omega) (by omega) h8).1⟩

def txM1 (fr to tm ix lt : Int) : List UInt8 := numB 1 ++ numB fr.toNat ++ numB to.toNat ++ numB tm.toNat ++ numB ix.toNat ++ numB lt.toNat
theorem ckM1_ok {fr to tm ix lt cm hi cx : Int} {rj : Bool} {en : Nat} {si st : Int} {sn : Nat} (h : ckM1 fr to tm ix lt cm hi cx rj en si st sn = 0) : isNumB fr = true ∧ isNumB to = true ∧ isNumB tm = true ∧ isNumB ix = true ∧ isNumB lt = true ∧ isNumB cm = true ∧ isNumB hi = true ∧ isNumB cx = true := by
  have hR : msgRange fr to tm ix lt cm hi cx = true := by
    cases hr : msgRange fr to tm ix lt cm hi cx
    · unfold ckM1 at h; rw [if_pos hr] at h; simp at h
    · rfl
  exact msgRange_ok hR

set_option maxRecDepth 100000 in
set_option maxHeartbeats 8000000 in
theorem putU1_any (fr to tm ix lt cm hi cx : Int) (rj : Bool) (ea : Option Addr) (en ec : Nat) (si st : Int) (sa : Option Addr) (sn sc : Nat) {w0 w : World} {l : List UInt8} (h : Wr w0 w l) (hl : l.length ≤ 1000000) (kix : isNumB ix = true) (klt : isNumB lt = true) :
    Calls Try.prog 56 #[.pointer (some ⟨w0.heap.size, 0, none⟩), .agg #[.int .i64 1, .int .i64 fr, .int .i64 to, .int .i64 tm, .int .i64 ix, .int .i64 lt, .int .i64 cm, .int .i64 hi, .int .i64 cx, .bool rj, .slice ea en ec, .int .i64 si, .int .i64 st, .slice sa sn sc]] w fun r w' => r = .returned (.int .i64 0) ∧ Wr w0 w' ((l ++ numB ix.toNat) ++ numB lt.toNat) := by
  have hbix := numB_len ix.toNat
  have hblt := numB_len lt.toNat
  obtain ⟨W0, hW0⟩ : ∃ W0, w.alloc (.cells #[.int .i64 1, .int .i64 fr, .int .i64 to, .int .i64 tm, .int .i64 ix, .int .i64 lt, .int .i64 cm, .int .i64 hi, .int .i64 cx, .bool rj, .slice ea en ec, .int .i64 si, .int .i64 st, .slice sa sn sc] 49) = W0 := ⟨_, rfl⟩
  have HW0 : Hid (w.alloc (.cells #[.int .i64 1, .int .i64 fr, .int .i64 to, .int .i64 tm, .int .i64 ix, .int .i64 lt, .int .i64 cm, .int .i64 hi, .int .i64 cx, .bool rj, .slice ea en ec, .int .i64 si, .int .i64 st, .slice sa sn sc] 49) = W0) := hW0
  have h0 : Ws w0 W0 (fun k => k = w.heap.size) l := by rw [← hW0]; exact h.ws ((Below.refl _ w).alloc (Nat.le_refl _) _) (fun k hk => by subst hk; simp)
  have hc0 : W0.heap[w.heap.size]? = some (.cells #[.int .i64 1, .int .i64 fr, .int .i64 to, .int .i64 tm, .int .i64 ix, .int .i64 lt, .int .i64 cm, .int .i64 hi, .int .i64 cx, .bool rj, .slice ea en ec, .int .i64 si, .int .i64 st, .slice sa sn sc] 49 (0, 0)) := by rw [← hW0]; exact World.alloc_heap_new w _
  clear hW0
  obtain ⟨⟨q0, q1, q2, q3, q4, q5, q6, q7, q8, q9, q10, q11, q12, q13⟩, -⟩ := cells14 hc0
  have HC0 : Hid (W0.heap[w.heap.size]? = some (.cells #[.int .i64 1, .int .i64 fr, .int .i64 to, .int .i64 tm, .int .i64 ix, .int .i64 lt, .int .i64 cm, .int .i64 hi, .int .i64 cx, .bool rj, .slice ea en ec, .int .i64 si, .int .i64 st, .slice sa sn sc] 49 (0, 0))) := hc0
  clear hc0
  go_enter Try.func56, Try.ntmps56
  go_wp2_with fail
  rw [HW0.out]
  refine (wsInt_any ix h0 (by first | omega | (simp <;> omega)) kix).mono ?_
  rintro r w1 ⟨rfl, h1, hk1⟩
  have HC1 : Hid (w1.heap[w.heap.size]? = some (.cells #[.int .i64 1, .int .i64 fr, .int .i64 to, .int .i64 tm, .int .i64 ix, .int .i64 lt, .int .i64 cm, .int .i64 hi, .int .i64 cx, .bool rj, .slice ea en ec, .int .i64 si, .int .i64 st, .slice sa sn sc] 49 (0, 0))) := (hk1 _ rfl).trans HC0.out
  obtain ⟨⟨q0, q1, q2, q3, q4, q5, q6, q7, q8, q9, q10, q11, q12, q13⟩, -⟩ := cells14 HC1.out
  go_wp2_with fail
  refine (wsInt_any lt h1 (by first | omega | (simp <;> omega)) klt).mono ?_
  rintro r w2 ⟨rfl, h2, hk2⟩
  have HC2 : Hid (w2.heap[w.heap.size]? = some (.cells #[.int .i64 1, .int .i64 fr, .int .i64 to, .int .i64 tm, .int .i64 ix, .int .i64 lt, .int .i64 cm, .int .i64 hi, .int .i64 cx, .bool rj, .slice ea en ec, .int .i64 si, .int .i64 st, .slice sa sn sc] 49 (0, 0))) := (hk2 _ rfl).trans HC1.out
  obtain ⟨⟨q0, q1, q2, q3, q4, q5, q6, q7, q8, q9, q10, q11, q12, q13⟩, -⟩ := cells14 HC2.out
  go_wp2
  go_returns
  exact ⟨rfl, h2.wr⟩

set_option maxRecDepth 100000 in
set_option maxHeartbeats 8000000 in
theorem putM1_any (fr to tm ix lt cm hi cx : Int) (rj : Bool) (ea : Option Addr) (en ec : Nat) (si st : Int) (sa : Option Addr) (sn sc : Nat) (w : World) : Calls Try.prog 23 #[.agg #[], .agg #[.int .i64 1, .int .i64 fr, .int .i64 to, .int .i64 tm, .int .i64 ix, .int .i64 lt, .int .i64 cm, .int .i64 hi, .int .i64 cx, .bool rj, .slice ea en ec, .int .i64 si, .int .i64 st, .slice sa sn sc]] w fun r w' =>
    ∃ u, r = .returned (.tuple #[u, .int .i64 (ckM1 fr to tm ix lt cm hi cx rj en si st sn : Int)]) ∧ Ow w.heap.size w' u (if ckM1 fr to tm ix lt cm hi cx rj en si st sn = 0 then txM1 fr to tm ix lt else []) ∧ Below w.heap.size w w' := by
  have hbfr := numB_len fr.toNat
  have hbto := numB_len to.toNat
  have hbtm := numB_len tm.toNat
  have hb0 := numB_len 1
  have hbix := numB_len ix.toNat
  have hblt := numB_len lt.toNat
  obtain ⟨W0, hW0⟩ : ∃ W0, (w.alloc (.cells #[] 60)).alloc (.cells #[.int .i64 1, .int .i64 fr, .int .i64 to, .int .i64 tm, .int .i64 ix, .int .i64 lt, .int .i64 cm, .int .i64 hi, .int .i64 cx, .bool rj, .slice ea en ec, .int .i64 si, .int .i64 st, .slice sa sn sc] 49) = W0 := ⟨_, rfl⟩
  have HW0 : Hid ((w.alloc (.cells #[] 60)).alloc (.cells #[.int .i64 1, .int .i64 fr, .int .i64 to, .int .i64 tm, .int .i64 ix, .int .i64 lt, .int .i64 cm, .int .i64 hi, .int .i64 cx, .bool rj, .slice ea en ec, .int .i64 si, .int .i64 st, .slice sa sn sc] 49) = W0) := hW0
  have HB0 : Hid (Below w.heap.size w W0) := by show Below w.heap.size w W0; rw [← hW0]; exact (((Below.refl _ w).alloc (by simp) _).alloc (by simp) _)
  have HX : Hid (∀ w', Below W0.heap.size W0 w' → w'.heap[w.heap.size + 1]? = some (.cells #[.int .i64 1, .int .i64 fr, .int .i64 to, .int .i64 tm, .int .i64 ix, .int .i64 lt, .int .i64 cm, .int .i64 hi, .int .i64 cx, .bool rj, .slice ea en ec, .int .i64 si, .int .i64 st, .slice sa sn sc] 49 (0, 0))) := fun w' hB => by
    have hlt : w.heap.size + 1 < W0.heap.size := by rw [← hW0]; simp
    refine (hB.block _ hlt).trans ?_
    rw [← hW0]; simpa using World.alloc_heap_new (w.alloc (.cells #[] 60)) _
  clear hW0
  by_cases hk : ckM1 fr to tm ix lt cm hi cx rj en si st sn = 0
  · rw [if_pos hk]
    obtain ⟨kfr, kto, ktm, kix, klt, kcm, khi, kcx⟩ := ckM1_ok hk
    have k0 : isNumB 1 = true := by decide
    go_enter Try.func23, Try.ntmps23
    go_wp2_with (go_at_call 24; rw [HW0.out]; refine (chkM1_any _ _ _ _ _ _ _ _ _ _ _ _ _ _ _ _ _ _).mono ?_; rintro e w1 ⟨rfl, hB1⟩; rw [hk]; obtain ⟨⟨q0, q1, q2, q3, q4, q5, q6, q7, q8, q9, q10, q11, q12, q13⟩, -⟩ := cells14 (HX.out w1 hB1))
    refine (newW_any w1).mono ?_
    rintro r w2 ⟨rfl, h2⟩
    obtain ⟨⟨q0, q1, q2, q3, q4, q5, q6, q7, q8, q9, q10, q11, q12, q13⟩, -⟩ := cells14 (HX.out w2 (hB1.trans (h2.bel.mono hB1.size)))
    go_wp2_with fail
    refine (wrInt_any 1 h2 (by simp <;> omega) k0).mono ?_
    rintro r w3 ⟨rfl, h3⟩
    obtain ⟨⟨q0, q1, q2, q3, q4, q5, q6, q7, q8, q9, q10, q11, q12, q13⟩, -⟩ := cells14 (HX.out w3 (hB1.trans (h3.bel.mono hB1.size)))
    go_wp2_with fail
    refine (wrInt_any fr h3 (by simp <;> omega) kfr).mono ?_
    rintro r w4 ⟨rfl, h4⟩
    obtain ⟨⟨q0, q1, q2, q3, q4, q5, q6, q7, q8, q9, q10, q11, q12, q13⟩, -⟩ := cells14 (HX.out w4 (hB1.trans (h4.bel.mono hB1.size)))
    go_wp2_with fail
    refine (wrInt_any to h4 (by simp <;> omega) kto).mono ?_
    rintro r w5 ⟨rfl, h5⟩
    obtain ⟨⟨q0, q1, q2, q3, q4, q5, q6, q7, q8, q9, q10, q11, q12, q13⟩, -⟩ := cells14 (HX.out w5 (hB1.trans (h5.bel.mono hB1.size)))
    go_wp2_with fail
    refine (wrInt_any tm h5 (by simp <;> omega) ktm).mono ?_
    rintro r w6 ⟨rfl, h6⟩
    obtain ⟨⟨q0, q1, q2, q3, q4, q5, q6, q7, q8, q9, q10, q11, q12, q13⟩, -⟩ := cells14 (HX.out w6 (hB1.trans (h6.bel.mono hB1.size)))
    go_wp2_with fail
    refine (putU1_any _ _ _ _ _ _ _ _ _ _ _ _ _ _ _ _ _ h6 (by simp <;> omega) kix klt).mono ?_
    rintro r w7 ⟨rfl, h7⟩
    go_wp2_with fail
    refine (wrDone_any h7 (by simp <;> omega)).mono ?_
    rintro r w9 ⟨u, rfl, hO9, hB9⟩
    go_wp2
    go_ret2
    refine ⟨u, by rw [hk]; rfl, ?_, HB0.out.trans ((hB1.trans (hB9.mono hB1.size)).mono HB0.out.size)⟩
    have hO := hO9.base (N' := w.heap.size) (by have := hB1.size; have := HB0.out.size; omega)
    simpa [txM1, numB] using hO
  · rw [if_neg hk]
    have ck1 := fun w' => chkM1_any fr to tm ix lt cm hi cx rj ea en ec si st sa sn sc w'
    generalize ckM1 fr to tm ix lt cm hi cx rj en si st sn = ke at *
    have hke : ((ke : Int) != 0) = true := by simp; omega
    go_enter Try.func23, Try.ntmps23
    go_wp2_with (go_at_call 24; rw [HW0.out]; refine (ck1 _).mono ?_; rintro e w1 ⟨rfl, hB1⟩)
    go_ret2
    exact ⟨_, rfl, Ow.nil _ _, HB0.out.trans (hB1.mono HB0.out.size)⟩

end Go.Proofs.Ytfnnbfgfmbiabab
