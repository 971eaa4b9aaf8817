/-
  MsgW; MsgP1; Ent; EntC.
-/
import Derived.Test.YtfnnbfgfmbiabaaJ08
import Derived.Test.YtfnnbfgfmbiabaaJ12
/-
  The code's writer beside blocks that were made behind it, and that stay.
-/
namespace Go.Proofs.Ytfnnbfgfmbiabaa
open Go.RowKit Go.Shelf

/-- The code's writer, made at w0's end; the blocks of S are none of its own. -/
structure Ws (w0 w : World) (S : Nat → Prop) (l : List UInt8) : Prop where
  ex : ∃ v, Wtr 147 w0.heap.size w w0.heap.size v l 0 ∧ ∀ k, S k → v.ownBlock ≠ some k
  bel : Below w0.heap.size w0 w
  inS : ∀ k, S k → k < w.heap.size ∧ k ≠ w0.heap.size

theorem Wr.mono {w0 w w' : World} {l : List UInt8} (h : Wr w0 w l) (hB : Below w.heap.size w w') : Wr w0 w' l := by
  obtain ⟨⟨v, hW⟩, hb⟩ := h
  exact ⟨⟨v, hW.below hB (Nat.le_refl _)⟩, hb.trans (hB.mono hb.size)⟩
theorem Wv.mono {w0 w w' : World} {l : List UInt8} (h : Wv w0 w l) (hB : Below w.heap.size w w') : Wv w0 w' l := by
  obtain ⟨⟨v, hW⟩, hb⟩ := h
  exact ⟨⟨v, hW.below hB (Nat.le_refl _)⟩, hb.trans (hB.mono hb.size)⟩
theorem Ws.mono {w0 w w' : World} {S : Nat → Prop} {l : List UInt8} (h : Ws w0 w S l) (hB : Below w.heap.size w w') : Ws w0 w' S l := by
  obtain ⟨⟨v, hW, hv⟩, hb, hS⟩ := h
  exact ⟨⟨v, hW.below hB (Nat.le_refl _), hv⟩, hb.trans (hB.mono hb.size), fun k hk => ⟨Nat.lt_of_lt_of_le (hS k hk).1 hB.size, (hS k hk).2⟩⟩
theorem Ws.wr {w0 w : World} {S : Nat → Prop} {l : List UInt8} (h : Ws w0 w S l) : Wr w0 w l := by
  obtain ⟨⟨v, hW, -⟩, hb, -⟩ := h
  exact ⟨⟨v, hW⟩, hb⟩
/-- New blocks are none of the writer's. -/
theorem Wr.ws {w0 w w' : World} {S : Nat → Prop} {l : List UInt8} (h : Wr w0 w l) (hB : Below w.heap.size w w') (hS : ∀ k, S k → w.heap.size ≤ k ∧ k < w'.heap.size) : Ws w0 w' S l := by
  obtain ⟨⟨v, hW⟩, hb⟩ := h
  have hlt := hW.lt
  refine ⟨⟨v, hW.below hB (Nat.le_refl _), fun k hk e => ?_⟩, hb.trans (hB.mono hb.size), fun k hk => ⟨(hS k hk).2, ?_⟩⟩
  · have := (World.ownsRow.lt hW.ow k e).2
    have := (hS k hk).1
    omega
  · have := (hS k hk).1
    omega
/-- More of them. -/
theorem Ws.more {w0 w w' : World} {S S' : Nat → Prop} {l : List UInt8} (h : Ws w0 w S l) (hB : Below w.heap.size w w') (hS : ∀ k, S' k → S k ∨ (w.heap.size ≤ k ∧ k < w'.heap.size)) : Ws w0 w' S' l := by
  obtain ⟨⟨v, hW, hv⟩, hb, hs⟩ := h
  have hlt := hW.lt
  refine ⟨⟨v, hW.below hB (Nat.le_refl _), fun k hk e => ?_⟩, hb.trans (hB.mono hb.size), fun k hk => ?_⟩
  · rcases hS k hk with h1 | h1
    · exact hv k h1 e
    · have := (World.ownsRow.lt hW.ow k e).2
      omega
  · rcases hS k hk with h1 | h1
    · exact ⟨Nat.lt_of_lt_of_le (hs k h1).1 hB.size, (hs k h1).2⟩
    · exact ⟨h1.2, by omega⟩

theorem Ws.step {w0 w w' : World} {S : Nat → Prop} {l l' : List UInt8} {v v' : Value} (h : Ws w0 w S l) (hW : Wtr 147 w0.heap.size w w0.heap.size v l 0) (hv : ∀ k, S k → v.ownBlock ≠ some k)
    (hW' : Wtr 147 w0.heap.size w' w0.heap.size v' l' 0) (hT : Tn w w' w0.heap.size v) (hS : Son w v v') : Ws w0 w' S l' ∧ ∀ k, S k → w'.heap[k]? = w.heap[k]? := by
  refine ⟨⟨⟨v', hW', fun k hk e => ?_⟩, Tn.bel hW h.bel hT, fun k hk => ⟨Nat.lt_of_lt_of_le (h.inS k hk).1 hT.size, (h.inS k hk).2⟩⟩, fun k hk => hT.block k (h.inS k hk).1 (h.inS k hk).2 (hv k hk)⟩
  have h1 := (h.inS k hk).1
  rcases hS with hS | hS | ⟨i, hS, hi⟩
  · rw [hS] at e; cases e
  · exact hv k hk (hS ▸ e)
  · rw [hS] at e; cases e; omega

theorem wsInt_any (n : Int) {w0 w : World} {S : Nat → Prop} {l : List UInt8} (h : Ws w0 w S l) (hl : l.length ≤ 1073741824) (hn : isNumB n = true) :
    Calls Try.prog 55 #[.pointer (some ⟨w0.heap.size, 0, none⟩), .int .i64 n] w fun r w' => r = .returned (.tuple #[]) ∧ Ws w0 w' S (l ++ numB n.toNat) ∧ ∀ k, S k → w'.heap[k]? = w.heap[k]? := by
  obtain ⟨v, hW, hv⟩ := h.ex
  refine (wwInt_any _ _ v l 0 n w hW hl).mono ?_
  rintro r w' ⟨rfl, v', hW', hT, hS⟩
  rw [wInt_ok l n hn] at hW'
  exact ⟨rfl, h.step hW hv hW' hT hS⟩

theorem wsBool_any (t : Bool) {w0 w : World} {S : Nat → Prop} {l : List UInt8} (h : Ws w0 w S l) (hl : l.length ≤ 1073741824) :
    Calls Try.prog 111 #[.pointer (some ⟨w0.heap.size, 0, none⟩), .bool t] w fun r w' => r = .returned (.tuple #[]) ∧ Ws w0 w' S (l ++ numB (if t then 1 else 0)) ∧ ∀ k, S k → w'.heap[k]? = w.heap[k]? := by
  obtain ⟨v, hW, hv⟩ := h.ex
  refine (wwBool_any _ _ v l 0 t w hW hl).mono ?_
  rintro r w' ⟨rfl, v', hW', hT, hS⟩
  rw [wInt_ok l _ (bool_num t), bool_nat] at hW'
  exact ⟨rfl, h.step hW hv hW' hT hS⟩

/-- Bytes of new memory, behind the writer's. -/
theorem wsBytes_any (most : Int) {w0 w : World} {S : Nat → Prop} {l m : List UInt8} {x : Value} {N : Nat} (h : Ws w0 w S l) (hl : l.length ≤ 1073741824) (hm : m.length ≤ 1073741824) (hx : Ow N w x m) (hN : ∀ k, x.ownBlock = some k → S k) (hmost : (m.length : Int) ≤ most) :
    Calls Try.prog 56 #[.pointer (some ⟨w0.heap.size, 0, none⟩), x, .int .i64 most] w fun r w' => r = .returned (.tuple #[]) ∧ Ws w0 w' S (l ++ (numB m.length ++ m)) ∧ ∀ k, S k → w'.heap[k]? = w.heap[k]? := by
  obtain ⟨v, hW, hv⟩ := h.ex
  have hx' := hx.sl (Nat.le_refl w.heap.size)
  refine (wwBytes_any _ _ w.heap.size v x l m 0 most w hW hl hm hx' (Nat.le_refl _) (fun _ => ⟨fun e => (h.inS _ (hN _ e)).2 rfl, fun k hk => hv k (hN k hk)⟩)).mono ?_
  rintro r w' ⟨rfl, v', hW', hT, hS⟩
  rw [wBytes_ok l m most hmost] at hW'
  exact ⟨rfl, h.step hW hv hW' hT hS⟩
end Go.Proofs.Ytfnnbfgfmbiabaa

/-
  Messages of kind 1: put.
-/
namespace Go.Proofs.Ytfnnbfgfmbiabaa
open Go.RowKit Go.Shelf

theorem msgRange_ok {fr to tm ix lt cm hi cx : Int} (h : msgRange fr to tm ix lt cm hi cx = true) : isNumB fr = true ∧ isNumB to = true ∧ isNumB tm = true ∧ isNumB ix = true ∧ isNumB lt = true ∧ isNumB cm = true ∧ isNumB hi = true ∧ isNumB cx = true := by
  unfold msgRange at h
  simp only [Bool.and_eq_true] at h
  obtain ⟨⟨⟨⟨⟨⟨⟨h1, h2⟩, h3⟩, h4⟩, h5⟩, h6⟩, h7⟩, h8⟩ := h
  exact ⟨(isIn_num _ _ _ (by omega) (by omega) h1).1, (isIn_num _ _ _ (by omega) (by omega) h2).1, (isIn_num _ _ _ (by omega) (by omega) h3).1, (isIn_num _ _ _ (by omega) (by omega) h4).1, (isIn_num _ _ _ (by omega) (by omega) h5).1, (isIn_num _ _ _ (by omega) (by omega) h6).1, (isIn_num _ _ _ (by omega) (by omega) h7).1, (isIn_num _ _ _ (by omega) (by omega) h8).1⟩

def txM1 (fr to tm ix lt : Int) : List UInt8 := numB 1 ++ numB fr.toNat ++ numB to.toNat ++ numB tm.toNat ++ numB ix.toNat ++ numB lt.toNat
theorem ckM1_ok {fr to tm ix lt cm hi cx : Int} {rj : Bool} {en : Nat} {si st : Int} {sn : Nat} (h : ckM1 fr to tm ix lt cm hi cx rj en si st sn = 0) : isNumB fr = true ∧ isNumB to = true ∧ isNumB tm = true ∧ isNumB ix = true ∧ isNumB lt = true ∧ isNumB cm = true ∧ isNumB hi = true ∧ isNumB cx = true := by
  have hR : msgRange fr to tm ix lt cm hi cx = true := by
    cases hr : msgRange fr to tm ix lt cm hi cx
    · unfold ckM1 at h; rw [if_pos hr] at h; simp at h
    · rfl
  exact msgRange_ok hR

set_option maxRecDepth 100000 in
set_option maxHeartbeats 8000000 in
theorem putU1_any (fr to tm ix lt cm hi cx : Int) (rj : Bool) (ea : Option Addr) (en ec : Nat) (si st : Int) (sa : Option Addr) (sn sc : Nat) {w0 w : World} {l : List UInt8} (h : Wr w0 w l) (hl : l.length ≤ 1000000) (kix : isNumB ix = true) (klt : isNumB lt = true) :
    Calls Try.prog 81 #[.pointer (some ⟨w0.heap.size, 0, none⟩), .agg #[.int .i64 1, .int .i64 fr, .int .i64 to, .int .i64 tm, .int .i64 ix, .int .i64 lt, .int .i64 cm, .int .i64 hi, .int .i64 cx, .bool rj, .slice ea en ec, .int .i64 si, .int .i64 st, .slice sa sn sc]] w fun r w' => r = .returned (.int .i64 0) ∧ Wr w0 w' ((l ++ numB ix.toNat) ++ numB lt.toNat) := by
  have hbix := numB_len ix.toNat
  have hblt := numB_len lt.toNat
  obtain ⟨W0, hW0⟩ : ∃ W0, w.alloc (.cells #[.int .i64 1, .int .i64 fr, .int .i64 to, .int .i64 tm, .int .i64 ix, .int .i64 lt, .int .i64 cm, .int .i64 hi, .int .i64 cx, .bool rj, .slice ea en ec, .int .i64 si, .int .i64 st, .slice sa sn sc] 95) = W0 := ⟨_, rfl⟩
  have HW0 : Hid (w.alloc (.cells #[.int .i64 1, .int .i64 fr, .int .i64 to, .int .i64 tm, .int .i64 ix, .int .i64 lt, .int .i64 cm, .int .i64 hi, .int .i64 cx, .bool rj, .slice ea en ec, .int .i64 si, .int .i64 st, .slice sa sn sc] 95) = W0) := hW0
  have h0 : Ws w0 W0 (fun k => k = w.heap.size) l := by rw [← hW0]; exact h.ws ((Below.refl _ w).alloc (Nat.le_refl _) _) (fun k hk => by subst hk; simp)
  have hc0 : W0.heap[w.heap.size]? = some (.cells #[.int .i64 1, .int .i64 fr, .int .i64 to, .int .i64 tm, .int .i64 ix, .int .i64 lt, .int .i64 cm, .int .i64 hi, .int .i64 cx, .bool rj, .slice ea en ec, .int .i64 si, .int .i64 st, .slice sa sn sc] 95 (0, 0)) := by rw [← hW0]; exact World.alloc_heap_new w _
  clear hW0
  obtain ⟨⟨q0, q1, q2, q3, q4, q5, q6, q7, q8, q9, q10, q11, q12, q13⟩, -⟩ := cells14 hc0
  have HC0 : Hid (W0.heap[w.heap.size]? = some (.cells #[.int .i64 1, .int .i64 fr, .int .i64 to, .int .i64 tm, .int .i64 ix, .int .i64 lt, .int .i64 cm, .int .i64 hi, .int .i64 cx, .bool rj, .slice ea en ec, .int .i64 si, .int .i64 st, .slice sa sn sc] 95 (0, 0))) := hc0
  clear hc0
  go_enter Try.func81, Try.ntmps81
  go_wp2_with fail
  rw [HW0.out]
  refine (wsInt_any ix h0 (by first | omega | (simp <;> omega)) kix).mono ?_
  rintro r w1 ⟨rfl, h1, hk1⟩
  have HC1 : Hid (w1.heap[w.heap.size]? = some (.cells #[.int .i64 1, .int .i64 fr, .int .i64 to, .int .i64 tm, .int .i64 ix, .int .i64 lt, .int .i64 cm, .int .i64 hi, .int .i64 cx, .bool rj, .slice ea en ec, .int .i64 si, .int .i64 st, .slice sa sn sc] 95 (0, 0))) := (hk1 _ rfl).trans HC0.out
  obtain ⟨⟨q0, q1, q2, q3, q4, q5, q6, q7, q8, q9, q10, q11, q12, q13⟩, -⟩ := cells14 HC1.out
  go_wp2_with fail
  refine (wsInt_any lt h1 (by first | omega | (simp <;> omega)) klt).mono ?_
  rintro r w2 ⟨rfl, h2, hk2⟩
  have HC2 : Hid (w2.heap[w.heap.size]? = some (.cells #[.int .i64 1, .int .i64 fr, .int .i64 to, .int .i64 tm, .int .i64 ix, .int .i64 lt, .int .i64 cm, .int .i64 hi, .int .i64 cx, .bool rj, .slice ea en ec, .int .i64 si, .int .i64 st, .slice sa sn sc] 95 (0, 0))) := (hk2 _ rfl).trans HC1.out
  obtain ⟨⟨q0, q1, q2, q3, q4, q5, q6, q7, q8, q9, q10, q11, q12, q13⟩, -⟩ := cells14 HC2.out
  go_wp2
  go_returns
  exact ⟨rfl, h2.wr⟩

set_option maxRecDepth 100000 in
set_option maxHeartbeats 8000000 in
theorem putM1_any (fr to tm ix lt cm hi cx : Int) (rj : Bool) (ea : Option Addr) (en ec : Nat) (si st : Int) (sa : Option Addr) (sn sc : Nat) (w : World) : Calls Try.prog 47 #[.agg #[], .agg #[.int .i64 1, .int .i64 fr, .int .i64 to, .int .i64 tm, .int .i64 ix, .int .i64 lt, .int .i64 cm, .int .i64 hi, .int .i64 cx, .bool rj, .slice ea en ec, .int .i64 si, .int .i64 st, .slice sa sn sc]] w fun r w' =>
    ∃ u, r = .returned (.tuple #[u, .int .i64 (ckM1 fr to tm ix lt cm hi cx rj en si st sn : Int)]) ∧ Ow w.heap.size w' u (if ckM1 fr to tm ix lt cm hi cx rj en si st sn = 0 then txM1 fr to tm ix lt else []) ∧ Below w.heap.size w w' := by
  have hbfr := numB_len fr.toNat
  have hbto := numB_len to.toNat
  have hbtm := numB_len tm.toNat
  have hb0 := numB_len 1
  have hbix := numB_len ix.toNat
  have hblt := numB_len lt.toNat
  obtain ⟨W0, hW0⟩ : ∃ W0, (w.alloc (.cells #[] 97)).alloc (.cells #[.int .i64 1, .int .i64 fr, .int .i64 to, .int .i64 tm, .int .i64 ix, .int .i64 lt, .int .i64 cm, .int .i64 hi, .int .i64 cx, .bool rj, .slice ea en ec, .int .i64 si, .int .i64 st, .slice sa sn sc] 95) = W0 := ⟨_, rfl⟩
  have HW0 : Hid ((w.alloc (.cells #[] 97)).alloc (.cells #[.int .i64 1, .int .i64 fr, .int .i64 to, .int .i64 tm, .int .i64 ix, .int .i64 lt, .int .i64 cm, .int .i64 hi, .int .i64 cx, .bool rj, .slice ea en ec, .int .i64 si, .int .i64 st, .slice sa sn sc] 95) = W0) := hW0
  have HB0 : Hid (Below w.heap.size w W0) := by show Below w.heap.size w W0; rw [← hW0]; exact (((Below.refl _ w).alloc (by simp) _).alloc (by simp) _)
  have HX : Hid (∀ w', Below W0.heap.size W0 w' → w'.heap[w.heap.size + 1]? = some (.cells #[.int .i64 1, .int .i64 fr, .int .i64 to, .int .i64 tm, .int .i64 ix, .int .i64 lt, .int .i64 cm, .int .i64 hi, .int .i64 cx, .bool rj, .slice ea en ec, .int .i64 si, .int .i64 st, .slice sa sn sc] 95 (0, 0))) := fun w' hB => by
    have hlt : w.heap.size + 1 < W0.heap.size := by rw [← hW0]; simp
    refine (hB.block _ hlt).trans ?_
    rw [← hW0]; simpa using World.alloc_heap_new (w.alloc (.cells #[] 97)) _
  clear hW0
  by_cases hk : ckM1 fr to tm ix lt cm hi cx rj en si st sn = 0
  · rw [if_pos hk]
    obtain ⟨kfr, kto, ktm, kix, klt, kcm, khi, kcx⟩ := ckM1_ok hk
    have k0 : isNumB 1 = true := by decide
    go_enter Try.func47, Try.ntmps47
    go_wp2_with (go_at_call 49; rw [HW0.out]; refine (chkM1_any _ _ _ _ _ _ _ _ _ _ _ _ _ _ _ _ _ _).mono ?_; rintro e w1 ⟨rfl, hB1⟩; rw [hk]; obtain ⟨⟨q0, q1, q2, q3, q4, q5, q6, q7, q8, q9, q10, q11, q12, q13⟩, -⟩ := cells14 (HX.out w1 hB1))
    refine (newW_any w1).mono ?_
    rintro r w2 ⟨rfl, h2⟩
    obtain ⟨⟨q0, q1, q2, q3, q4, q5, q6, q7, q8, q9, q10, q11, q12, q13⟩, -⟩ := cells14 (HX.out w2 (hB1.trans (h2.bel.mono hB1.size)))
    go_wp2_with fail
    refine (wrInt_any 1 h2 (by simp <;> omega) k0).mono ?_
    rintro r w3 ⟨rfl, h3⟩
    obtain ⟨⟨q0, q1, q2, q3, q4, q5, q6, q7, q8, q9, q10, q11, q12, q13⟩, -⟩ := cells14 (HX.out w3 (hB1.trans (h3.bel.mono hB1.size)))
    go_wp2_with fail
    refine (wrInt_any fr h3 (by simp <;> omega) kfr).mono ?_
    rintro r w4 ⟨rfl, h4⟩
    obtain ⟨⟨q0, q1, q2, q3, q4, q5, q6, q7, q8, q9, q10, q11, q12, q13⟩, -⟩ := cells14 (HX.out w4 (hB1.trans (h4.bel.mono hB1.size)))
    go_wp2_with fail
    refine (wrInt_any to h4 (by simp <;> omega) kto).mono ?_
    rintro r w5 ⟨rfl, h5⟩
    obtain ⟨⟨q0, q1, q2, q3, q4, q5, q6, q7, q8, q9, q10, q11, q12, q13⟩, -⟩ := cells14 (HX.out w5 (hB1.trans (h5.bel.mono hB1.size)))
    go_wp2_with fail
    refine (wrInt_any tm h5 (by simp <;> omega) ktm).mono ?_
    rintro r w6 ⟨rfl, h6⟩
    obtain ⟨⟨q0, q1, q2, q3, q4, q5, q6, q7, q8, q9, q10, q11, q12, q13⟩, -⟩ := cells14 (HX.out w6 (hB1.trans (h6.bel.mono hB1.size)))
    go_wp2_with fail
    refine (putU1_any _ _ _ _ _ _ _ _ _ _ _ _ _ _ _ _ _ h6 (by simp <;> omega) kix klt).mono ?_
    rintro r w7 ⟨rfl, h7⟩
    go_wp2_with fail
    refine (wrDone_any h7 (by simp <;> omega)).mono ?_
    rintro r w9 ⟨u, rfl, hO9, hB9⟩
    go_wp2
    go_ret2
    refine ⟨u, by rw [hk]; rfl, ?_, HB0.out.trans ((hB1.trans (hB9.mono hB1.size)).mono HB0.out.size)⟩
    have hO := hO9.base (N' := w.heap.size) (by have := hB1.size; have := HB0.out.size; omega)
    simpa [txM1, numB] using hO
  · rw [if_neg hk]
    have ck1 := fun w' => chkM1_any fr to tm ix lt cm hi cx rj ea en ec si st sa sn sc w'
    generalize ckM1 fr to tm ix lt cm hi cx rj en si st sn = ke at *
    have hke : ((ke : Int) != 0) = true := by simp; omega
    go_enter Try.func47, Try.ntmps47
    go_wp2_with (go_at_call 49; rw [HW0.out]; refine (ck1 _).mono ?_; rintro e w1 ⟨rfl, hB1⟩)
    go_ret2
    exact ⟨_, rfl, Ow.nil _ _, HB0.out.trans (hB1.mono HB0.out.size)⟩

end Go.Proofs.Ytfnnbfgfmbiabaa

/-
  Entries in memory: a list of them, as the walks read it.
-/
namespace Go.Proofs.Ytfnnbfgfmbiabaa
open Go.RowKit Go.Shelf

/-- An entry, as it lies in memory. -/
structure Ent where
  t : Int
  i : Int
  k : Int
  a : Option Addr
  c : Nat
  d : List UInt8

/-- No entry. -/
def nilEnt : Ent := ⟨0, 0, 0, none, 0, []⟩
def Ent.x (e : Ent) : Value := .slice e.a e.d.length e.c
def Ent.ck (e : Ent) : Nat := ckEntry e.t e.i e.k e.d.length
/-- What an entry says. -/
def Ent.says (e : Ent) : Int × Int × Int × List UInt8 := (e.t, e.i, e.k, e.d)

/-- One entry lies at a place. -/
def EntAt (N : Nat) (w : World) (b off : Nat) (e : Ent) : Prop :=
  w.cell? ⟨b, off, none⟩ = some (.int .i64 e.t) ∧ w.cell? ⟨b, off + 1, none⟩ = some (.int .i64 e.i) ∧ w.cell? ⟨b, off + 2, none⟩ = some (.int .i64 e.k) ∧ w.cell? ⟨b, off + 3, none⟩ = some e.x ∧ Sl N w e.x e.d

/-- A list of entries, in blocks below N. -/
def EntsAt (N : Nat) (w : World) (a : Option Addr) (es : List Ent) : Prop :=
  es = [] ∨ ∃ b off, a = some ⟨b, off, none⟩ ∧ b < N ∧ ∀ i, i < es.length → EntAt N w b (off + i * 4) (es.getD i nilEnt)

theorem EntAt.below {N : Nat} {w w' : World} {b off : Nat} {e : Ent} (h : EntAt N w b off e) (hb : b < N) (hB : Below N w w') : EntAt N w' b off e :=
  ⟨(hB.cell (p := ⟨b, off, none⟩) hb).trans h.1, (hB.cell (p := ⟨b, off + 1, none⟩) hb).trans h.2.1, (hB.cell (p := ⟨b, off + 2, none⟩) hb).trans h.2.2.1, (hB.cell (p := ⟨b, off + 3, none⟩) hb).trans h.2.2.2.1, h.2.2.2.2.below hB⟩
theorem EntsAt.below {N : Nat} {w w' : World} {a : Option Addr} {es : List Ent} (h : EntsAt N w a es) (hB : Below N w w') : EntsAt N w' a es := by
  rcases h with h | ⟨b, off, ha, hb, hc⟩
  · exact .inl h
  · exact .inr ⟨b, off, ha, hb, fun i hi => (hc i hi).below hb hB⟩
theorem EntAt.mono {N M : Nat} {w : World} {b off : Nat} {e : Ent} (h : EntAt N w b off e) (hM : N ≤ M) : EntAt M w b off e := ⟨h.1, h.2.1, h.2.2.1, h.2.2.2.1, h.2.2.2.2.mono hM⟩
theorem EntsAt.mono {N M : Nat} {w : World} {a : Option Addr} {es : List Ent} (h : EntsAt N w a es) (hM : N ≤ M) : EntsAt M w a es := by
  rcases h with h | ⟨b, off, ha, hb, hc⟩
  · exact .inl h
  · exact .inr ⟨b, off, ha, by omega, fun i hi => (hc i hi).mono hM⟩
theorem EntsAt.at {N : Nat} {w : World} {a : Option Addr} {es : List Ent} (h : EntsAt N w a es) {i : Nat} (hi : i < es.length) : ∃ b off, a = some ⟨b, off, none⟩ ∧ b < N ∧ EntAt N w b (off + i * 4) (es.getD i nilEnt) := by
  rcases h with h | ⟨b, off, ha, hb, hc⟩
  · subst h; simp at hi
  · exact ⟨b, off, ha, hb, hc i hi⟩

/-- The first error of entries. -/
def firstErr : List Ent → Nat
  | [] => 0
  | e :: r => if e.ck ≠ 0 then e.ck else firstErr r
/-- Do they go on from a place, up to a term? -/
def goes (tm : Int) : Int → Int → List Ent → Bool
  | _, _, [] => true
  | ix, lt, e :: r => (e.i == ix + 1) && isIn e.t lt tm && goes tm (ix + 1) e.t r

theorem drop_at {l : List Ent} {k : Nat} (h : k < l.length) : l.drop k = l.getD k nilEnt :: l.drop (k + 1) := by
  rw [List.drop_eq_getElem_cons h, List.getD_eq_getElem?_getD, List.getElem?_eq_getElem h]; rfl
end Go.Proofs.Ytfnnbfgfmbiabaa

/-
  Entries of a message: the code's looks at them.
-/
namespace Go.Proofs.Ytfnnbfgfmbiabaa
open Go.RowKit Go.Shelf

theorem firstErr_ok {e : Ent} {r : List Ent} (h : e.ck = 0) : firstErr (e :: r) = firstErr r := by simp [firstErr, h]
theorem firstErr_no {e : Ent} {r : List Ent} (h : e.ck ≠ 0) : firstErr (e :: r) = e.ck := by simp [firstErr, h]

/-- What may be of an append. -/
def ckApp (tm ix lt : Int) (es : List Ent) : Nat :=
  if 64 < es.length then 3 else if firstErr es ≠ 0 then firstErr es else fI (decide (tm < lt) || !((ix == 0) == (lt == 0)) || !goes tm ix lt es)

set_option maxRecDepth 100000 in
set_option maxHeartbeats 8000000 in
theorem goOn_any (fr to tm ix lt cm hi cx : Int) (rj : Bool) (ea : Option Addr) (ec : Nat) (es : List Ent) (si st : Int) (sa : Option Addr) (sn sc : Nat) (w : World) (N : Nat) (hE : EntsAt N w ea es) (hN : N ≤ w.heap.size) (hn : es.length ≤ 64) (hix : 0 ≤ ix ∧ ix ≤ 4611686018427387904) : Calls Try.prog 114 #[.agg #[.int .i64 3, .int .i64 fr, .int .i64 to, .int .i64 tm, .int .i64 ix, .int .i64 lt, .int .i64 cm, .int .i64 hi, .int .i64 cx, .bool rj, .slice ea es.length ec, .int .i64 si, .int .i64 st, .slice sa sn sc]] w fun e w' => e = .returned (.bool (goes tm ix lt es)) ∧ Below w.heap.size w w' := by
  obtain ⟨W0, hW0⟩ : ∃ W0, w.alloc (.cells #[.int .i64 3, .int .i64 fr, .int .i64 to, .int .i64 tm, .int .i64 ix, .int .i64 lt, .int .i64 cm, .int .i64 hi, .int .i64 cx, .bool rj, .slice ea es.length ec, .int .i64 si, .int .i64 st, .slice sa sn sc] 95) = W0 := ⟨_, rfl⟩
  have HW0 : Hid (w.alloc (.cells #[.int .i64 3, .int .i64 fr, .int .i64 to, .int .i64 tm, .int .i64 ix, .int .i64 lt, .int .i64 cm, .int .i64 hi, .int .i64 cx, .bool rj, .slice ea es.length ec, .int .i64 si, .int .i64 st, .slice sa sn sc] 95) = W0) := hW0
  have HB0 : Hid (Below w.heap.size w W0) := by show Below w.heap.size w W0; rw [← hW0]; exact (Below.refl _ w).alloc (by simp) _
  have HX : Hid (∀ w', Below W0.heap.size W0 w' → w'.heap[w.heap.size]? = some (.cells #[.int .i64 3, .int .i64 fr, .int .i64 to, .int .i64 tm, .int .i64 ix, .int .i64 lt, .int .i64 cm, .int .i64 hi, .int .i64 cx, .bool rj, .slice ea es.length ec, .int .i64 si, .int .i64 st, .slice sa sn sc] 95 (0, 0))) := fun w' hB => by
    refine (hB.block _ (by rw [← hW0]; simp)).trans ?_
    rw [← hW0]; exact World.alloc_heap_new w _
  have hE0 := hE.below (HB0.out.mono hN)
  obtain ⟨⟨q0, q1, q2, q3, q4, q5, q6, q7, q8, q9, q10, q11, q12, q13⟩, -⟩ := cells14 (HX.out W0 (Below.refl _ _))
  have HEE : Hid (EntsAt N W0 ea es) := hE0
  clear hE hE0 hW0
  go_enter Try.func114, Try.ntmps114
  go_wp2_with fail
  rw [HW0.out]
  clear q0 q1 q2 q3 q4 q5 q6 q7 q8 q9 q10 q11 q12 q13
  go_loopw [3, 11] (fun tv iv wr => ∃ (k : Nat) (T : Int), iv = .int .i64 (k : Int) ∧ tv = .int .i64 T ∧ k ≤ es.length ∧ goes tm (ix + k) T (es.drop k) = goes tm ix lt es ∧ Below W0.heap.size W0 wr) (fun _ iv _ => es.length - (intOf iv).toNat)
  case atStart => exact ⟨0, lt, rfl, rfl, Nat.zero_le _, by simp, Below.refl _ _⟩
  case round =>
    obtain ⟨k, T, rfl, rfl, hk, hg, hB⟩ := hrel
    have HG : Hid (goes tm (ix + k) T (es.drop k) = goes tm ix lt es) := hg
    have HB : Hid (Below W0.heap.size W0 wr) := hB
    have hlw : w.heap.size < wr.heap.size := by have := hB.size; have := HB0.out.size; have : W0.heap.size = w.heap.size + 1 := by rw [← HW0.out]; simp
                                                omega
    obtain ⟨⟨q0, q1, q2, q3, q4, q5, q6, q7, q8, q9, q10, q11, q12, q13⟩, -⟩ := cells14 (HX.out wr hB)
    clear hg
    by_cases hlt : k < es.length
    · obtain ⟨b, off, hea, hb, he⟩ := HEE.out.at hlt
      subst hea
      have he' := he.below hb (hB.mono (by have := HB0.out.size; omega))
      have HD : Hid (es.drop k = es.getD k nilEnt :: es.drop (k + 1)) := drop_at hlt
      generalize es.getD k nilEnt = e at *
      obtain ⟨et, ei, ek, eaa, ecc, ed⟩ := e
      obtain ⟨c0, c1, c2, c3, -⟩ := he'
      unfold Ent.x at c3
      simp only at c0 c1 c2 c3
      have hbw : b < wr.heap.size := by have := HB0.out.size; have := hB.size; omega
      clear he hB
      by_cases h1 : ei = ix + 1 + k
      · by_cases h2 : isIn et T tm = true
        · go_wp2_with (go_at_call 61; refine (within_any _ _ _ _).mono ?_; rintro e w' ⟨rfl, hw⟩; subst w'; simp only [h2])
          refine ⟨⟨k + 1, et, by go_num, rfl, by omega, ?_, HB.out.alloc HB.out.size _⟩, by simp [intOf]; omega⟩
          have hg := HG.out
          rw [HD.out] at hg
          simp only [goes, h2] at hg
          rw [show (ei == ix + (k : Int) + 1) = true by simp; omega] at hg
          rw [show ix + ((k + 1 : Nat) : Int) = ix + (k : Int) + 1 by omega]
          simpa using hg
        · have h2' : isIn et T tm = false := by simpa using h2
          go_wp2_with (go_at_call 61; refine (within_any _ _ _ _).mono ?_; rintro e w' ⟨rfl, hw⟩; subst w'; simp only [h2'])
          go_returns
          have hg := HG.out
          rw [HD.out] at hg
          simp only [goes, h2'] at hg
          exact ⟨by rw [← hg]; simp, HB0.out.trans ((HB.out.alloc HB.out.size _).mono HB0.out.size)⟩
      · have h1' : (ei == ix + 1 + (k : Int)) = false := by simpa using h1
        have h1n : (ei != ix + 1 + (k : Int)) = true := by simpa using h1
        go_wp2
        go_returns
        have hg := HG.out
        rw [HD.out] at hg
        simp only [goes] at hg
        rw [show (ei == ix + (k : Int) + 1) = false by simp; omega] at hg
        exact ⟨by rw [← hg]; simp, HB0.out.trans ((HB.out.alloc HB.out.size _).mono HB0.out.size)⟩
    · go_wp2
      go_returns
      have := HG.out
      rw [List.drop_of_length_le (by omega)] at this
      exact ⟨by rw [← this]; rfl, HB0.out.trans (HB.out.mono HB0.out.size)⟩

set_option maxRecDepth 100000 in
set_option maxHeartbeats 8000000 in
theorem checkApp_any (fr to tm ix lt cm hi cx : Int) (rj : Bool) (ea : Option Addr) (ec : Nat) (es : List Ent) (si st : Int) (sa : Option Addr) (sn sc : Nat) (w : World) (N : Nat) (hE : EntsAt N w ea es) (hN : N ≤ w.heap.size) (hix : 0 ≤ ix ∧ ix ≤ 4611686018427387904) : Calls Try.prog 87 #[.agg #[.int .i64 3, .int .i64 fr, .int .i64 to, .int .i64 tm, .int .i64 ix, .int .i64 lt, .int .i64 cm, .int .i64 hi, .int .i64 cx, .bool rj, .slice ea es.length ec, .int .i64 si, .int .i64 st, .slice sa sn sc]] w fun e w' => e = .returned (.int .i64 (ckApp tm ix lt es : Int)) ∧ Below w.heap.size w w' := by
  obtain ⟨W0, hW0⟩ : ∃ W0, w.alloc (.cells #[.int .i64 3, .int .i64 fr, .int .i64 to, .int .i64 tm, .int .i64 ix, .int .i64 lt, .int .i64 cm, .int .i64 hi, .int .i64 cx, .bool rj, .slice ea es.length ec, .int .i64 si, .int .i64 st, .slice sa sn sc] 95) = W0 := ⟨_, rfl⟩
  have HW0 : Hid (w.alloc (.cells #[.int .i64 3, .int .i64 fr, .int .i64 to, .int .i64 tm, .int .i64 ix, .int .i64 lt, .int .i64 cm, .int .i64 hi, .int .i64 cx, .bool rj, .slice ea es.length ec, .int .i64 si, .int .i64 st, .slice sa sn sc] 95) = W0) := hW0
  have HB0 : Hid (Below w.heap.size w W0) := by show Below w.heap.size w W0; rw [← hW0]; exact (Below.refl _ w).alloc (by simp) _
  have HX : Hid (∀ w', Below W0.heap.size W0 w' → w'.heap[w.heap.size]? = some (.cells #[.int .i64 3, .int .i64 fr, .int .i64 to, .int .i64 tm, .int .i64 ix, .int .i64 lt, .int .i64 cm, .int .i64 hi, .int .i64 cx, .bool rj, .slice ea es.length ec, .int .i64 si, .int .i64 st, .slice sa sn sc] 95 (0, 0))) := fun w' hB => by
    refine (hB.block _ (by rw [← hW0]; simp)).trans ?_
    rw [← hW0]; exact World.alloc_heap_new w _
  have HS0 : Hid (W0.heap.size = w.heap.size + 1) := by show W0.heap.size = _; rw [← hW0]; simp
  have hE0 := hE.below (HB0.out.mono hN)
  obtain ⟨⟨q0, q1, q2, q3, q4, q5, q6, q7, q8, q9, q10, q11, q12, q13⟩, -⟩ := cells14 (HX.out W0 (Below.refl _ _))
  have HEE : Hid (EntsAt N W0 ea es) := hE0
  clear hE hE0 hW0
  by_cases hn : 64 < es.length
  case pos =>
    have hn' : (64 : Int) < (es.length : Int) := by omega
    have e0 : ckApp tm ix lt es = 3 := by simp [ckApp, hn]
    rw [e0]; clear e0
    go_enter Try.func87, Try.ntmps87
    go_wp2
    go_returns
    exact ⟨rfl, by have := HB0.out; rw [← HW0.out] at this; exact this⟩
  have hn' : (es.length : Int) ≤ 64 := by omega
  go_enter Try.func87, Try.ntmps87
  go_wp2_with fail
  rw [HW0.out]
  clear q0 q1 q2 q3 q4 q5 q6 q7 q8 q9 q10 q11 q12 q13
  go_loopw [13] (fun iv wr => ∃ (k : Nat), iv = .int .i64 (k : Int) ∧ k ≤ es.length ∧ firstErr (es.drop k) = firstErr es ∧ Below W0.heap.size W0 wr) (fun iv _ => es.length - (intOf iv).toNat)
  case atStart => exact ⟨0, rfl, Nat.zero_le _, by simp, Below.refl _ _⟩
  case round =>
    obtain ⟨k, rfl, hk, hg, hB⟩ := hrel
    have HG : Hid (firstErr (es.drop k) = firstErr es) := hg
    have HB : Hid (Below W0.heap.size W0 wr) := hB
    have hlw : w.heap.size < wr.heap.size := by have := hB.size; have := HS0.out; omega
    obtain ⟨⟨q0, q1, q2, q3, q4, q5, q6, q7, q8, q9, q10, q11, q12, q13⟩, -⟩ := cells14 (HX.out wr hB)
    clear hg
    by_cases hlt : k < es.length
    · obtain ⟨b, off, hea, hb, he⟩ := HEE.out.at hlt
      subst hea
      have he' := he.below hb (hB.mono (by have := HB0.out.size; omega))
      have HD : Hid (es.drop k = es.getD k nilEnt :: es.drop (k + 1)) := drop_at hlt
      generalize es.getD k nilEnt = e at *
      obtain ⟨et, ei, ek, eaa, ecc, ed⟩ := e
      obtain ⟨c0, c1, c2, c3, -⟩ := he'
      unfold Ent.x at c3
      simp only at c0 c1 c2 c3
      have hbw : b < wr.heap.size := by have := HB0.out.size; have := hB.size; omega
      have hgg := HG.out
      rw [HD.out] at hgg
      have HGG : Hid (firstErr ((⟨et, ei, ek, eaa, ecc, ed⟩ : Ent) :: List.drop (k + 1) es) = firstErr es) := hgg
      have ckA := fun w' => ckEntry_any et ei ek eaa ed.length ecc w'
      obtain ⟨K, hKK⟩ : ∃ K, ckEntry et ei ek ed.length = K := ⟨_, rfl⟩
      have HKK : Hid ((⟨et, ei, ek, eaa, ecc, ed⟩ : Ent).ck = K) := hKK
      rw [hKK] at ckA
      clear he hB hgg hKK
      by_cases hK : K = 0
      · subst hK
        go_wp2_with (go_at_call 14; refine (ckA _).mono ?_; rintro e w5 ⟨rfl, hB5⟩; have HB5 : Hid (Below W0.heap.size W0 w5) := (HB.out.alloc HB.out.size _).trans (hB5.mono (by have := HB.out.size; simp; omega)))
        refine ⟨⟨k + 1, by go_num, by omega, ?_, HB5.out⟩, by simp [intOf]; omega⟩
        rw [← HGG.out]
        exact (firstErr_ok HKK.out).symm
      · have hke : ((K : Int) != 0) = true := by simp; omega
        have HEK : Hid (ckApp tm ix lt es = K) := by
          show ckApp tm ix lt es = K
          have := HGG.out
          rw [firstErr_no (by rw [HKK.out]; exact hK), HKK.out] at this
          unfold ckApp
          rw [if_neg hn, ← this, if_pos hK]
        go_wp2_with (go_at_call 14; refine (ckA _).mono ?_; rintro e w5 ⟨rfl, hB5⟩; have HB5 : Hid (Below W0.heap.size W0 w5) := (HB.out.alloc HB.out.size _).trans (hB5.mono (by have := HB.out.size; simp; omega)))
        go_returns
        exact ⟨by rw [HEK.out]; rfl, HB0.out.trans (HB5.out.mono HB0.out.size)⟩
    · have HF0 : Hid (firstErr es = 0) := by
        have := HG.out
        rw [List.drop_of_length_le (by omega)] at this
        exact this.symm
      have HEK : Hid (ckApp tm ix lt es = fI (decide (tm < lt) || !((ix == 0) == (lt == 0)) || !goes tm ix lt es)) := by
        show ckApp tm ix lt es = _
        unfold ckApp
        rw [if_neg hn, HF0.out]
        rfl
      by_cases h1 : tm < lt
      · have h1' : decide (tm < lt) = true := by simpa using h1
        go_wp2_with (go_at_call 88; refine (formIf_any _ _).mono ?_; rintro e w' ⟨rfl, hw⟩; subst w')
        go_returns
        exact ⟨by rw [HEK.out, h1']; rfl, HB0.out.trans (HB.out.mono HB0.out.size)⟩
      · have h1' : decide (tm < lt) = false := by simpa using h1
        by_cases h2 : ((ix == 0) == (lt == 0)) = true
        · go_wp2_with (first
            | (go_at_call 89; refine (isPlace_any _ _ _ _ _ _ _ _ _ _ _ _ _ _ _ _ _ _ _).mono ?_; rintro e w6 ⟨rfl, hB6⟩; rw [h2]; have hB6' := HB.out.trans (hB6.mono HB.out.size); obtain ⟨⟨q0, q1, q2, q3, q4, q5, q6, q7, q8, q9, q10, q11, q12, q13⟩, -⟩ := cells14 (HX.out w6 hB6'))
            | (go_at_call 114; refine (goOn_any fr to tm ix lt cm hi cx rj ea ec es si st sa sn sc w6 N (HEE.out.below (hB6'.mono (by have := HS0.out; omega))) (by have := hB6'.size; have := HS0.out; omega) (by omega) hix).mono ?_; rintro e w7 ⟨rfl, hB7⟩; have hB7' := hB6'.trans (hB7.mono hB6'.size))
            | (go_at_call 88; refine (formIf_any _ _).mono ?_; rintro e w' ⟨rfl, hw⟩; subst w'))
          go_returns
          exact ⟨by rw [HEK.out, h1', h2]; rfl, HB0.out.trans (hB7'.mono HB0.out.size)⟩
        · have h2' : ((ix == 0) == (lt == 0)) = false := by simpa using h2
          go_wp2_with (first
            | (go_at_call 89; refine (isPlace_any _ _ _ _ _ _ _ _ _ _ _ _ _ _ _ _ _ _ _).mono ?_; rintro e w6 ⟨rfl, hB6⟩; rw [h2']; have hB6' := HB.out.trans (hB6.mono HB.out.size))
            | (go_at_call 88; refine (formIf_any _ _).mono ?_; rintro e w' ⟨rfl, hw⟩; subst w'))
          go_returns
          exact ⟨by rw [HEK.out, h1', h2']; rfl, HB0.out.trans (hB6'.mono HB0.out.size)⟩

end Go.Proofs.Ytfnnbfgfmbiabaa

