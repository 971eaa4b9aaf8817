/-
  GetM7; MsgU.
-/
import Derived.Test.YtfnnbfgfmbiababJ29
import Derived.Test.YtfnnbfgfmbiababJ39
import Derived.Test.YtfnnbfgfmbiababJ26
import Derived.Test.YtfnnbfgfmbiababJ20
import Derived.Test.YtfnnbfgfmbiababJ33
import Derived.Test.YtfnnbfgfmbiababJ30
import Derived.Test.YtfnnbfgfmbiababJ37
import Derived.Test.YtfnnbfgfmbiababJ36
import Derived.Test.YtfnnbfgfmbiababJ34
import Derived.Test.YtfnnbfgfmbiababJ40
import Derived.Test.YtfnnbfgfmbiababJ35
import Derived.Test.YtfnnbfgfmbiababJ25
import Derived.Test.YtfnnbfgfmbiababJ41
import Derived.Test.YtfnnbfgfmbiababJ18
import Derived.Test.YtfnnbfgfmbiababJ32
/-
  A message of kind 7 read: the code's Get.
-/
namespace Go.Proofs.Ytfnnbfgfmbiabab
open Go.RowKit Go.Shelf

/-- What Get answers of a message of kind 7. -/
def Got7 (w : World) (fr to tm G0 G1 : Nat) (G2 : List UInt8) (E : Nat) (r : Ending) (w' : World) : Prop :=
  ∃ u, r = .returned (.tuple #[if E = 0 then .agg #[.int .i64 7, .int .i64 (fr : Int), .int .i64 (to : Int), .int .i64 (tm : Int), .int .i64 0, .int .i64 0, .int .i64 0, .int .i64 0, .int .i64 0, .bool false, .slice none 0 0, .int .i64 (G0 : Int), .int .i64 (G1 : Int), u] else .agg #[.int .i64 0, .int .i64 0, .int .i64 0, .int .i64 0, .int .i64 0, .int .i64 0, .int .i64 0, .int .i64 0, .int .i64 0, .bool false, .slice none 0 0, .int .i64 0, .int .i64 0, .slice none 0 0], .int .i64 (E : Int)]) ∧ Ow w.heap.size w' u G2

set_option maxRecDepth 100000 in
set_option maxHeartbeats 8000000 in
theorem getM7_any (b : List UInt8) (v : Value) (M : Nat) (w : World) (hv : Sl M w v b) (hM : M ≤ w.heap.size) (hb : b.length ≤ 1099511627776) {p0 fr pa ea to pb eb tm pc ec p1 e1 G0 G1 : Nat} {t G2 : List UInt8}
    (H0 : Hid (rdN b (0, 0) = (7, (p0, 0)))) (Ha : Hid (rdN b (p0, 0) = (fr, (pa, ea)))) (Hb : Hid (rdN b (pa, ea) = (to, (pb, eb)))) (Hc : Hid (rdN b (pb, eb) = (tm, (pc, ec)))) (H1 : Hid (rdB b 1048576 (pc, ec) = (t, (p1, e1)))) (hG : (G0, G1, G2) = if e1 ≠ 0 then (0, 0, []) else goSnap t) (E7 E : Nat) (hE7 : E7 = if e1 ≠ 0 then e1 else geSnap t) (hE : E = if E7 ≠ 0 then E7 else if doneE b p1 e1 = 0 then ckM7 (fr : Int) (to : Int) (tm : Int) 0 0 0 0 0 false 0 (G0 : Int) (G1 : Int) G2.length else doneE b p1 e1) :
    Calls Try.prog 25 #[.agg #[], v] w fun r w' => Got7 w fr to tm G0 G1 G2 E r w' ∧ Below w.heap.size w w' := by
  have HG : Hid ((G0, G1, G2) = if e1 ≠ 0 then (0, 0, []) else goSnap t) := hG
  have HE7 : Hid (E7 = if e1 ≠ 0 then e1 else geSnap t) := hE7
  clear hG hE7
  have HCK : Hid (∀ ua uc w', Calls Try.prog 24 #[.agg #[], .agg #[.int .i64 7, .int .i64 (fr : Int), .int .i64 (to : Int), .int .i64 (tm : Int), .int .i64 0, .int .i64 0, .int .i64 0, .int .i64 0, .int .i64 0, .bool false, .slice none 0 0, .int .i64 (G0 : Int), .int .i64 (G1 : Int), .slice ua G2.length uc]] w' fun e w'' => e = .returned (.int .i64 (ckM7 (fr : Int) (to : Int) (tm : Int) 0 0 0 0 0 false 0 (G0 : Int) (G1 : Int) G2.length : Int)) ∧ Below w'.heap.size w' w'') := fun ua uc w' => chkM7_any (fr : Int) (to : Int) (tm : Int) 0 0 0 0 0 false none 0 0 (G0 : Int) (G1 : Int) ua G2.length uc w'
  obtain ⟨CK, hCK⟩ : ∃ CK, ckM7 (fr : Int) (to : Int) (tm : Int) 0 0 0 0 0 false 0 (G0 : Int) (G1 : Int) G2.length = CK := ⟨_, rfl⟩
  rw [hCK] at hE HCK
  clear hCK
  have HE : Hid (E = if E7 ≠ 0 then E7 else if doneE b p1 e1 = 0 then CK else doneE b p1 e1) := hE
  clear hE
  obtain ⟨a, cap, rfl, -⟩ := id hv
  obtain ⟨W0, hW0⟩ : ∃ W0, (w.alloc (.cells #[] 60)).alloc (.cells #[.int .i64 0, .int .i64 0, .int .i64 0, .int .i64 0, .int .i64 0, .int .i64 0, .int .i64 0, .int .i64 0, .int .i64 0, .bool false, .slice none 0 0, .int .i64 0, .int .i64 0, .slice none 0 0] 49) = W0 := ⟨_, rfl⟩
  have HW0 : Hid ((w.alloc (.cells #[] 60)).alloc (.cells #[.int .i64 0, .int .i64 0, .int .i64 0, .int .i64 0, .int .i64 0, .int .i64 0, .int .i64 0, .int .i64 0, .int .i64 0, .bool false, .slice none 0 0, .int .i64 0, .int .i64 0, .slice none 0 0] 49) = W0) := hW0
  have HB0 : Hid (Below w.heap.size w W0) := by show Below w.heap.size w W0; rw [← hW0]; exact (((Below.refl _ w).alloc (by simp) _).alloc (by simp) _)
  have HS : Hid (W0.heap.size = w.heap.size + 2) := by show W0.heap.size = _; rw [← hW0]; simp
  have HR : Hid (∀ w', Below W0.heap.size W0 w' → w'.heap[w.heap.size + 1]? = some (.cells #[.int .i64 0, .int .i64 0, .int .i64 0, .int .i64 0, .int .i64 0, .int .i64 0, .int .i64 0, .int .i64 0, .int .i64 0, .bool false, .slice none 0 0, .int .i64 0, .int .i64 0, .slice none 0 0] 49 (0, 0))) := fun w' hB => by
    refine (hB.block _ (by have := HS.out; omega)).trans ?_
    rw [← hW0]; simpa using World.alloc_heap_new (w.alloc (.cells #[] 60)) _
  have hv0 := hv.below (HB0.out.mono hM)
  clear hW0
  have inK : isIn 7 1 7 = true := by decide
  go_enter Try.func25, Try.ntmps25
  go_wp2_with fail
  rw [HW0.out]
  refine (newR_any W0 hv0 hb).mono ?_
  rintro r w1 ⟨R, rfl, h1⟩
  go_wp2_with fail
  refine (getNumber_any h1 H0).mono ?_
  rintro r w2 ⟨rfl, h2⟩
  go_wp2_with (go_at_call 57; refine (isKind_any _ _).mono ?_; rintro e w' ⟨rfl, hw⟩; subst w'; simp only [inK])
  refine (rrI h2 Ha).mono ?_
  rintro r w3 ⟨rfl, h3⟩
  go_wp2_with fail
  refine (rrI h3 Hb).mono ?_
  rintro r w4 ⟨rfl, h4⟩
  go_wp2_with fail
  refine (rrI h4 Hc).mono ?_
  rintro r w5 ⟨rfl, h5⟩
  go_wp2_with fail
  obtain ⟨W6, hW6⟩ : ∃ W6, w5.alloc (.cells #[.int .i64 7, .int .i64 (fr : Int), .int .i64 (to : Int), .int .i64 (tm : Int), .int .i64 0, .int .i64 0, .int .i64 0, .int .i64 0, .int .i64 0, .bool false, .slice none 0 0, .int .i64 0, .int .i64 0, .slice none 0 0] 49) = W6 := ⟨_, rfl⟩
  rw [hW6]
  have hBx : Below w5.heap.size w5 W6 := by rw [← hW6]; exact (Below.refl _ _).alloc (Nat.le_refl _) _
  have hX6 : W6.heap[w5.heap.size]? = some (.cells #[.int .i64 7, .int .i64 (fr : Int), .int .i64 (to : Int), .int .i64 (tm : Int), .int .i64 0, .int .i64 0, .int .i64 0, .int .i64 0, .int .i64 0, .bool false, .slice none 0 0, .int .i64 0, .int .i64 0, .slice none 0 0] 49 (0, 0)) := by rw [← hW6]; exact World.alloc_heap_new w5 _
  have h6 := h5.mono hBx
  have hz6 := hBx.size
  have hwz : w.heap.size ≤ W6.heap.size := by have := h6.bel.size; have := HS.out; omega
  clear hW6 hBx
  refine (getU7_any (fr : Int) (to : Int) (tm : Int) h6 hX6 h5.rdr.lt H1 (G0, G1, G2) E7 HG.out HE7.out).mono ?_
  rintro r w7 ⟨u, rfl, hO7, h7, hX7, -⟩
  simp only at hO7 hX7
  obtain ⟨ua, uc, rfl, -, -⟩ := hO7.shape
  obtain ⟨⟨q0, q1, q2, q3, q4, q5, q6, q7, q8, q9, q10, q11, q12, q13⟩, -⟩ := cells14 hX7
  have hO7' := hO7.base (N' := w.heap.size) hwz
  by_cases hE7 : E7 = 0
  case neg =>
    have hke : ((E7 : Int) != 0) = true := by simp; omega
    obtain rfl : E = E7 := by rw [HE.out, if_pos hE7]
    have HR7 : Hid (w7.heap[w.heap.size + 1]? = some (.cells #[.int .i64 0, .int .i64 0, .int .i64 0, .int .i64 0, .int .i64 0, .int .i64 0, .int .i64 0, .int .i64 0, .int .i64 0, .bool false, .slice none 0 0, .int .i64 0, .int .i64 0, .slice none 0 0] 49 (0, 0))) := HR.out w7 h7.bel
    have HF : Hid (Below w.heap.size w w7) := HB0.out.trans (h7.bel.mono HB0.out.size)
    obtain ⟨⟨r0, r1, r2, r3, r4, r5, r6, r7, r8, r9, r10, r11, r12, r13⟩, f0, f1, f2, f3, f4, f5, f6, f7, f8, f9, f10, f11, f12, f13⟩ := cells14 HR7.out
    clear h6 h7 hX7 hX6 HE HCK h5 h4 h3 h2 h1 q0 q1 q2 q3 q4 q5 q6 q7 q8 q9 q10 q11 q12 q13 hO7
    go_wp2
    refine bodyPost_ret (results_95 rfl _ _ (w.heap.size + 1) rfl (set14 HR7.out _ _ _ _ _ _ _ _ _ _ _ _ _ _)) rfl ?_
    refine ⟨⟨.slice ua G2.length uc, by rw [if_neg hE7]; rfl, hO7'.kept (grownset14 w7 (w.heap.size + 1) _ _ _ _ _ _ _ _ _ _ _ _ _ _) (.inr (hO7'.not_at HR7.out (by decide)))⟩, belset14 HF.out (by omega) _ _ _ _ _ _ _ _ _ _ _ _ _ _⟩
  subst hE7
  go_wp2_with fail
  refine (wholeM_any 7 (fr : Int) (to : Int) (tm : Int) 0 0 0 0 0 false none 0 0 (G0 : Int) (G1 : Int) ua G2.length uc R b p1 e1 w7 h7 CK E (fun w' _ => HCK.out ua uc w') (by have := HE.out; rw [if_neg (by simp)] at this; exact this)).mono ?_
  rintro r w8 ⟨rfl, hB8⟩
  have h8 := h7.mono hB8
  have hO8 := hO7'.below hB8 (Nat.le_refl _)
  have HR8 : Hid (w8.heap[w.heap.size + 1]? = some (.cells #[.int .i64 0, .int .i64 0, .int .i64 0, .int .i64 0, .int .i64 0, .int .i64 0, .int .i64 0, .int .i64 0, .int .i64 0, .bool false, .slice none 0 0, .int .i64 0, .int .i64 0, .slice none 0 0] 49 (0, 0))) := HR.out w8 h8.bel
  have HF : Hid (Below w.heap.size w w8) := HB0.out.trans (h8.bel.mono HB0.out.size)
  obtain ⟨⟨r0, r1, r2, r3, r4, r5, r6, r7, r8, r9, r10, r11, r12, r13⟩, f0, f1, f2, f3, f4, f5, f6, f7, f8, f9, f10, f11, f12, f13⟩ := cells14 HR8.out
  clear h6 h7 h8 hB8 hX7 hX6 HE HCK h5 h4 h3 h2 h1 q0 q1 q2 q3 q4 q5 q6 q7 q8 q9 q10 q11 q12 q13 hO7 hO7'
  by_cases hE0 : E = 0
  · subst hE0
    simp only [if_true]
    go_wp2
    refine bodyPost_ret (results_95 rfl _ _ (w.heap.size + 1) rfl (set14 HR8.out _ _ _ _ _ _ _ _ _ _ _ _ _ _)) rfl ?_
    exact ⟨⟨.slice ua G2.length uc, rfl, hO8.kept (grownset14 w8 (w.heap.size + 1) _ _ _ _ _ _ _ _ _ _ _ _ _ _) (.inr (hO8.not_at HR8.out (by decide)))⟩, belset14 HF.out (by omega) _ _ _ _ _ _ _ _ _ _ _ _ _ _⟩
  · simp only [hE0, if_false]
    go_wp2
    refine bodyPost_ret (results_95 rfl _ _ (w.heap.size + 1) rfl (set14 HR8.out _ _ _ _ _ _ _ _ _ _ _ _ _ _)) rfl ?_
    exact ⟨⟨.slice ua G2.length uc, by rw [if_neg hE0]; rfl, hO8.kept (grownset14 w8 (w.heap.size + 1) _ _ _ _ _ _ _ _ _ _ _ _ _ _) (.inr (hO8.not_at HR8.out (by decide)))⟩, belset14 HF.out (by omega) _ _ _ _ _ _ _ _ _ _ _ _ _ _⟩

end Go.Proofs.Ytfnnbfgfmbiabab

/-
  A message as one thing: in memory, its Check, its text; Check, Put and SameMessage of both sides.
-/
namespace Go.Proofs.Ytfnnbfgfmbiabab
open Go.RowKit Go.Shelf

structure Msg where
  kd : Int
  fr : Int
  to : Int
  tm : Int
  ix : Int
  lt : Int
  cm : Int
  hi : Int
  cx : Int
  rj : Bool
  ea : Option Addr
  ec : Nat
  es : List Ent
  si : Int
  st : Int
  sa : Option Addr
  sc : Nat
  sd : List UInt8

/-- The message as a value. -/
def Msg.v (m : Msg) : Value := .agg #[.int .i64 m.kd, .int .i64 m.fr, .int .i64 m.to, .int .i64 m.tm, .int .i64 m.ix, .int .i64 m.lt, .int .i64 m.cm, .int .i64 m.hi, .int .i64 m.cx, .bool m.rj, .slice m.ea m.es.length m.ec, .int .i64 m.si, .int .i64 m.st, .slice m.sa m.sd.length m.sc]
/-- What it points to lies in memory. -/
def Msg.At (N : Nat) (w : World) (m : Msg) : Prop := EntsAt N w m.ea m.es ∧ Sl N w (.slice m.sa m.sd.length m.sc) m.sd
theorem Msg.At.below {N : Nat} {w w' : World} {m : Msg} (h : m.At N w) (hB : Below N w w') : m.At N w' := ⟨h.1.below hB, h.2.below hB⟩
theorem Msg.At.mono {N M : Nat} {w : World} {m : Msg} (h : m.At N w) (hM : N ≤ M) : m.At M w := ⟨h.1.mono hM, h.2.mono hM⟩
/-- What a message says. -/
def Msg.says (m : Msg) : (Int × Int × Int × Int × Int × Int × Int × Int × Int) × Bool × List (Int × Int × Int × List UInt8) × Int × Int × List UInt8 := ((m.kd, m.fr, m.to, m.tm, m.ix, m.lt, m.cm, m.hi, m.cx), m.rj, saysOf m.es, m.si, m.st, m.sd)
/-- Its Check. -/
def Msg.ck (m : Msg) : Nat :=
  if m.kd = 1 then ckM1 m.fr m.to m.tm m.ix m.lt m.cm m.hi m.cx m.rj m.es.length m.si m.st m.sd.length else
  if m.kd = 2 then ckM2 m.fr m.to m.tm m.ix m.lt m.cm m.hi m.cx m.rj m.es.length m.si m.st m.sd.length else
  if m.kd = 3 then ckM3 m.fr m.to m.tm m.ix m.lt m.cm m.hi m.cx m.rj m.es m.si m.st m.sd.length else
  if m.kd = 4 then ckM4 m.fr m.to m.tm m.ix m.lt m.cm m.hi m.cx m.rj m.es.length m.si m.st m.sd.length else
  if m.kd = 5 then ckM5 m.fr m.to m.tm m.ix m.lt m.cm m.hi m.cx m.rj m.es.length m.si m.st m.sd.length else
  if m.kd = 6 then ckM6 m.fr m.to m.tm m.ix m.lt m.cm m.hi m.cx m.rj m.es.length m.si m.st m.sd.length else
  if m.kd = 7 then ckM7 m.fr m.to m.tm m.ix m.lt m.cm m.hi m.cx m.rj m.es.length m.si m.st m.sd.length else
  6
/-- Its text. -/
def Msg.tx (m : Msg) : List UInt8 :=
  if m.kd = 1 then txM1 m.fr m.to m.tm m.ix m.lt else
  if m.kd = 2 then txM2 m.fr m.to m.tm m.rj else
  if m.kd = 3 then numB 3 ++ numB m.fr.toNat ++ numB m.to.toNat ++ numB m.tm.toNat ++ (numB m.ix.toNat ++ (numB m.lt.toNat ++ (numB m.cm.toNat ++ (numB m.es.length ++ packs m.es)))) else
  if m.kd = 4 then txM4 m.fr m.to m.tm m.ix m.hi m.rj else
  if m.kd = 5 then txM5 m.fr m.to m.tm m.cm m.cx else
  if m.kd = 6 then txM6 m.fr m.to m.tm m.cx else
  if m.kd = 7 then numB 7 ++ numB m.fr.toNat ++ numB m.to.toNat ++ numB m.tm.toNat ++ (numB (txSnap m.si m.st m.sd).length ++ txSnap m.si m.st m.sd) else
  []

theorem kinds (k : Int) : isIn k 1 7 = false ∨ k = 1 ∨ k = 2 ∨ k = 3 ∨ k = 4 ∨ k = 5 ∨ k = 6 ∨ k = 7 := by
  cases h : isIn k 1 7
  · exact .inl rfl
  · right; simp [isIn] at h; omega
theorem ck_no {m : Msg} (h : isIn m.kd 1 7 = false) : m.ck = 6 := by
  have : ¬ (1 ≤ m.kd ∧ m.kd ≤ 7) := by intro ⟨a, b⟩; simp [isIn] at h; omega
  unfold Msg.ck
  rw [if_neg (by omega)]; rw [if_neg (by omega)]; rw [if_neg (by omega)]; rw [if_neg (by omega)]; rw [if_neg (by omega)]; rw [if_neg (by omega)]; rw [if_neg (by omega)]

set_option maxRecDepth 100000 in
set_option maxHeartbeats 8000000 in
theorem chkMsg_any (m : Msg) (N : Nat) (w : World) (h : m.At N w) (hN : N ≤ w.heap.size) : Calls Try.prog 24 #[.agg #[], m.v] w fun e w' => e = .returned (.int .i64 (m.ck : Int)) ∧ Below w.heap.size w w' := by
  obtain ⟨kd, fr, to, tm, ix, lt, cm, hi, cx, rj, ea, ec, es, si, st, sa, sc, sd⟩ := m
  obtain ⟨hE, hD⟩ := h
  rcases kinds kd with hk | rfl | rfl | rfl | rfl | rfl | rfl | rfl
  · have := ck_no (m := ⟨kd, fr, to, tm, ix, lt, cm, hi, cx, rj, ea, ec, es, si, st, sa, sc, sd⟩) hk
    rw [this]; exact chkKindNo_any kd fr to tm ix lt cm hi cx rj ea es.length ec si st sa sd.length sc w hk
  · exact chkM1_any fr to tm ix lt cm hi cx rj ea es.length ec si st sa sd.length sc w
  · exact chkM2_any fr to tm ix lt cm hi cx rj ea es.length ec si st sa sd.length sc w
  · exact chkM3_any fr to tm ix lt cm hi cx rj ea ec es si st sa sd.length sc w N hE hN
  · exact chkM4_any fr to tm ix lt cm hi cx rj ea es.length ec si st sa sd.length sc w
  · exact chkM5_any fr to tm ix lt cm hi cx rj ea es.length ec si st sa sd.length sc w
  · exact chkM6_any fr to tm ix lt cm hi cx rj ea es.length ec si st sa sd.length sc w
  · exact chkM7_any fr to tm ix lt cm hi cx rj ea es.length ec si st sa sd.length sc w

set_option maxRecDepth 100000 in
set_option maxHeartbeats 8000000 in
theorem refChkMsg_any (m : Msg) (N : Nat) (w : World) (h : m.At N w) (hN : N ≤ w.heap.size) (hz : m.es.length ≤ 1000000) : Calls Try.prog 19 #[m.v] w fun e w' => e = .returned (.int .i64 (m.ck : Int)) ∧ Below w.heap.size w w' := by
  obtain ⟨kd, fr, to, tm, ix, lt, cm, hi, cx, rj, ea, ec, es, si, st, sa, sc, sd⟩ := m
  obtain ⟨hE, hD⟩ := h
  rcases kinds kd with hk | rfl | rfl | rfl | rfl | rfl | rfl | rfl
  · have := ck_no (m := ⟨kd, fr, to, tm, ix, lt, cm, hi, cx, rj, ea, ec, es, si, st, sa, sc, sd⟩) hk
    rw [this]; exact refKindNo_any kd fr to tm ix lt cm hi cx rj ea es.length ec si st sa sd.length sc w hk
  · exact refChkM1_any fr to tm ix lt cm hi cx rj ea ec es si st sa sc sd N w hE hD hN hz
  · exact refChkM2_any fr to tm ix lt cm hi cx rj ea ec es si st sa sc sd N w hE hD hN hz
  · exact refChkM3_any fr to tm ix lt cm hi cx rj ea ec es si st sa sc sd N w hE hD hN hz
  · exact refChkM4_any fr to tm ix lt cm hi cx rj ea ec es si st sa sc sd N w hE hD hN hz
  · exact refChkM5_any fr to tm ix lt cm hi cx rj ea ec es si st sa sc sd N w hE hD hN hz
  · exact refChkM6_any fr to tm ix lt cm hi cx rj ea ec es si st sa sc sd N w hE hD hN hz
  · exact refChkM7_any fr to tm ix lt cm hi cx rj ea ec es si st sa sc sd N w hE hD hN hz

set_option maxRecDepth 100000 in
set_option maxHeartbeats 8000000 in
theorem putKindNo_any (kd fr to tm ix lt cm hi cx : Int) (rj : Bool) (ea : Option Addr) (en ec : Nat) (si st : Int) (sa : Option Addr) (sn sc : Nat) (w : World) (hK : isIn kd 1 7 = false) : Calls Try.prog 23 #[.agg #[], .agg #[.int .i64 kd, .int .i64 fr, .int .i64 to, .int .i64 tm, .int .i64 ix, .int .i64 lt, .int .i64 cm, .int .i64 hi, .int .i64 cx, .bool rj, .slice ea en ec, .int .i64 si, .int .i64 st, .slice sa sn sc]] w fun r w' => ∃ u, r = .returned (.tuple #[u, .int .i64 6]) ∧ Ow w.heap.size w' u [] ∧ Below w.heap.size w w' := by
  have ck1 := fun w' => chkKindNo_any kd fr to tm ix lt cm hi cx rj ea en ec si st sa sn sc w' hK
  have HB0 : Hid (∀ o0 o1, Below w.heap.size w ((w.alloc o0).alloc o1)) := fun _ _ => (((Below.refl _ w).alloc (by simp) _).alloc (by simp) _)
  go_enter Try.func23, Try.ntmps23
  go_wp2_with (go_at_call 24; refine (ck1 _).mono ?_; rintro e w1 ⟨rfl, hB1⟩)
  go_ret2
  exact ⟨_, rfl, Ow.nil _ _, (HB0.out _ _).trans (hB1.mono (HB0.out _ _).size)⟩

set_option maxRecDepth 100000 in
set_option maxHeartbeats 8000000 in
theorem putMsg_any (m : Msg) (N : Nat) (w : World) (h : m.At N w) (hN : N ≤ w.heap.size) : Calls Try.prog 23 #[.agg #[], m.v] w fun r w' => ∃ u, r = .returned (.tuple #[u, .int .i64 (m.ck : Int)]) ∧ Ow w.heap.size w' u (if m.ck = 0 then m.tx else []) ∧ Below w.heap.size w w' := by
  obtain ⟨kd, fr, to, tm, ix, lt, cm, hi, cx, rj, ea, ec, es, si, st, sa, sc, sd⟩ := m
  obtain ⟨hE, hD⟩ := h
  rcases kinds kd with hk | rfl | rfl | rfl | rfl | rfl | rfl | rfl
  · have := ck_no (m := ⟨kd, fr, to, tm, ix, lt, cm, hi, cx, rj, ea, ec, es, si, st, sa, sc, sd⟩) hk
    rw [this, if_neg (by decide)]; exact putKindNo_any kd fr to tm ix lt cm hi cx rj ea es.length ec si st sa sd.length sc w hk
  · exact putM1_any fr to tm ix lt cm hi cx rj ea es.length ec si st sa sd.length sc w
  · exact putM2_any fr to tm ix lt cm hi cx rj ea es.length ec si st sa sd.length sc w
  · exact putM3_any fr to tm ix lt cm hi cx rj ea ec es si st sa sd.length sc w N hE hN
  · exact putM4_any fr to tm ix lt cm hi cx rj ea es.length ec si st sa sd.length sc w
  · exact putM5_any fr to tm ix lt cm hi cx rj ea es.length ec si st sa sd.length sc w
  · exact putM6_any fr to tm ix lt cm hi cx rj ea es.length ec si st sa sd.length sc w
  · exact putM7_any fr to tm ix lt cm hi cx rj ea es.length ec si st sa sc sd w N hD hN

theorem sameMsgs_any (m n : Msg) (N : Nat) (w : World) (h1 : m.At N w) (h2 : n.At N w) (hN : N ≤ w.heap.size) (hz : m.es.length ≤ 1000000) :
    Calls Try.prog 18 #[m.v, n.v] w fun e w' => ∃ t : Bool, e = .returned (.bool t) ∧ (t = true ↔ m.says = n.says) ∧ Below w.heap.size w w' := by
  refine (sameMsg_any m.kd m.fr m.to m.tm m.ix m.lt m.cm m.hi m.cx m.rj m.ea m.ec m.es m.si m.st m.sa m.sc m.sd n.kd n.fr n.to n.tm n.ix n.lt n.cm n.hi n.cx n.rj n.ea n.ec n.es n.si n.st n.sa n.sc n.sd N w h1.1 h2.1 h1.2 h2.2 hN hz).mono ?_
  rintro e w' ⟨rfl, hB⟩
  refine ⟨_, rfl, ?_, hB⟩
  simp only [Msg.says, Bool.and_eq_true, beq_iff_eq, decide_eq_true_eq, Prod.mk.injEq]
  constructor
  · rintro ⟨⟨⟨⟨⟨⟨⟨⟨⟨⟨⟨a1, a2⟩, a3⟩, a4⟩, ⟨⟨b1, b2⟩, b3⟩⟩, c1⟩, d1⟩, d2⟩, d3⟩, d4⟩, d5⟩, d6⟩
    exact ⟨⟨a1, a2, a3, a4, d1, d2, d3, d4, d5⟩, d6, c1, b2, b3, b1⟩
  · rintro ⟨⟨a1, a2, a3, a4, d1, d2, d3, d4, d5⟩, d6, c1, b2, b3, b1⟩
    exact ⟨⟨⟨⟨⟨⟨⟨⟨⟨⟨⟨a1, a2⟩, a3⟩, a4⟩, ⟨⟨b1, b2⟩, b3⟩⟩, c1⟩, d1⟩, d2⟩, d3⟩, d4⟩, d5⟩, d6⟩

theorem slightMsg_any (m : Msg) (N : Nat) (w : World) (h : m.At N w) (hN : N ≤ w.heap.size) (hs : m.sd.length ≤ 9223372036854775807) (hz : m.es.length ≤ 9223372036854775807) : Calls Try.prog 15 #[m.v] w fun r w' => SlightP m.sd m.es r ∧ Below w.heap.size w w' :=
  slight_any m.kd m.fr m.to m.tm m.ix m.lt m.cm m.hi m.cx m.rj m.ea m.ec m.es m.si m.st m.sa m.sc m.sd N w h.1 hN hs hz

end Go.Proofs.Ytfnnbfgfmbiabab

