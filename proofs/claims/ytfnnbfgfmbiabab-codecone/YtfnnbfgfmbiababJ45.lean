/-
  MsgO; Back; Mth; Can.
-/
import Derived.Test.YtfnnbfgfmbiababJ42
import Derived.Test.YtfnnbfgfmbiababJ44
import Derived.Test.YtfnnbfgfmbiababJ43
import Derived.Test.YtfnnbfgfmbiababJ41
import Derived.Test.YtfnnbfgfmbiababJ02
/-
  A message that a call made: its own memory; what Get answers, as one thing.
-/
namespace Go.Proofs.Ytfnnbfgfmbiabab
open Go.RowKit Go.Shelf

/-- Entries and data are a call's own memory. -/
def Msg.Own (N : Nat) (w : World) (m : Msg) : Prop := EntsOw N w (.slice m.ea m.es.length m.ec) m.es ∧ Ow N w (.slice m.sa m.sd.length m.sc) m.sd
theorem Msg.Own.at {N : Nat} {w : World} {m : Msg} (h : m.Own N w) : m.At w.heap.size w := ⟨h.1.at, h.2.sl (Nat.le_refl _)⟩
theorem Msg.Own.below {N : Nat} {w w' : World} {m : Msg} (h : m.Own N w) (hB : Below w.heap.size w w') : m.Own N w' :=
  ⟨⟨h.1.row.kept (Below.grownBy' hB none) (by cases m.ea <;> simp [Value.ownBlock]), fun e he => (h.1.dat e he).below hB (Nat.le_refl _)⟩, h.2.below hB (Nat.le_refl _)⟩
theorem Msg.Own.set {N : Nat} {w : World} {m : Msg} (h : m.Own N w) {g : Nat} (hg : g < N) (j : Nat) (v : Value) : m.Own N (w.setCell ⟨g, j, none⟩ v) :=
  ⟨h.1.kept (grown_set w g j v) hg, h.2.kept (grown_set w g j v) (.inr (fun e => by have := World.ownsRow.lt h.2 g e; omega))⟩
/-- The message that says nothing. -/
def zeroM : Msg := ⟨0, 0, 0, 0, 0, 0, 0, 0, 0, false, none, 0, [], 0, 0, none, 0, []⟩
theorem zeroM_own (N : Nat) (w : World) : zeroM.Own N w := ⟨EntsOw.nil _ _, Ow.nil _ _⟩

abbrev Said := (Int × Int × Int × Int × Int × Int × Int × Int × Int) × Bool × List (Int × Int × Int × List UInt8) × Int × Int × List UInt8

/-- What a Get answers: a message of new memory, an error. -/
def GotM (w : World) (E : Nat) (G : Said) (r : Ending) (w' : World) : Prop :=
  ∃ m : Msg, r = .returned (.tuple #[m.v, .int .i64 (E : Int)]) ∧ m.says = G ∧ m.Own w.heap.size w' ∧ Below w.heap.size w w'

theorem gotM_of {w w' : World} {E : Nat} {r : Ending} (m : Msg) (hr : r = .returned (.tuple #[if E = 0 then m.v else zeroM.v, .int .i64 (E : Int)])) (hO : m.Own w.heap.size w') (hB : Below w.heap.size w w') : GotM w E (if E = 0 then m.says else zeroM.says) r w' := by
  by_cases h : E = 0
  · rw [if_pos h] at hr ⊢; exact ⟨m, hr, rfl, hO, hB⟩
  · rw [if_neg h] at hr ⊢; exact ⟨zeroM, hr, rfl, zeroM_own _ _, hB⟩
theorem gotM_zero {w w' : World} {E : Nat} {r : Ending} (hr : r = .returned (.tuple #[zeroM.v, .int .i64 (E : Int)])) (hB : Below w.heap.size w w') : GotM w E zeroM.says r w' := ⟨zeroM, hr, rfl, zeroM_own _ _, hB⟩
theorem gotM_7 {w w' : World} {fr to tm G0 G1 : Nat} {G2 : List UInt8} {E : Nat} {r : Ending} (h : Got7 w fr to tm G0 G1 G2 E r w') (hB : Below w.heap.size w w') :
    GotM w E (if E = 0 then (((7 : Int), (fr : Int), (to : Int), (tm : Int), 0, 0, 0, 0, 0), false, [], (G0 : Int), (G1 : Int), G2) else zeroM.says) r w' := by
  obtain ⟨u, hr, hO⟩ := h
  obtain ⟨a, c, rfl, -, -⟩ := hO.shape
  exact gotM_of ⟨7, fr, to, tm, 0, 0, 0, 0, 0, false, none, 0, [], G0, G1, a, c, G2⟩ hr ⟨EntsOw.nil _ _, hO⟩ hB
theorem gotM_3 {w w' : World} {fr to tm n1 n2 n3 : Nat} {L : List (Nat × Nat × Nat × List UInt8)} {E : Nat} {r : Ending} (h : Got3 w fr to tm n1 n2 n3 L E r w') (hB : Below w.heap.size w w') :
    GotM w E (if E = 0 then (((3 : Int), (fr : Int), (to : Int), (tm : Int), (n1 : Int), (n2 : Int), (n3 : Int), 0, 0), false, saysN L, 0, 0, []) else zeroM.says) r w' := by
  obtain ⟨va, vc, es, hr, hO, hs⟩ := h
  have hq := gotM_of ⟨3, fr, to, tm, n1, n2, n3, 0, 0, false, va, vc, es, 0, 0, none, 0, []⟩ hr ⟨hO, Ow.nil _ _⟩ hB
  by_cases h0 : E = 0
  · rw [if_pos h0] at hq ⊢
    rw [← hs h0]; exact hq
  · rw [if_neg h0] at hq ⊢; exact hq

end Go.Proofs.Ytfnnbfgfmbiabab

/-
  What was put is read back: messages.
-/
namespace Go.Proofs.Ytfnnbfgfmbiabab
open Go.RowKit Go.Shelf

theorem rdT_mid (pre : List UInt8) (b : Bool) (t : List UInt8) : rdT (pre ++ (numB (bN b) ++ t)) (pre.length, 0) = (b, ((pre ++ numB (bN b)).length, 0)) := by
  have := boolAt_mid pre b t
  unfold rdT bN; simp only; rw [this]; simp
theorem blank_out {ix lt cm hi cx : Int} {rj : Bool} {en : Nat} {si st : Int} {sn : Nat} (h : blank ix lt cm hi cx rj en si st sn = true) : ix = 0 ∧ lt = 0 ∧ cm = 0 ∧ hi = 0 ∧ cx = 0 ∧ rj = false ∧ en = 0 ∧ si = 0 ∧ st = 0 ∧ sn = 0 := by
  simp [blank] at h
  obtain ⟨⟨⟨⟨⟨⟨⟨h1, h2⟩, h3⟩, h4⟩, h5⟩, h6⟩, h7⟩, ⟨h8, h9⟩, h10⟩ := h
  exact ⟨h1, h2, h3, h4, h5, h6, by simpa using h7, h8, h9, by simpa using h10⟩
theorem num_in {n : Int} (h : isNumB n = true) : ((n.toNat : Nat) : Int) = n ∧ n.toNat ≤ 4611686018427387904 := by
  simp [isNumB] at h; omega

theorem ckM1_blank {fr to tm ix lt cm hi cx : Int} {rj : Bool} {en : Nat} {si st : Int} {sn : Nat} (h : ckM1 fr to tm ix lt cm hi cx rj en si st sn = 0) : blank 0 0 cm hi cx rj en si st sn = true := by
  cases hb : blank 0 0 cm hi cx rj en si st sn with
  | true => rfl
  | false =>
    exfalso
    unfold ckM1 at h
    rw [hb] at h
    revert h
    split
    · simp
    · split <;> simp

theorem ckM2_blank {fr to tm ix lt cm hi cx : Int} {rj : Bool} {en : Nat} {si st : Int} {sn : Nat} (h : ckM2 fr to tm ix lt cm hi cx rj en si st sn = 0) : blank ix lt cm hi cx false en si st sn = true := by
  cases hb : blank ix lt cm hi cx false en si st sn with
  | true => rfl
  | false =>
    exfalso
    unfold ckM2 at h
    rw [hb] at h
    revert h
    split
    · simp
    · split <;> simp

theorem ckM3_blank {fr to tm ix lt cm hi cx : Int} {rj : Bool} {es : List Ent} {si st : Int} {sn : Nat} (h : ckM3 fr to tm ix lt cm hi cx rj es si st sn = 0) : blank 0 0 0 hi cx rj 0 si st sn = true := by
  cases hb : blank 0 0 0 hi cx rj 0 si st sn with
  | true => rfl
  | false =>
    exfalso
    unfold ckM3 at h
    rw [hb] at h
    revert h
    split
    · simp
    · split <;> simp

theorem ckM4_blank {fr to tm ix lt cm hi cx : Int} {rj : Bool} {en : Nat} {si st : Int} {sn : Nat} (h : ckM4 fr to tm ix lt cm hi cx rj en si st sn = 0) : blank 0 lt cm 0 cx false en si st sn = true := by
  cases hb : blank 0 lt cm 0 cx false en si st sn with
  | true => rfl
  | false =>
    exfalso
    unfold ckM4 at h
    rw [hb] at h
    revert h
    split
    · simp
    · split <;> simp

theorem ckM5_blank {fr to tm ix lt cm hi cx : Int} {rj : Bool} {en : Nat} {si st : Int} {sn : Nat} (h : ckM5 fr to tm ix lt cm hi cx rj en si st sn = 0) : blank ix lt 0 hi 0 rj en si st sn = true := by
  cases hb : blank ix lt 0 hi 0 rj en si st sn with
  | true => rfl
  | false =>
    exfalso
    unfold ckM5 at h
    rw [hb] at h
    revert h
    split
    · simp
    · split <;> simp

theorem ckM6_blank {fr to tm ix lt cm hi cx : Int} {rj : Bool} {en : Nat} {si st : Int} {sn : Nat} (h : ckM6 fr to tm ix lt cm hi cx rj en si st sn = 0) : blank ix lt cm hi 0 rj en si st sn = true := by
  cases hb : blank ix lt cm hi 0 rj en si st sn with
  | true => rfl
  | false =>
    exfalso
    unfold ckM6 at h
    rw [hb] at h
    revert h
    split
    · simp
    · split <;> simp

theorem ckM7_blank {fr to tm ix lt cm hi cx : Int} {rj : Bool} {en : Nat} {si st : Int} {sn : Nat} (h : ckM7 fr to tm ix lt cm hi cx rj en si st sn = 0) : blank ix lt cm hi cx rj en 0 0 0 = true := by
  cases hb : blank ix lt cm hi cx rj en 0 0 0 with
  | true => rfl
  | false =>
    exfalso
    unfold ckM7 at h
    rw [hb] at h
    revert h
    split
    · simp
    · split <;> simp

set_option maxRecDepth 100000 in
set_option maxHeartbeats 8000000 in
theorem back1 {fr to tm ix lt cm hi cx : Int} {rj : Bool} {ea : Option Addr} {ec : Nat} {es : List Ent} {si st : Int} {sa : Option Addr} {sc : Nat} {sd : List UInt8} (h : ckM1 fr to tm ix lt cm hi cx rj es.length si st sd.length = 0) (v : Value) (M : Nat) (w : World) (hv : Sl M w v (txM1 fr to tm ix lt)) (hM : M ≤ w.heap.size) :
    Calls Try.prog 25 #[.agg #[], v] w (GotM w 0 (Msg.says ⟨1, fr, to, tm, ix, lt, cm, hi, cx, rj, ea, ec, es, si, st, sa, sc, sd⟩)) := by
  have hbl := blank_out (ckM1_blank h)
  obtain ⟨kfr, kto, ktm, kix, klt, kcm, khi, kcx⟩ := ckM1_ok h
  obtain ⟨-, -, z2, z3, z4, z5, hes, hsi, hst, hsd⟩ := hbl
  obtain rfl : es = [] := List.length_eq_zero_iff.1 hes
  obtain rfl : sd = [] := List.length_eq_zero_iff.1 hsd
  subst z2 z3 z4 z5 hsi hst
  obtain ⟨cfr, rfr⟩ := num_in kfr
  obtain ⟨cto, rto⟩ := num_in kto
  obtain ⟨ctm, rtm⟩ := num_in ktm
  obtain ⟨cix, rix⟩ := num_in kix
  obtain ⟨clt, rlt⟩ := num_in klt
  have e0 := rdN_mid ([]) 1 ((numB fr.toNat ++ (numB to.toNat ++ (numB tm.toNat ++ (numB ix.toNat ++ numB lt.toNat))))) (by decide)
  have e1 := rdN_mid (numB 1) fr.toNat ((numB to.toNat ++ (numB tm.toNat ++ (numB ix.toNat ++ numB lt.toNat)))) rfr
  have e2 := rdN_mid (numB 1 ++ numB fr.toNat) to.toNat ((numB tm.toNat ++ (numB ix.toNat ++ numB lt.toNat))) rto
  have e3 := rdN_mid (numB 1 ++ numB fr.toNat ++ numB to.toNat) tm.toNat ((numB ix.toNat ++ numB lt.toNat)) rtm
  have e4 := rdN_mid (numB 1 ++ numB fr.toNat ++ numB to.toNat ++ numB tm.toNat) ix.toNat (numB lt.toNat) rix
  have e5 := rdN_mid (numB 1 ++ numB fr.toNat ++ numB to.toNat ++ numB tm.toNat ++ numB ix.toNat) lt.toNat ([]) rlt
  simp only [List.nil_append, List.append_nil, List.append_assoc, List.length_nil] at e0 e1 e2 e3 e4 e5
  have hT : txM1 fr to tm ix lt = (numB 1 ++ (numB fr.toNat ++ (numB to.toNat ++ (numB tm.toNat ++ (numB ix.toNat ++ numB lt.toNat))))) := by simp [txM1]
  rw [hT] at hv
  have hl : (numB 1 ++ (numB fr.toNat ++ (numB to.toNat ++ (numB tm.toNat ++ (numB ix.toNat ++ numB lt.toNat))))).length ≤ 1000 := by
    have q0 := numB_len 1
    have q1 := numB_len fr.toNat
    have q2 := numB_len to.toNat
    have q3 := numB_len tm.toNat
    have q4 := numB_len ix.toNat
    have q5 := numB_len lt.toNat
    simp only [List.length_append]; omega
  have hE : 0 = if doneE (numB 1 ++ (numB fr.toNat ++ (numB to.toNat ++ (numB tm.toNat ++ (numB ix.toNat ++ numB lt.toNat))))) (numB 1 ++ (numB fr.toNat ++ (numB to.toNat ++ (numB tm.toNat ++ (numB ix.toNat ++ numB lt.toNat))))).length 0 = 0 then ckM1 (fr.toNat : Int) (to.toNat : Int) (tm.toNat : Int) (ix.toNat : Int) (lt.toNat : Int) 0 0 0 false 0 0 0 0 else doneE (numB 1 ++ (numB fr.toNat ++ (numB to.toNat ++ (numB tm.toNat ++ (numB ix.toNat ++ numB lt.toNat))))) (numB 1 ++ (numB fr.toNat ++ (numB to.toNat ++ (numB tm.toNat ++ (numB ix.toNat ++ numB lt.toNat))))).length 0 := by
    rw [if_pos (doneE_end _), cfr, cto, ctm, cix, clt]; exact h.symm
  refine (getM1_any _ v M w hv hM (by omega) e0 e1 e2 e3 e4 e5 0 hE).mono ?_
  rintro r w' ⟨rfl, hB⟩
  rw [cfr, cto, ctm, cix, clt]
  exact gotM_of ⟨1, fr, to, tm, ix, lt, 0, 0, 0, false, none, 0, [], 0, 0, none, 0, []⟩ rfl ⟨EntsOw.nil _ _, Ow.nil _ _⟩ hB

set_option maxRecDepth 100000 in
set_option maxHeartbeats 8000000 in
theorem back2 {fr to tm ix lt cm hi cx : Int} {rj : Bool} {ea : Option Addr} {ec : Nat} {es : List Ent} {si st : Int} {sa : Option Addr} {sc : Nat} {sd : List UInt8} (h : ckM2 fr to tm ix lt cm hi cx rj es.length si st sd.length = 0) (v : Value) (M : Nat) (w : World) (hv : Sl M w v (txM2 fr to tm rj)) (hM : M ≤ w.heap.size) :
    Calls Try.prog 25 #[.agg #[], v] w (GotM w 0 (Msg.says ⟨2, fr, to, tm, ix, lt, cm, hi, cx, rj, ea, ec, es, si, st, sa, sc, sd⟩)) := by
  have hbl := blank_out (ckM2_blank h)
  obtain ⟨kfr, kto, ktm, kix, klt, kcm, khi, kcx⟩ := ckM2_ok h
  obtain ⟨z0, z1, z2, z3, z4, -, hes, hsi, hst, hsd⟩ := hbl
  obtain rfl : es = [] := List.length_eq_zero_iff.1 hes
  obtain rfl : sd = [] := List.length_eq_zero_iff.1 hsd
  subst z0 z1 z2 z3 z4 hsi hst
  obtain ⟨cfr, rfr⟩ := num_in kfr
  obtain ⟨cto, rto⟩ := num_in kto
  obtain ⟨ctm, rtm⟩ := num_in ktm
  have e0 := rdN_mid ([]) 2 ((numB fr.toNat ++ (numB to.toNat ++ (numB tm.toNat ++ numB (bN rj))))) (by decide)
  have e1 := rdN_mid (numB 2) fr.toNat ((numB to.toNat ++ (numB tm.toNat ++ numB (bN rj)))) rfr
  have e2 := rdN_mid (numB 2 ++ numB fr.toNat) to.toNat ((numB tm.toNat ++ numB (bN rj))) rto
  have e3 := rdN_mid (numB 2 ++ numB fr.toNat ++ numB to.toNat) tm.toNat (numB (bN rj)) rtm
  have e4 := rdT_mid (numB 2 ++ numB fr.toNat ++ numB to.toNat ++ numB tm.toNat) rj ([])
  simp only [List.nil_append, List.append_nil, List.append_assoc, List.length_nil] at e0 e1 e2 e3 e4
  have hT : txM2 fr to tm rj = (numB 2 ++ (numB fr.toNat ++ (numB to.toNat ++ (numB tm.toNat ++ numB (bN rj))))) := by simp [txM2]
  rw [hT] at hv
  have hl : (numB 2 ++ (numB fr.toNat ++ (numB to.toNat ++ (numB tm.toNat ++ numB (bN rj))))).length ≤ 1000 := by
    have q0 := numB_len 2
    have q1 := numB_len fr.toNat
    have q2 := numB_len to.toNat
    have q3 := numB_len tm.toNat
    have q4 := numB_len (bN rj)
    simp only [List.length_append]; omega
  have hE : 0 = if doneE (numB 2 ++ (numB fr.toNat ++ (numB to.toNat ++ (numB tm.toNat ++ numB (bN rj))))) (numB 2 ++ (numB fr.toNat ++ (numB to.toNat ++ (numB tm.toNat ++ numB (bN rj))))).length 0 = 0 then ckM2 (fr.toNat : Int) (to.toNat : Int) (tm.toNat : Int) 0 0 0 0 0 rj 0 0 0 0 else doneE (numB 2 ++ (numB fr.toNat ++ (numB to.toNat ++ (numB tm.toNat ++ numB (bN rj))))) (numB 2 ++ (numB fr.toNat ++ (numB to.toNat ++ (numB tm.toNat ++ numB (bN rj))))).length 0 := by
    rw [if_pos (doneE_end _), cfr, cto, ctm]; exact h.symm
  refine (getM2_any _ v M w hv hM (by omega) e0 e1 e2 e3 e4 0 hE).mono ?_
  rintro r w' ⟨rfl, hB⟩
  rw [cfr, cto, ctm]
  exact gotM_of ⟨2, fr, to, tm, 0, 0, 0, 0, 0, rj, none, 0, [], 0, 0, none, 0, []⟩ rfl ⟨EntsOw.nil _ _, Ow.nil _ _⟩ hB

set_option maxRecDepth 100000 in
set_option maxHeartbeats 8000000 in
theorem back4 {fr to tm ix lt cm hi cx : Int} {rj : Bool} {ea : Option Addr} {ec : Nat} {es : List Ent} {si st : Int} {sa : Option Addr} {sc : Nat} {sd : List UInt8} (h : ckM4 fr to tm ix lt cm hi cx rj es.length si st sd.length = 0) (v : Value) (M : Nat) (w : World) (hv : Sl M w v (txM4 fr to tm ix hi rj)) (hM : M ≤ w.heap.size) :
    Calls Try.prog 25 #[.agg #[], v] w (GotM w 0 (Msg.says ⟨4, fr, to, tm, ix, lt, cm, hi, cx, rj, ea, ec, es, si, st, sa, sc, sd⟩)) := by
  have hbl := blank_out (ckM4_blank h)
  obtain ⟨kfr, kto, ktm, kix, klt, kcm, khi, kcx⟩ := ckM4_ok h
  obtain ⟨-, z1, z2, -, z4, -, hes, hsi, hst, hsd⟩ := hbl
  obtain rfl : es = [] := List.length_eq_zero_iff.1 hes
  obtain rfl : sd = [] := List.length_eq_zero_iff.1 hsd
  subst z1 z2 z4 hsi hst
  obtain ⟨cfr, rfr⟩ := num_in kfr
  obtain ⟨cto, rto⟩ := num_in kto
  obtain ⟨ctm, rtm⟩ := num_in ktm
  obtain ⟨cix, rix⟩ := num_in kix
  obtain ⟨chi, rhi⟩ := num_in khi
  have e0 := rdN_mid ([]) 4 ((numB fr.toNat ++ (numB to.toNat ++ (numB tm.toNat ++ (numB ix.toNat ++ (numB (bN rj) ++ numB hi.toNat)))))) (by decide)
  have e1 := rdN_mid (numB 4) fr.toNat ((numB to.toNat ++ (numB tm.toNat ++ (numB ix.toNat ++ (numB (bN rj) ++ numB hi.toNat))))) rfr
  have e2 := rdN_mid (numB 4 ++ numB fr.toNat) to.toNat ((numB tm.toNat ++ (numB ix.toNat ++ (numB (bN rj) ++ numB hi.toNat)))) rto
  have e3 := rdN_mid (numB 4 ++ numB fr.toNat ++ numB to.toNat) tm.toNat ((numB ix.toNat ++ (numB (bN rj) ++ numB hi.toNat))) rtm
  have e4 := rdN_mid (numB 4 ++ numB fr.toNat ++ numB to.toNat ++ numB tm.toNat) ix.toNat ((numB (bN rj) ++ numB hi.toNat)) rix
  have e5 := rdT_mid (numB 4 ++ numB fr.toNat ++ numB to.toNat ++ numB tm.toNat ++ numB ix.toNat) rj (numB hi.toNat)
  have e6 := rdN_mid (numB 4 ++ numB fr.toNat ++ numB to.toNat ++ numB tm.toNat ++ numB ix.toNat ++ numB (bN rj)) hi.toNat ([]) rhi
  simp only [List.nil_append, List.append_nil, List.append_assoc, List.length_nil] at e0 e1 e2 e3 e4 e5 e6
  have hT : txM4 fr to tm ix hi rj = (numB 4 ++ (numB fr.toNat ++ (numB to.toNat ++ (numB tm.toNat ++ (numB ix.toNat ++ (numB (bN rj) ++ numB hi.toNat)))))) := by simp [txM4]
  rw [hT] at hv
  have hl : (numB 4 ++ (numB fr.toNat ++ (numB to.toNat ++ (numB tm.toNat ++ (numB ix.toNat ++ (numB (bN rj) ++ numB hi.toNat)))))).length ≤ 1000 := by
    have q0 := numB_len 4
    have q1 := numB_len fr.toNat
    have q2 := numB_len to.toNat
    have q3 := numB_len tm.toNat
    have q4 := numB_len ix.toNat
    have q5 := numB_len (bN rj)
    have q6 := numB_len hi.toNat
    simp only [List.length_append]; omega
  have hE : 0 = if doneE (numB 4 ++ (numB fr.toNat ++ (numB to.toNat ++ (numB tm.toNat ++ (numB ix.toNat ++ (numB (bN rj) ++ numB hi.toNat)))))) (numB 4 ++ (numB fr.toNat ++ (numB to.toNat ++ (numB tm.toNat ++ (numB ix.toNat ++ (numB (bN rj) ++ numB hi.toNat)))))).length 0 = 0 then ckM4 (fr.toNat : Int) (to.toNat : Int) (tm.toNat : Int) (ix.toNat : Int) 0 0 (hi.toNat : Int) 0 rj 0 0 0 0 else doneE (numB 4 ++ (numB fr.toNat ++ (numB to.toNat ++ (numB tm.toNat ++ (numB ix.toNat ++ (numB (bN rj) ++ numB hi.toNat)))))) (numB 4 ++ (numB fr.toNat ++ (numB to.toNat ++ (numB tm.toNat ++ (numB ix.toNat ++ (numB (bN rj) ++ numB hi.toNat)))))).length 0 := by
    rw [if_pos (doneE_end _), cfr, cto, ctm, cix, chi]; exact h.symm
  refine (getM4_any _ v M w hv hM (by omega) e0 e1 e2 e3 e4 e5 e6 0 hE).mono ?_
  rintro r w' ⟨rfl, hB⟩
  rw [cfr, cto, ctm, cix, chi]
  exact gotM_of ⟨4, fr, to, tm, ix, 0, 0, hi, 0, rj, none, 0, [], 0, 0, none, 0, []⟩ rfl ⟨EntsOw.nil _ _, Ow.nil _ _⟩ hB

set_option maxRecDepth 100000 in
set_option maxHeartbeats 8000000 in
theorem back5 {fr to tm ix lt cm hi cx : Int} {rj : Bool} {ea : Option Addr} {ec : Nat} {es : List Ent} {si st : Int} {sa : Option Addr} {sc : Nat} {sd : List UInt8} (h : ckM5 fr to tm ix lt cm hi cx rj es.length si st sd.length = 0) (v : Value) (M : Nat) (w : World) (hv : Sl M w v (txM5 fr to tm cm cx)) (hM : M ≤ w.heap.size) :
    Calls Try.prog 25 #[.agg #[], v] w (GotM w 0 (Msg.says ⟨5, fr, to, tm, ix, lt, cm, hi, cx, rj, ea, ec, es, si, st, sa, sc, sd⟩)) := by
  have hbl := blank_out (ckM5_blank h)
  obtain ⟨kfr, kto, ktm, kix, klt, kcm, khi, kcx⟩ := ckM5_ok h
  obtain ⟨z0, z1, -, z3, -, z5, hes, hsi, hst, hsd⟩ := hbl
  obtain rfl : es = [] := List.length_eq_zero_iff.1 hes
  obtain rfl : sd = [] := List.length_eq_zero_iff.1 hsd
  subst z0 z1 z3 z5 hsi hst
  obtain ⟨cfr, rfr⟩ := num_in kfr
  obtain ⟨cto, rto⟩ := num_in kto
  obtain ⟨ctm, rtm⟩ := num_in ktm
  obtain ⟨ccm, rcm⟩ := num_in kcm
  obtain ⟨ccx, rcx⟩ := num_in kcx
  have e0 := rdN_mid ([]) 5 ((numB fr.toNat ++ (numB to.toNat ++ (numB tm.toNat ++ (numB cm.toNat ++ numB cx.toNat))))) (by decide)
  have e1 := rdN_mid (numB 5) fr.toNat ((numB to.toNat ++ (numB tm.toNat ++ (numB cm.toNat ++ numB cx.toNat)))) rfr
  have e2 := rdN_mid (numB 5 ++ numB fr.toNat) to.toNat ((numB tm.toNat ++ (numB cm.toNat ++ numB cx.toNat))) rto
  have e3 := rdN_mid (numB 5 ++ numB fr.toNat ++ numB to.toNat) tm.toNat ((numB cm.toNat ++ numB cx.toNat)) rtm
  have e4 := rdN_mid (numB 5 ++ numB fr.toNat ++ numB to.toNat ++ numB tm.toNat) cm.toNat (numB cx.toNat) rcm
  have e5 := rdN_mid (numB 5 ++ numB fr.toNat ++ numB to.toNat ++ numB tm.toNat ++ numB cm.toNat) cx.toNat ([]) rcx
  simp only [List.nil_append, List.append_nil, List.append_assoc, List.length_nil] at e0 e1 e2 e3 e4 e5
  have hT : txM5 fr to tm cm cx = (numB 5 ++ (numB fr.toNat ++ (numB to.toNat ++ (numB tm.toNat ++ (numB cm.toNat ++ numB cx.toNat))))) := by simp [txM5]
  rw [hT] at hv
  have hl : (numB 5 ++ (numB fr.toNat ++ (numB to.toNat ++ (numB tm.toNat ++ (numB cm.toNat ++ numB cx.toNat))))).length ≤ 1000 := by
    have q0 := numB_len 5
    have q1 := numB_len fr.toNat
    have q2 := numB_len to.toNat
    have q3 := numB_len tm.toNat
    have q4 := numB_len cm.toNat
    have q5 := numB_len cx.toNat
    simp only [List.length_append]; omega
  have hE : 0 = if doneE (numB 5 ++ (numB fr.toNat ++ (numB to.toNat ++ (numB tm.toNat ++ (numB cm.toNat ++ numB cx.toNat))))) (numB 5 ++ (numB fr.toNat ++ (numB to.toNat ++ (numB tm.toNat ++ (numB cm.toNat ++ numB cx.toNat))))).length 0 = 0 then ckM5 (fr.toNat : Int) (to.toNat : Int) (tm.toNat : Int) 0 0 (cm.toNat : Int) 0 (cx.toNat : Int) false 0 0 0 0 else doneE (numB 5 ++ (numB fr.toNat ++ (numB to.toNat ++ (numB tm.toNat ++ (numB cm.toNat ++ numB cx.toNat))))) (numB 5 ++ (numB fr.toNat ++ (numB to.toNat ++ (numB tm.toNat ++ (numB cm.toNat ++ numB cx.toNat))))).length 0 := by
    rw [if_pos (doneE_end _), cfr, cto, ctm, ccm, ccx]; exact h.symm
  refine (getM5_any _ v M w hv hM (by omega) e0 e1 e2 e3 e4 e5 0 hE).mono ?_
  rintro r w' ⟨rfl, hB⟩
  rw [cfr, cto, ctm, ccm, ccx]
  exact gotM_of ⟨5, fr, to, tm, 0, 0, cm, 0, cx, false, none, 0, [], 0, 0, none, 0, []⟩ rfl ⟨EntsOw.nil _ _, Ow.nil _ _⟩ hB

set_option maxRecDepth 100000 in
set_option maxHeartbeats 8000000 in
theorem back6 {fr to tm ix lt cm hi cx : Int} {rj : Bool} {ea : Option Addr} {ec : Nat} {es : List Ent} {si st : Int} {sa : Option Addr} {sc : Nat} {sd : List UInt8} (h : ckM6 fr to tm ix lt cm hi cx rj es.length si st sd.length = 0) (v : Value) (M : Nat) (w : World) (hv : Sl M w v (txM6 fr to tm cx)) (hM : M ≤ w.heap.size) :
    Calls Try.prog 25 #[.agg #[], v] w (GotM w 0 (Msg.says ⟨6, fr, to, tm, ix, lt, cm, hi, cx, rj, ea, ec, es, si, st, sa, sc, sd⟩)) := by
  have hbl := blank_out (ckM6_blank h)
  obtain ⟨kfr, kto, ktm, kix, klt, kcm, khi, kcx⟩ := ckM6_ok h
  obtain ⟨z0, z1, z2, z3, -, z5, hes, hsi, hst, hsd⟩ := hbl
  obtain rfl : es = [] := List.length_eq_zero_iff.1 hes
  obtain rfl : sd = [] := List.length_eq_zero_iff.1 hsd
  subst z0 z1 z2 z3 z5 hsi hst
  obtain ⟨cfr, rfr⟩ := num_in kfr
  obtain ⟨cto, rto⟩ := num_in kto
  obtain ⟨ctm, rtm⟩ := num_in ktm
  obtain ⟨ccx, rcx⟩ := num_in kcx
  have e0 := rdN_mid ([]) 6 ((numB fr.toNat ++ (numB to.toNat ++ (numB tm.toNat ++ numB cx.toNat)))) (by decide)
  have e1 := rdN_mid (numB 6) fr.toNat ((numB to.toNat ++ (numB tm.toNat ++ numB cx.toNat))) rfr
  have e2 := rdN_mid (numB 6 ++ numB fr.toNat) to.toNat ((numB tm.toNat ++ numB cx.toNat)) rto
  have e3 := rdN_mid (numB 6 ++ numB fr.toNat ++ numB to.toNat) tm.toNat (numB cx.toNat) rtm
  have e4 := rdN_mid (numB 6 ++ numB fr.toNat ++ numB to.toNat ++ numB tm.toNat) cx.toNat ([]) rcx
  simp only [List.nil_append, List.append_nil, List.append_assoc, List.length_nil] at e0 e1 e2 e3 e4
  have hT : txM6 fr to tm cx = (numB 6 ++ (numB fr.toNat ++ (numB to.toNat ++ (numB tm.toNat ++ numB cx.toNat)))) := by simp [txM6]
  rw [hT] at hv
  have hl : (numB 6 ++ (numB fr.toNat ++ (numB to.toNat ++ (numB tm.toNat ++ numB cx.toNat)))).length ≤ 1000 := by
    have q0 := numB_len 6
    have q1 := numB_len fr.toNat
    have q2 := numB_len to.toNat
    have q3 := numB_len tm.toNat
    have q4 := numB_len cx.toNat
    simp only [List.length_append]; omega
  have hE : 0 = if doneE (numB 6 ++ (numB fr.toNat ++ (numB to.toNat ++ (numB tm.toNat ++ numB cx.toNat)))) (numB 6 ++ (numB fr.toNat ++ (numB to.toNat ++ (numB tm.toNat ++ numB cx.toNat)))).length 0 = 0 then ckM6 (fr.toNat : Int) (to.toNat : Int) (tm.toNat : Int) 0 0 0 0 (cx.toNat : Int) false 0 0 0 0 else doneE (numB 6 ++ (numB fr.toNat ++ (numB to.toNat ++ (numB tm.toNat ++ numB cx.toNat)))) (numB 6 ++ (numB fr.toNat ++ (numB to.toNat ++ (numB tm.toNat ++ numB cx.toNat)))).length 0 := by
    rw [if_pos (doneE_end _), cfr, cto, ctm, ccx]; exact h.symm
  refine (getM6_any _ v M w hv hM (by omega) e0 e1 e2 e3 e4 0 hE).mono ?_
  rintro r w' ⟨rfl, hB⟩
  rw [cfr, cto, ctm, ccx]
  exact gotM_of ⟨6, fr, to, tm, 0, 0, 0, 0, cx, false, none, 0, [], 0, 0, none, 0, []⟩ rfl ⟨EntsOw.nil _ _, Ow.nil _ _⟩ hB

theorem ckM7_sn {fr to tm ix lt cm hi cx : Int} {rj : Bool} {en : Nat} {si st : Int} {sn : Nat} (h : ckM7 fr to tm ix lt cm hi cx rj en si st sn = 0) : ckSnap si st sn = 0 := by
  have h2 : ckSnapM tm si st sn = 0 := by
    unfold ckM7 at h
    revert h
    split
    · simp
    · split
      · simp
      · split
        · simp
        · exact id
  unfold ckSnapM at h2
  by_cases h3 : ckSnap si st sn = 0
  · exact h3
  · rw [if_pos h3] at h2; exact h2

set_option maxRecDepth 100000 in
set_option maxHeartbeats 8000000 in
theorem back7 {fr to tm ix lt cm hi cx : Int} {rj : Bool} {ea : Option Addr} {ec : Nat} {es : List Ent} {si st : Int} {sa : Option Addr} {sc : Nat} {sd : List UInt8} (h : ckM7 fr to tm ix lt cm hi cx rj es.length si st sd.length = 0) (v : Value) (M : Nat) (w : World) (hv : Sl M w v (numB 7 ++ numB fr.toNat ++ numB to.toNat ++ numB tm.toNat ++ (numB (txSnap si st sd).length ++ txSnap si st sd))) (hM : M ≤ w.heap.size) :
    Calls Try.prog 25 #[.agg #[], v] w (GotM w 0 (Msg.says ⟨7, fr, to, tm, ix, lt, cm, hi, cx, rj, ea, ec, es, si, st, sa, sc, sd⟩)) := by
  obtain ⟨z0, z1, z2, z3, z4, z5, hes, -, -, -⟩ := blank_out (ckM7_blank h)
  obtain ⟨kfr, kto, ktm, -, -, -, -, -⟩ := ckM7_ok h
  obtain rfl : es = [] := List.length_eq_zero_iff.1 hes
  subst z0 z1 z2 z3 z4 z5
  have hs := ckM7_sn h
  obtain ⟨g0, g1⟩ := geSnap_tx hs
  obtain ⟨ksi, kst, ksd⟩ := ckSnap_ok hs
  have hsl := txSnap_len si st sd
  obtain ⟨cfr, rfr⟩ := num_in kfr
  obtain ⟨cto, rto⟩ := num_in kto
  obtain ⟨ctm, rtm⟩ := num_in ktm
  obtain ⟨csi, rsi⟩ := num_in ksi
  obtain ⟨cst, rst⟩ := num_in kst
  obtain ⟨S, hS⟩ : ∃ S, txSnap si st sd = S := ⟨_, rfl⟩
  rw [hS] at hv g0 g1 hsl
  have e0 := rdN_mid ([]) 7 (numB fr.toNat ++ (numB to.toNat ++ (numB tm.toNat ++ (numB S.length ++ S)))) (by decide)
  have e1 := rdN_mid (numB 7) fr.toNat (numB to.toNat ++ (numB tm.toNat ++ (numB S.length ++ S))) rfr
  have e2 := rdN_mid (numB 7 ++ numB fr.toNat) to.toNat (numB tm.toNat ++ (numB S.length ++ S)) rto
  have e3 := rdN_mid (numB 7 ++ numB fr.toNat ++ numB to.toNat) tm.toNat (numB S.length ++ S) rtm
  have e4 := rdB_mid (numB 7 ++ numB fr.toNat ++ numB to.toNat ++ numB tm.toNat) S ([]) 1048576 (by omega) (by omega)
  simp only [List.nil_append, List.append_nil, List.append_assoc, List.length_nil] at e0 e1 e2 e3 e4 hv
  have hl : (numB 7 ++ (numB fr.toNat ++ (numB to.toNat ++ (numB tm.toNat ++ (numB S.length ++ S))))).length ≤ 1000000 := by
    have q0 := numB_len 7
    have q1 := numB_len fr.toNat
    have q2 := numB_len to.toNat
    have q3 := numB_len tm.toNat
    have q4 := numB_len S.length
    simp only [List.length_append]; omega
  have hG : (si.toNat, st.toNat, sd) = if (0 : Nat) ≠ 0 then (0, 0, []) else goSnap S := by simp [g1]
  have hE7 : 0 = if (0 : Nat) ≠ 0 then 0 else geSnap S := by simp [g0]
  have hE : 0 = if (0 : Nat) ≠ 0 then 0 else if doneE (numB 7 ++ (numB fr.toNat ++ (numB to.toNat ++ (numB tm.toNat ++ (numB S.length ++ S))))) (numB 7 ++ (numB fr.toNat ++ (numB to.toNat ++ (numB tm.toNat ++ (numB S.length ++ S))))).length 0 = 0 then ckM7 (fr.toNat : Int) (to.toNat : Int) (tm.toNat : Int) 0 0 0 0 0 false 0 (si.toNat : Int) (st.toNat : Int) sd.length else doneE (numB 7 ++ (numB fr.toNat ++ (numB to.toNat ++ (numB tm.toNat ++ (numB S.length ++ S))))) (numB 7 ++ (numB fr.toNat ++ (numB to.toNat ++ (numB tm.toNat ++ (numB S.length ++ S))))).length 0 := by
    rw [if_neg (by simp), if_pos (doneE_end _), cfr, cto, ctm, csi, cst]; exact h.symm
  refine (getM7_any _ v M w hv hM (by omega) e0 e1 e2 e3 e4 hG 0 0 hE7 hE).mono ?_
  rintro r w' ⟨hg, hB⟩
  have := gotM_7 hg hB
  rw [if_pos rfl, cfr, cto, ctm, csi, cst] at this
  exact this

theorem rdEs_packs (es : List Ent) (h : ∀ e ∈ es, e.ck = 0) : ∀ pre : List UInt8, rdEs (pre ++ packs es) 8192 es.length (pre.length, 0) = (0, es.map (fun e => (e.t.toNat, e.i.toNat, e.k.toNat, e.d)), ((pre ++ packs es).length, 0)) := by
  induction es with
  | nil => intro pre; simp [rdEs, packs]
  | cons e r ih =>
    intro pre
    have he := h e (by simp)
    unfold Ent.ck at he
    obtain ⟨-, -, -, kd⟩ := ckEntry_ok he
    have hl := txEntry_len e.t e.i e.k e.d
    have hb : rdB (pre ++ packs (e :: r)) 8192 (pre.length, 0) = (e.tx, ((pre ++ (numB e.tx.length ++ e.tx)).length, 0)) := by
      have := rdB_mid pre e.tx (packs r) 8192 (by unfold Ent.tx; omega) (by unfold Ent.tx; omega)
      simpa [packs] using this
    obtain ⟨g0, g1⟩ := geEntry_tx he
    have ih2 := ih (fun x hx => h x (by simp [hx])) (pre ++ (numB e.tx.length ++ e.tx))
    have hc : pre ++ packs (e :: r) = (pre ++ (numB e.tx.length ++ e.tx)) ++ packs r := by simp [packs]
    simp only [List.length_cons, rdEs, hb]
    rw [if_neg (by simp), show e.tx = txEntry e.t e.i e.k e.d from rfl, g0, g1, if_neg (by simp)]
    rw [show txEntry e.t e.i e.k e.d = e.tx from rfl, hc, ih2]
    simp

theorem entries_nat {es : List Ent} (h : ∀ e ∈ es, e.ck = 0) : saysN (es.map (fun e => (e.t.toNat, e.i.toNat, e.k.toNat, e.d))) = es.map Ent.says := by
  unfold saysN
  rw [List.map_map]
  refine List.map_congr_left fun e he => ?_
  have hk := h e he
  unfold Ent.ck at hk
  obtain ⟨k1, k2, k3, -⟩ := ckEntry_ok hk
  simp only [Function.comp_apply, Ent.says, (num_in k1).1, (num_in k2).1, (num_in k3).1]

theorem ckM3_es {fr to tm ix lt cm hi cx : Int} {rj : Bool} {es : List Ent} {si st : Int} {sn : Nat} (h : ckM3 fr to tm ix lt cm hi cx rj es si st sn = 0) : es.length ≤ 64 ∧ firstErr es = 0 := by
  have h2 : ckApp tm ix lt es = 0 := by
    unfold ckM3 at h
    revert h
    split
    · simp
    · split
      · simp
      · split
        · simp
        · exact id
  unfold ckApp at h2
  by_cases h3 : 64 < es.length
  · rw [if_pos h3] at h2; simp at h2
  · rw [if_neg h3] at h2
    by_cases h4 : firstErr es = 0
    · exact ⟨by omega, h4⟩
    · rw [if_pos h4] at h2; exact absurd h2 h4

set_option maxRecDepth 100000 in
set_option maxHeartbeats 8000000 in
theorem back3 {fr to tm ix lt cm hi cx : Int} {rj : Bool} {ea : Option Addr} {ec : Nat} {es : List Ent} {si st : Int} {sa : Option Addr} {sc : Nat} {sd : List UInt8} (h : ckM3 fr to tm ix lt cm hi cx rj es si st sd.length = 0) (v : Value) (M : Nat) (w : World) (hv : Sl M w v (numB 3 ++ numB fr.toNat ++ numB to.toNat ++ numB tm.toNat ++ (numB ix.toNat ++ (numB lt.toNat ++ (numB cm.toNat ++ (numB es.length ++ packs es)))))) (hM : M ≤ w.heap.size) :
    Calls Try.prog 25 #[.agg #[], v] w (GotM w 0 (Msg.says ⟨3, fr, to, tm, ix, lt, cm, hi, cx, rj, ea, ec, es, si, st, sa, sc, sd⟩)) := by
  obtain ⟨-, -, -, z3, z4, z5, -, hsi, hst, hsd⟩ := blank_out (ckM3_blank h)
  obtain ⟨kfr, kto, ktm, kix, klt, kcm, -, -⟩ := ckM3_ok h
  obtain rfl : sd = [] := List.length_eq_zero_iff.1 hsd
  subst z3 z4 z5 hsi hst
  obtain ⟨h64, hfe⟩ := ckM3_es h
  have hall := firstErr_all hfe
  have hpl := packs_len hall
  obtain ⟨cfr, rfr⟩ := num_in kfr
  obtain ⟨cto, rto⟩ := num_in kto
  obtain ⟨ctm, rtm⟩ := num_in ktm
  obtain ⟨cix, rix⟩ := num_in kix
  obtain ⟨clt, rlt⟩ := num_in klt
  obtain ⟨ccm, rcm⟩ := num_in kcm
  have e0 := rdN_mid ([]) 3 ((numB fr.toNat ++ (numB to.toNat ++ (numB tm.toNat ++ (numB ix.toNat ++ (numB lt.toNat ++ (numB cm.toNat ++ (numB es.length ++ packs es)))))))) (by decide)
  have e1 := rdN_mid (numB 3) fr.toNat ((numB to.toNat ++ (numB tm.toNat ++ (numB ix.toNat ++ (numB lt.toNat ++ (numB cm.toNat ++ (numB es.length ++ packs es))))))) rfr
  have e2 := rdN_mid (numB 3 ++ numB fr.toNat) to.toNat ((numB tm.toNat ++ (numB ix.toNat ++ (numB lt.toNat ++ (numB cm.toNat ++ (numB es.length ++ packs es)))))) rto
  have e3 := rdN_mid (numB 3 ++ numB fr.toNat ++ numB to.toNat) tm.toNat ((numB ix.toNat ++ (numB lt.toNat ++ (numB cm.toNat ++ (numB es.length ++ packs es))))) rtm
  have e4 := rdN_mid (numB 3 ++ numB fr.toNat ++ numB to.toNat ++ numB tm.toNat) ix.toNat ((numB lt.toNat ++ (numB cm.toNat ++ (numB es.length ++ packs es)))) rix
  have e5 := rdN_mid (numB 3 ++ numB fr.toNat ++ numB to.toNat ++ numB tm.toNat ++ numB ix.toNat) lt.toNat ((numB cm.toNat ++ (numB es.length ++ packs es))) rlt
  have e6 := rdN_mid (numB 3 ++ numB fr.toNat ++ numB to.toNat ++ numB tm.toNat ++ numB ix.toNat ++ numB lt.toNat) cm.toNat ((numB es.length ++ packs es)) rcm
  have e7 := rdN_mid (numB 3 ++ numB fr.toNat ++ numB to.toNat ++ numB tm.toNat ++ numB ix.toNat ++ numB lt.toNat ++ numB cm.toNat) es.length (packs es) (by omega)
  have e8 := rdEs_packs es hall (numB 3 ++ numB fr.toNat ++ numB to.toNat ++ numB tm.toNat ++ numB ix.toNat ++ numB lt.toNat ++ numB cm.toNat ++ numB es.length)
  simp only [List.nil_append, List.append_assoc, List.length_nil] at e0 e1 e2 e3 e4 e5 e6 e7 e8 hv
  have hl : (numB 3 ++ (numB fr.toNat ++ (numB to.toNat ++ (numB tm.toNat ++ (numB ix.toNat ++ (numB lt.toNat ++ (numB cm.toNat ++ (numB es.length ++ packs es)))))))).length ≤ 1000000 := by
    have q0 := numB_len 3
    have q1 := numB_len fr.toNat
    have q2 := numB_len to.toNat
    have q3 := numB_len tm.toNat
    have q4 := numB_len ix.toNat
    have q5 := numB_len lt.toNat
    have q6 := numB_len cm.toNat
    have q7 := numB_len es.length
    simp only [List.length_append]; omega
  have hck : ckM3 (fr.toNat : Int) (to.toNat : Int) (tm.toNat : Int) (ix.toNat : Int) (lt.toNat : Int) (cm.toNat : Int) 0 0 false (entsOf (es.map (fun e => (e.t.toNat, e.i.toNat, e.k.toNat, e.d)))) 0 0 0 = 0 := by
    rw [cfr, cto, ctm, cix, clt, ccm]
    exact (ckM3_says ((entsOf_says _).trans (entries_nat hall))).trans h
  have hg := getM3_any _ v M w hv hM (by omega) e0 e1 e2 e3 e4 e5 e6 e7 0 0 (by simp only [e8]; simp; omega) (by simp only [e8]; rw [if_neg (by simp), if_pos (doneE_end _)]; exact hck.symm)
  refine hg.mono ?_
  rintro r w' ⟨hg, hB⟩
  have := gotM_3 hg hB
  rw [if_pos rfl, cfr, cto, ctm, cix, clt, ccm] at this
  simp only [e8, entries_nat hall] at this
  exact this

/-- What was put is read back. -/
theorem back_any (m : Msg) (h : m.ck = 0) (v : Value) (M : Nat) (w : World) (hv : Sl M w v m.tx) (hM : M ≤ w.heap.size) : Calls Try.prog 25 #[.agg #[], v] w (GotM w 0 m.says) := by
  obtain ⟨kd, fr, to, tm, ix, lt, cm, hi, cx, rj, ea, ec, es, si, st, sa, sc, sd⟩ := m
  rcases kinds kd with hk | rfl | rfl | rfl | rfl | rfl | rfl | rfl
  · exfalso
    have := ck_no (m := ⟨kd, fr, to, tm, ix, lt, cm, hi, cx, rj, ea, ec, es, si, st, sa, sc, sd⟩) hk
    rw [this] at h; simp at h
  · exact back1 h v M w hv hM
  · exact back2 h v M w hv hM
  · exact back3 h v M w hv hM
  · exact back4 h v M w hv hM
  · exact back5 h v M w hv hM
  · exact back6 h v M w hv hM
  · exact back7 h v M w hv hM

theorem tx_len (m : Msg) (h : m.ck = 0) : m.tx.length ≤ 1000000 := by
  obtain ⟨kd, fr, to, tm, ix, lt, cm, hi, cx, rj, ea, ec, es, si, st, sa, sc, sd⟩ := m
  rcases kinds kd with hk | rfl | rfl | rfl | rfl | rfl | rfl | rfl
  · exfalso
    have := ck_no (m := ⟨kd, fr, to, tm, ix, lt, cm, hi, cx, rj, ea, ec, es, si, st, sa, sc, sd⟩) hk
    rw [this] at h; simp at h
  · have q0 := numB_len 1
    have q1 := numB_len fr.toNat
    have q2 := numB_len to.toNat
    have q3 := numB_len tm.toNat
    have q4 := numB_len ix.toNat
    have q5 := numB_len lt.toNat
    show (txM1 fr to tm ix lt).length ≤ 1000000
    simp only [txM1, List.length_append]; omega
  · have q0 := numB_len 2
    have q1 := numB_len fr.toNat
    have q2 := numB_len to.toNat
    have q3 := numB_len tm.toNat
    have q4 := numB_len (bN rj)
    show (txM2 fr to tm rj).length ≤ 1000000
    simp only [txM2, List.length_append]; omega
  · have h' : ckM3 fr to tm ix lt cm hi cx rj es si st sd.length = 0 := h
    obtain ⟨h64, hfe⟩ := ckM3_es h'
    have hpl := packs_len (firstErr_all hfe)
    have q0 := numB_len 3
    have q1 := numB_len fr.toNat
    have q2 := numB_len to.toNat
    have q3 := numB_len tm.toNat
    have q4 := numB_len ix.toNat
    have q5 := numB_len lt.toNat
    have q6 := numB_len cm.toNat
    have q7 := numB_len es.length
    show (numB 3 ++ numB fr.toNat ++ numB to.toNat ++ numB tm.toNat ++ (numB ix.toNat ++ (numB lt.toNat ++ (numB cm.toNat ++ (numB es.length ++ packs es))))).length ≤ 1000000
    simp only [List.length_append]; omega
  · have q0 := numB_len 4
    have q1 := numB_len fr.toNat
    have q2 := numB_len to.toNat
    have q3 := numB_len tm.toNat
    have q4 := numB_len ix.toNat
    have q5 := numB_len (bN rj)
    have q6 := numB_len hi.toNat
    show (txM4 fr to tm ix hi rj).length ≤ 1000000
    simp only [txM4, List.length_append]; omega
  · have q0 := numB_len 5
    have q1 := numB_len fr.toNat
    have q2 := numB_len to.toNat
    have q3 := numB_len tm.toNat
    have q4 := numB_len cm.toNat
    have q5 := numB_len cx.toNat
    show (txM5 fr to tm cm cx).length ≤ 1000000
    simp only [txM5, List.length_append]; omega
  · have q0 := numB_len 6
    have q1 := numB_len fr.toNat
    have q2 := numB_len to.toNat
    have q3 := numB_len tm.toNat
    have q4 := numB_len cx.toNat
    show (txM6 fr to tm cx).length ≤ 1000000
    simp only [txM6, List.length_append]; omega
  · have h' : ckM7 fr to tm ix lt cm hi cx rj es.length si st sd.length = 0 := h
    obtain ⟨-, -, ksd⟩ := ckSnap_ok (ckM7_sn h')
    have hsl := txSnap_len si st sd
    have q0 := numB_len 7
    have q1 := numB_len fr.toNat
    have q2 := numB_len to.toNat
    have q3 := numB_len tm.toNat
    have q4 := numB_len (txSnap si st sd).length
    show (numB 7 ++ numB fr.toNat ++ numB to.toNat ++ numB tm.toNat ++ (numB (txSnap si st sd).length ++ txSnap si st sd)).length ≤ 1000000
    simp only [List.length_append]; omega
end Go.Proofs.Ytfnnbfgfmbiabab

/-
  Texts of messages: none begins another; what a message says is what its text and its Check hang on.
-/
namespace Go.Proofs.Ytfnnbfgfmbiabab
open Go.RowKit Go.Shelf

theorem numB_pf {a b : Nat} {r s : List UInt8} (ha : a ≤ 4611686018427387904) (hb : b ≤ 4611686018427387904) (h : numB a ++ r = numB b ++ s) : a = b ∧ r = s := by
  have e1 := rdN_mid [] a r ha
  have e2 := rdN_mid [] b s hb
  simp only [List.nil_append, List.length_nil] at e1 e2
  rw [h, e2] at e1
  simp only [Prod.mk.injEq] at e1
  obtain ⟨rfl, -⟩ := e1
  exact ⟨rfl, List.append_cancel_left h⟩
theorem bool_pf {a b : Bool} {r s : List UInt8} (h : numB (bN a) ++ r = numB (bN b) ++ s) : a = b ∧ r = s := by
  have h1 := bN_le a
  have h2 := bN_le b
  obtain ⟨e, hr⟩ := numB_pf (by omega) (by omega) h
  refine ⟨?_, hr⟩
  cases a <;> cases b <;> simp [bN] at e <;> rfl
theorem bytes_pf {t u r s : List UInt8} (ht : t.length ≤ 1000000) (hu : u.length ≤ 1000000) (h : (numB t.length ++ t) ++ r = (numB u.length ++ u) ++ s) : t = u ∧ r = s := by
  simp only [List.append_assoc] at h
  obtain ⟨e, h2⟩ := numB_pf (by omega) (by omega) h
  exact List.append_inj h2 e
theorem num_eq {a b : Int} (ha : isNumB a = true) (hb : isNumB b = true) (h : a.toNat = b.toNat) : a = b := by
  rw [← (num_in ha).1, ← (num_in hb).1, h]

theorem entry_pf {t i k t' i' k' : Int} {m m' : List UInt8} (h : ckEntry t i k m.length = 0) (h' : ckEntry t' i' k' m'.length = 0) (e : txEntry t i k m = txEntry t' i' k' m') : t = t' ∧ i = i' ∧ k = k' ∧ m = m' := by
  obtain ⟨k1, k2, k3, k4⟩ := ckEntry_ok h
  obtain ⟨l1, l2, l3, l4⟩ := ckEntry_ok h'
  unfold txEntry at e
  simp only [List.append_assoc] at e
  obtain ⟨e1, e⟩ := numB_pf (num_in k1).2 (num_in l1).2 e
  obtain ⟨e2, e⟩ := numB_pf (num_in k2).2 (num_in l2).2 e
  obtain ⟨e3, e⟩ := numB_pf (num_in k3).2 (num_in l3).2 e
  have e4 := bytes_pf (t := m) (u := m') (r := []) (s := []) (by omega) (by omega) (by simpa using e)
  exact ⟨num_eq k1 l1 e1, num_eq k2 l2 e2, num_eq k3 l3 e3, e4.1⟩
theorem snap_pf {i t i' t' : Int} {m m' : List UInt8} (h : ckSnap i t m.length = 0) (h' : ckSnap i' t' m'.length = 0) (e : txSnap i t m = txSnap i' t' m') : i = i' ∧ t = t' ∧ m = m' := by
  obtain ⟨k1, k2, k4⟩ := ckSnap_ok h
  obtain ⟨l1, l2, l4⟩ := ckSnap_ok h'
  unfold txSnap at e
  simp only [List.append_assoc] at e
  obtain ⟨e1, e⟩ := numB_pf (num_in k1).2 (num_in l1).2 e
  obtain ⟨e2, e⟩ := numB_pf (num_in k2).2 (num_in l2).2 e
  have e4 := bytes_pf (t := m) (u := m') (r := []) (s := []) (by omega) (by omega) (by simpa using e)
  exact ⟨num_eq k1 l1 e1, num_eq k2 l2 e2, e4.1⟩
theorem packs_pf : ∀ {es fs : List Ent} {r s : List UInt8}, (∀ e ∈ es, e.ck = 0) → (∀ e ∈ fs, e.ck = 0) → es.length = fs.length → packs es ++ r = packs fs ++ s → es.map Ent.says = fs.map Ent.says ∧ r = s
  | [], [], r, s, _, _, _, h => ⟨rfl, by simpa [packs] using h⟩
  | e :: es, [], _, _, _, _, hl, _ => by simp at hl
  | [], f :: fs, _, _, _, _, hl, _ => by simp at hl
  | e :: es, f :: fs, r, s, he, hf, hl, h => by
    have ce := he e (by simp)
    have cf := hf f (by simp)
    unfold Ent.ck at ce cf
    have te := txEntry_len e.t e.i e.k e.d
    have tf := txEntry_len f.t f.i f.k f.d
    have k4 := (ckEntry_ok ce).2.2.2
    have l4 := (ckEntry_ok cf).2.2.2
    simp only [packs] at h
    rw [List.append_assoc, List.append_assoc (numB f.tx.length ++ f.tx)] at h
    obtain ⟨e1, h⟩ := bytes_pf (by unfold Ent.tx; omega) (by unfold Ent.tx; omega) h
    obtain ⟨h1, h2⟩ := packs_pf (fun x hx => he x (by simp [hx])) (fun x hx => hf x (by simp [hx])) (by simpa using hl) h
    obtain ⟨a, b, c, d⟩ := entry_pf ce cf e1
    refine ⟨?_, h2⟩
    simp only [List.map_cons, h1]
    congr 1
    simp only [Ent.says, a, b, c, d]

theorem front1 {fr to tm ix lt cm hi cx : Int} {rj : Bool} {ea : Option Addr} {ec : Nat} {es : List Ent} {si st : Int} {sa : Option Addr} {sc : Nat} {sd : List UInt8} {fr' to' tm' ix' lt' cm' hi' cx' : Int} {rj' : Bool} {ea' : Option Addr} {ec' : Nat} {es' : List Ent} {si' st' : Int} {sa' : Option Addr} {sc' : Nat} {sd' : List UInt8} {r : List UInt8} (h : ckM1 fr to tm ix lt cm hi cx rj es.length si st sd.length = 0) (h' : ckM1 fr' to' tm' ix' lt' cm' hi' cx' rj' es'.length si' st' sd'.length = 0) (e : txM1 fr to tm ix lt ++ r = txM1 fr' to' tm' ix' lt') : (⟨1, fr, to, tm, ix, lt, cm, hi, cx, rj, ea, ec, es, si, st, sa, sc, sd⟩ : Msg).says = (⟨1, fr', to', tm', ix', lt', cm', hi', cx', rj', ea', ec', es', si', st', sa', sc', sd'⟩ : Msg).says ∧ r = [] := by
  obtain ⟨-, -, z2, z3, z4, z5, hes, hsi, hst, hsd⟩ := blank_out (ckM1_blank h)
  obtain ⟨kfr, kto, ktm, kix, klt, kcm, khi, kcx⟩ := ckM1_ok h
  obtain rfl : es = [] := List.length_eq_zero_iff.1 hes
  obtain rfl : sd = [] := List.length_eq_zero_iff.1 hsd
  subst z2 z3 z4 z5 hsi hst
  obtain ⟨-, -, z2', z3', z4', z5', hes', hsi', hst', hsd'⟩ := blank_out (ckM1_blank h')
  obtain ⟨kfr', kto', ktm', kix', klt', kcm', khi', kcx'⟩ := ckM1_ok h'
  obtain rfl : es' = [] := List.length_eq_zero_iff.1 hes'
  obtain rfl : sd' = [] := List.length_eq_zero_iff.1 hsd'
  subst z2' z3' z4' z5' hsi' hst'
  unfold txM1 at e
  simp only [List.append_assoc] at e
  have e0 := List.append_cancel_left e
  obtain ⟨q0, e1⟩ := numB_pf (num_in kfr).2 (num_in kfr').2 e0
  obtain ⟨q1, e2⟩ := numB_pf (num_in kto).2 (num_in kto').2 e1
  obtain ⟨q2, e3⟩ := numB_pf (num_in ktm).2 (num_in ktm').2 e2
  obtain ⟨q3, e4⟩ := numB_pf (num_in kix).2 (num_in kix').2 e3
  obtain ⟨q4, e5⟩ := numB_pf (num_in klt).2 (num_in klt').2 (s := []) (by simpa using e4)
  have w0 := num_eq kfr kfr' q0
  have w1 := num_eq kto kto' q1
  have w2 := num_eq ktm ktm' q2
  have w3 := num_eq kix kix' q3
  have w4 := num_eq klt klt' q4
  subst w0 w1 w2 w3 w4
  exact ⟨rfl, e5⟩

theorem front2 {fr to tm ix lt cm hi cx : Int} {rj : Bool} {ea : Option Addr} {ec : Nat} {es : List Ent} {si st : Int} {sa : Option Addr} {sc : Nat} {sd : List UInt8} {fr' to' tm' ix' lt' cm' hi' cx' : Int} {rj' : Bool} {ea' : Option Addr} {ec' : Nat} {es' : List Ent} {si' st' : Int} {sa' : Option Addr} {sc' : Nat} {sd' : List UInt8} {r : List UInt8} (h : ckM2 fr to tm ix lt cm hi cx rj es.length si st sd.length = 0) (h' : ckM2 fr' to' tm' ix' lt' cm' hi' cx' rj' es'.length si' st' sd'.length = 0) (e : txM2 fr to tm rj ++ r = txM2 fr' to' tm' rj') : (⟨2, fr, to, tm, ix, lt, cm, hi, cx, rj, ea, ec, es, si, st, sa, sc, sd⟩ : Msg).says = (⟨2, fr', to', tm', ix', lt', cm', hi', cx', rj', ea', ec', es', si', st', sa', sc', sd'⟩ : Msg).says ∧ r = [] := by
  obtain ⟨z0, z1, z2, z3, z4, -, hes, hsi, hst, hsd⟩ := blank_out (ckM2_blank h)
  obtain ⟨kfr, kto, ktm, kix, klt, kcm, khi, kcx⟩ := ckM2_ok h
  obtain rfl : es = [] := List.length_eq_zero_iff.1 hes
  obtain rfl : sd = [] := List.length_eq_zero_iff.1 hsd
  subst z0 z1 z2 z3 z4 hsi hst
  obtain ⟨z0', z1', z2', z3', z4', -, hes', hsi', hst', hsd'⟩ := blank_out (ckM2_blank h')
  obtain ⟨kfr', kto', ktm', kix', klt', kcm', khi', kcx'⟩ := ckM2_ok h'
  obtain rfl : es' = [] := List.length_eq_zero_iff.1 hes'
  obtain rfl : sd' = [] := List.length_eq_zero_iff.1 hsd'
  subst z0' z1' z2' z3' z4' hsi' hst'
  unfold txM2 at e
  simp only [List.append_assoc] at e
  have e0 := List.append_cancel_left e
  obtain ⟨q0, e1⟩ := numB_pf (num_in kfr).2 (num_in kfr').2 e0
  obtain ⟨q1, e2⟩ := numB_pf (num_in kto).2 (num_in kto').2 e1
  obtain ⟨q2, e3⟩ := numB_pf (num_in ktm).2 (num_in ktm').2 e2
  obtain ⟨q3, e4⟩ := bool_pf (s := []) (by simpa using e3)
  have w0 := num_eq kfr kfr' q0
  have w1 := num_eq kto kto' q1
  have w2 := num_eq ktm ktm' q2
  have w3 := q3
  subst w0 w1 w2 w3
  exact ⟨rfl, e4⟩

theorem front4 {fr to tm ix lt cm hi cx : Int} {rj : Bool} {ea : Option Addr} {ec : Nat} {es : List Ent} {si st : Int} {sa : Option Addr} {sc : Nat} {sd : List UInt8} {fr' to' tm' ix' lt' cm' hi' cx' : Int} {rj' : Bool} {ea' : Option Addr} {ec' : Nat} {es' : List Ent} {si' st' : Int} {sa' : Option Addr} {sc' : Nat} {sd' : List UInt8} {r : List UInt8} (h : ckM4 fr to tm ix lt cm hi cx rj es.length si st sd.length = 0) (h' : ckM4 fr' to' tm' ix' lt' cm' hi' cx' rj' es'.length si' st' sd'.length = 0) (e : txM4 fr to tm ix hi rj ++ r = txM4 fr' to' tm' ix' hi' rj') : (⟨4, fr, to, tm, ix, lt, cm, hi, cx, rj, ea, ec, es, si, st, sa, sc, sd⟩ : Msg).says = (⟨4, fr', to', tm', ix', lt', cm', hi', cx', rj', ea', ec', es', si', st', sa', sc', sd'⟩ : Msg).says ∧ r = [] := by
  obtain ⟨-, z1, z2, -, z4, -, hes, hsi, hst, hsd⟩ := blank_out (ckM4_blank h)
  obtain ⟨kfr, kto, ktm, kix, klt, kcm, khi, kcx⟩ := ckM4_ok h
  obtain rfl : es = [] := List.length_eq_zero_iff.1 hes
  obtain rfl : sd = [] := List.length_eq_zero_iff.1 hsd
  subst z1 z2 z4 hsi hst
  obtain ⟨-, z1', z2', -, z4', -, hes', hsi', hst', hsd'⟩ := blank_out (ckM4_blank h')
  obtain ⟨kfr', kto', ktm', kix', klt', kcm', khi', kcx'⟩ := ckM4_ok h'
  obtain rfl : es' = [] := List.length_eq_zero_iff.1 hes'
  obtain rfl : sd' = [] := List.length_eq_zero_iff.1 hsd'
  subst z1' z2' z4' hsi' hst'
  unfold txM4 at e
  simp only [List.append_assoc] at e
  have e0 := List.append_cancel_left e
  obtain ⟨q0, e1⟩ := numB_pf (num_in kfr).2 (num_in kfr').2 e0
  obtain ⟨q1, e2⟩ := numB_pf (num_in kto).2 (num_in kto').2 e1
  obtain ⟨q2, e3⟩ := numB_pf (num_in ktm).2 (num_in ktm').2 e2
  obtain ⟨q3, e4⟩ := numB_pf (num_in kix).2 (num_in kix').2 e3
  obtain ⟨q4, e5⟩ := bool_pf e4
  obtain ⟨q5, e6⟩ := numB_pf (num_in khi).2 (num_in khi').2 (s := []) (by simpa using e5)
  have w0 := num_eq kfr kfr' q0
  have w1 := num_eq kto kto' q1
  have w2 := num_eq ktm ktm' q2
  have w3 := num_eq kix kix' q3
  have w4 := q4
  have w5 := num_eq khi khi' q5
  subst w0 w1 w2 w3 w4 w5
  exact ⟨rfl, e6⟩

theorem front5 {fr to tm ix lt cm hi cx : Int} {rj : Bool} {ea : Option Addr} {ec : Nat} {es : List Ent} {si st : Int} {sa : Option Addr} {sc : Nat} {sd : List UInt8} {fr' to' tm' ix' lt' cm' hi' cx' : Int} {rj' : Bool} {ea' : Option Addr} {ec' : Nat} {es' : List Ent} {si' st' : Int} {sa' : Option Addr} {sc' : Nat} {sd' : List UInt8} {r : List UInt8} (h : ckM5 fr to tm ix lt cm hi cx rj es.length si st sd.length = 0) (h' : ckM5 fr' to' tm' ix' lt' cm' hi' cx' rj' es'.length si' st' sd'.length = 0) (e : txM5 fr to tm cm cx ++ r = txM5 fr' to' tm' cm' cx') : (⟨5, fr, to, tm, ix, lt, cm, hi, cx, rj, ea, ec, es, si, st, sa, sc, sd⟩ : Msg).says = (⟨5, fr', to', tm', ix', lt', cm', hi', cx', rj', ea', ec', es', si', st', sa', sc', sd'⟩ : Msg).says ∧ r = [] := by
  obtain ⟨z0, z1, -, z3, -, z5, hes, hsi, hst, hsd⟩ := blank_out (ckM5_blank h)
  obtain ⟨kfr, kto, ktm, kix, klt, kcm, khi, kcx⟩ := ckM5_ok h
  obtain rfl : es = [] := List.length_eq_zero_iff.1 hes
  obtain rfl : sd = [] := List.length_eq_zero_iff.1 hsd
  subst z0 z1 z3 z5 hsi hst
  obtain ⟨z0', z1', -, z3', -, z5', hes', hsi', hst', hsd'⟩ := blank_out (ckM5_blank h')
  obtain ⟨kfr', kto', ktm', kix', klt', kcm', khi', kcx'⟩ := ckM5_ok h'
  obtain rfl : es' = [] := List.length_eq_zero_iff.1 hes'
  obtain rfl : sd' = [] := List.length_eq_zero_iff.1 hsd'
  subst z0' z1' z3' z5' hsi' hst'
  unfold txM5 at e
  simp only [List.append_assoc] at e
  have e0 := List.append_cancel_left e
  obtain ⟨q0, e1⟩ := numB_pf (num_in kfr).2 (num_in kfr').2 e0
  obtain ⟨q1, e2⟩ := numB_pf (num_in kto).2 (num_in kto').2 e1
  obtain ⟨q2, e3⟩ := numB_pf (num_in ktm).2 (num_in ktm').2 e2
  obtain ⟨q3, e4⟩ := numB_pf (num_in kcm).2 (num_in kcm').2 e3
  obtain ⟨q4, e5⟩ := numB_pf (num_in kcx).2 (num_in kcx').2 (s := []) (by simpa using e4)
  have w0 := num_eq kfr kfr' q0
  have w1 := num_eq kto kto' q1
  have w2 := num_eq ktm ktm' q2
  have w3 := num_eq kcm kcm' q3
  have w4 := num_eq kcx kcx' q4
  subst w0 w1 w2 w3 w4
  exact ⟨rfl, e5⟩

theorem front6 {fr to tm ix lt cm hi cx : Int} {rj : Bool} {ea : Option Addr} {ec : Nat} {es : List Ent} {si st : Int} {sa : Option Addr} {sc : Nat} {sd : List UInt8} {fr' to' tm' ix' lt' cm' hi' cx' : Int} {rj' : Bool} {ea' : Option Addr} {ec' : Nat} {es' : List Ent} {si' st' : Int} {sa' : Option Addr} {sc' : Nat} {sd' : List UInt8} {r : List UInt8} (h : ckM6 fr to tm ix lt cm hi cx rj es.length si st sd.length = 0) (h' : ckM6 fr' to' tm' ix' lt' cm' hi' cx' rj' es'.length si' st' sd'.length = 0) (e : txM6 fr to tm cx ++ r = txM6 fr' to' tm' cx') : (⟨6, fr, to, tm, ix, lt, cm, hi, cx, rj, ea, ec, es, si, st, sa, sc, sd⟩ : Msg).says = (⟨6, fr', to', tm', ix', lt', cm', hi', cx', rj', ea', ec', es', si', st', sa', sc', sd'⟩ : Msg).says ∧ r = [] := by
  obtain ⟨z0, z1, z2, z3, -, z5, hes, hsi, hst, hsd⟩ := blank_out (ckM6_blank h)
  obtain ⟨kfr, kto, ktm, kix, klt, kcm, khi, kcx⟩ := ckM6_ok h
  obtain rfl : es = [] := List.length_eq_zero_iff.1 hes
  obtain rfl : sd = [] := List.length_eq_zero_iff.1 hsd
  subst z0 z1 z2 z3 z5 hsi hst
  obtain ⟨z0', z1', z2', z3', -, z5', hes', hsi', hst', hsd'⟩ := blank_out (ckM6_blank h')
  obtain ⟨kfr', kto', ktm', kix', klt', kcm', khi', kcx'⟩ := ckM6_ok h'
  obtain rfl : es' = [] := List.length_eq_zero_iff.1 hes'
  obtain rfl : sd' = [] := List.length_eq_zero_iff.1 hsd'
  subst z0' z1' z2' z3' z5' hsi' hst'
  unfold txM6 at e
  simp only [List.append_assoc] at e
  have e0 := List.append_cancel_left e
  obtain ⟨q0, e1⟩ := numB_pf (num_in kfr).2 (num_in kfr').2 e0
  obtain ⟨q1, e2⟩ := numB_pf (num_in kto).2 (num_in kto').2 e1
  obtain ⟨q2, e3⟩ := numB_pf (num_in ktm).2 (num_in ktm').2 e2
  obtain ⟨q3, e4⟩ := numB_pf (num_in kcx).2 (num_in kcx').2 (s := []) (by simpa using e3)
  have w0 := num_eq kfr kfr' q0
  have w1 := num_eq kto kto' q1
  have w2 := num_eq ktm ktm' q2
  have w3 := num_eq kcx kcx' q3
  subst w0 w1 w2 w3
  exact ⟨rfl, e4⟩

theorem front7 {fr to tm ix lt cm hi cx : Int} {rj : Bool} {ea : Option Addr} {ec : Nat} {es : List Ent} {si st : Int} {sa : Option Addr} {sc : Nat} {sd : List UInt8} {fr' to' tm' ix' lt' cm' hi' cx' : Int} {rj' : Bool} {ea' : Option Addr} {ec' : Nat} {es' : List Ent} {si' st' : Int} {sa' : Option Addr} {sc' : Nat} {sd' : List UInt8} {r : List UInt8} (h : ckM7 fr to tm ix lt cm hi cx rj es.length si st sd.length = 0) (h' : ckM7 fr' to' tm' ix' lt' cm' hi' cx' rj' es'.length si' st' sd'.length = 0) (e : numB 7 ++ numB fr.toNat ++ numB to.toNat ++ numB tm.toNat ++ (numB (txSnap si st sd).length ++ txSnap si st sd) ++ r = numB 7 ++ numB fr'.toNat ++ numB to'.toNat ++ numB tm'.toNat ++ (numB (txSnap si' st' sd').length ++ txSnap si' st' sd')) : (⟨7, fr, to, tm, ix, lt, cm, hi, cx, rj, ea, ec, es, si, st, sa, sc, sd⟩ : Msg).says = (⟨7, fr', to', tm', ix', lt', cm', hi', cx', rj', ea', ec', es', si', st', sa', sc', sd'⟩ : Msg).says ∧ r = [] := by
  obtain ⟨z0, z1, z2, z3, z4, z5, hes, -, -, -⟩ := blank_out (ckM7_blank h)
  obtain ⟨kfr, kto, ktm, -, -, -, -, -⟩ := ckM7_ok h
  obtain rfl : es = [] := List.length_eq_zero_iff.1 hes
  subst z0 z1 z2 z3 z4 z5
  have hs := ckM7_sn h
  have hl := txSnap_len si st sd
  have hd := (ckSnap_ok hs).2.2
  obtain ⟨z0', z1', z2', z3', z4', z5', hes', -, -, -⟩ := blank_out (ckM7_blank h')
  obtain ⟨kfr', kto', ktm', -, -, -, -, -⟩ := ckM7_ok h'
  obtain rfl : es' = [] := List.length_eq_zero_iff.1 hes'
  subst z0' z1' z2' z3' z4' z5'
  have hs' := ckM7_sn h'
  have hl' := txSnap_len si' st' sd'
  have hd' := (ckSnap_ok hs').2.2
  simp only [List.append_assoc] at e
  have e0 := List.append_cancel_left e
  obtain ⟨q0, e1⟩ := numB_pf (num_in kfr).2 (num_in kfr').2 e0
  obtain ⟨q1, e2⟩ := numB_pf (num_in kto).2 (num_in kto').2 e1
  obtain ⟨q2, e3⟩ := numB_pf (num_in ktm).2 (num_in ktm').2 e2
  have w0 := num_eq kfr kfr' q0
  have w1 := num_eq kto kto' q1
  have w2 := num_eq ktm ktm' q2
  obtain ⟨q9, e9⟩ := bytes_pf (t := txSnap si st sd) (u := txSnap si' st' sd') (r := r) (s := []) (by omega) (by omega) (by simpa using e3)
  obtain ⟨w7, w8, w9⟩ := snap_pf hs hs' q9
  subst w0 w1 w2 w7 w8 w9
  exact ⟨rfl, e9⟩

theorem front3 {fr to tm ix lt cm hi cx : Int} {rj : Bool} {ea : Option Addr} {ec : Nat} {es : List Ent} {si st : Int} {sa : Option Addr} {sc : Nat} {sd : List UInt8} {fr' to' tm' ix' lt' cm' hi' cx' : Int} {rj' : Bool} {ea' : Option Addr} {ec' : Nat} {es' : List Ent} {si' st' : Int} {sa' : Option Addr} {sc' : Nat} {sd' : List UInt8} {r : List UInt8} (h : ckM3 fr to tm ix lt cm hi cx rj es si st sd.length = 0) (h' : ckM3 fr' to' tm' ix' lt' cm' hi' cx' rj' es' si' st' sd'.length = 0) (e : numB 3 ++ numB fr.toNat ++ numB to.toNat ++ numB tm.toNat ++ (numB ix.toNat ++ (numB lt.toNat ++ (numB cm.toNat ++ (numB es.length ++ packs es)))) ++ r = numB 3 ++ numB fr'.toNat ++ numB to'.toNat ++ numB tm'.toNat ++ (numB ix'.toNat ++ (numB lt'.toNat ++ (numB cm'.toNat ++ (numB es'.length ++ packs es'))))) : (⟨3, fr, to, tm, ix, lt, cm, hi, cx, rj, ea, ec, es, si, st, sa, sc, sd⟩ : Msg).says = (⟨3, fr', to', tm', ix', lt', cm', hi', cx', rj', ea', ec', es', si', st', sa', sc', sd'⟩ : Msg).says ∧ r = [] := by
  obtain ⟨-, -, -, z3, z4, z5, -, hsi, hst, hsd⟩ := blank_out (ckM3_blank h)
  obtain ⟨kfr, kto, ktm, kix, klt, kcm, -, -⟩ := ckM3_ok h
  obtain rfl : sd = [] := List.length_eq_zero_iff.1 hsd
  subst z3 z4 z5 hsi hst
  obtain ⟨h64, hfe⟩ := ckM3_es h
  have hall := firstErr_all hfe
  obtain ⟨-, -, -, z3', z4', z5', -, hsi', hst', hsd'⟩ := blank_out (ckM3_blank h')
  obtain ⟨kfr', kto', ktm', kix', klt', kcm', -, -⟩ := ckM3_ok h'
  obtain rfl : sd' = [] := List.length_eq_zero_iff.1 hsd'
  subst z3' z4' z5' hsi' hst'
  obtain ⟨h64', hfe'⟩ := ckM3_es h'
  have hall' := firstErr_all hfe'
  simp only [List.append_assoc] at e
  have e0 := List.append_cancel_left e
  obtain ⟨q0, e1⟩ := numB_pf (num_in kfr).2 (num_in kfr').2 e0
  obtain ⟨q1, e2⟩ := numB_pf (num_in kto).2 (num_in kto').2 e1
  obtain ⟨q2, e3⟩ := numB_pf (num_in ktm).2 (num_in ktm').2 e2
  obtain ⟨q3, e4⟩ := numB_pf (num_in kix).2 (num_in kix').2 e3
  obtain ⟨q4, e5⟩ := numB_pf (num_in klt).2 (num_in klt').2 e4
  obtain ⟨q5, e6⟩ := numB_pf (num_in kcm).2 (num_in kcm').2 e5
  have w0 := num_eq kfr kfr' q0
  have w1 := num_eq kto kto' q1
  have w2 := num_eq ktm ktm' q2
  have w3 := num_eq kix kix' q3
  have w4 := num_eq klt klt' q4
  have w5 := num_eq kcm kcm' q5
  obtain ⟨q8, e8⟩ := numB_pf (by omega) (by omega) e6
  obtain ⟨q9, e9⟩ := packs_pf (r := r) (s := []) hall hall' q8 (by simpa using e8)
  subst w0 w1 w2 w3 w4 w5
  refine ⟨?_, e9⟩
  simp only [Msg.says, saysOf, q9]

theorem kind_num {m : Msg} (h : m.ck = 0) : ∃ b, m.tx = numB m.kd.toNat ++ b ∧ isNumB m.kd = true := by
  obtain ⟨kd, fr, to, tm, ix, lt, cm, hi, cx, rj, ea, ec, es, si, st, sa, sc, sd⟩ := m
  rcases kinds kd with hk | rfl | rfl | rfl | rfl | rfl | rfl | rfl
  · exfalso
    have := ck_no (m := ⟨kd, fr, to, tm, ix, lt, cm, hi, cx, rj, ea, ec, es, si, st, sa, sc, sd⟩) hk
    rw [this] at h; simp at h
  · exact ⟨_, by show txM1 fr to tm ix lt = _; unfold txM1; simp only [List.append_assoc]; rfl, rfl⟩
  · exact ⟨_, by show txM2 fr to tm rj = _; unfold txM2; simp only [List.append_assoc]; rfl, rfl⟩
  · exact ⟨_, by show numB 3 ++ numB fr.toNat ++ numB to.toNat ++ numB tm.toNat ++ (numB ix.toNat ++ (numB lt.toNat ++ (numB cm.toNat ++ (numB es.length ++ packs es)))) = _; simp only [List.append_assoc]; rfl, rfl⟩
  · exact ⟨_, by show txM4 fr to tm ix hi rj = _; unfold txM4; simp only [List.append_assoc]; rfl, rfl⟩
  · exact ⟨_, by show txM5 fr to tm cm cx = _; unfold txM5; simp only [List.append_assoc]; rfl, rfl⟩
  · exact ⟨_, by show txM6 fr to tm cx = _; unfold txM6; simp only [List.append_assoc]; rfl, rfl⟩
  · exact ⟨_, by show numB 7 ++ numB fr.toNat ++ numB to.toNat ++ numB tm.toNat ++ (numB (txSnap si st sd).length ++ txSnap si st sd) = _; simp only [List.append_assoc]; rfl, rfl⟩

/-- No text begins another; two with one text say one thing. -/
theorem tx_front {m n : Msg} {r : List UInt8} (h : m.ck = 0) (h' : n.ck = 0) (e : m.tx ++ r = n.tx) : m.says = n.says ∧ r = [] := by
  obtain ⟨b, hb, hn⟩ := kind_num h
  obtain ⟨b', hb', hn'⟩ := kind_num h'
  have e2 := e
  rw [hb, hb', List.append_assoc] at e2
  have hk := num_eq hn hn' (numB_pf (num_in hn).2 (num_in hn').2 e2).1
  clear hb hb' hn hn' e2
  obtain ⟨kd, fr, to, tm, ix, lt, cm, hi, cx, rj, ea, ec, es, si, st, sa, sc, sd⟩ := m
  obtain ⟨kd', fr', to', tm', ix', lt', cm', hi', cx', rj', ea', ec', es', si', st', sa', sc', sd'⟩ := n
  simp only at hk
  subst hk
  rcases kinds kd with hk | rfl | rfl | rfl | rfl | rfl | rfl | rfl
  · exfalso
    have := ck_no (m := ⟨kd, fr, to, tm, ix, lt, cm, hi, cx, rj, ea, ec, es, si, st, sa, sc, sd⟩) hk
    rw [this] at h; simp at h
  · exact front1 h h' e
  · exact front2 h h' e
  · exact front3 h h' e
  · exact front4 h h' e
  · exact front5 h h' e
  · exact front6 h h' e
  · exact front7 h h' e

theorem packs_says : ∀ {es fs : List Ent}, es.map Ent.says = fs.map Ent.says → packs es = packs fs
  | [], [], _ => rfl
  | e :: es, [], h => by simp at h
  | [], f :: fs, h => by simp at h
  | e :: es, f :: fs, h => by
    simp only [List.map_cons, List.cons.injEq] at h
    obtain ⟨a, b, c, d⟩ := says_eq.1 h.1
    simp only [packs, Ent.tx, a, b, c, d, packs_says h.2]

/-- Check and text hang on what a message says. -/
theorem of_says {m n : Msg} (h : m.says = n.says) : m.ck = n.ck ∧ m.tx = n.tx := by
  obtain ⟨kd, fr, to, tm, ix, lt, cm, hi, cx, rj, ea, ec, es, si, st, sa, sc, sd⟩ := m
  obtain ⟨kd', fr', to', tm', ix', lt', cm', hi', cx', rj', ea', ec', es', si', st', sa', sc', sd'⟩ := n
  simp only [Msg.says, Prod.mk.injEq] at h
  obtain ⟨⟨rfl, rfl, rfl, rfl, rfl, rfl, rfl, rfl, rfl⟩, rfl, hes, rfl, rfl, rfl⟩ := h
  have hl : es.length = es'.length := by have := congrArg List.length hes; simpa [saysOf] using this
  unfold saysOf at hes
  refine ⟨?_, ?_⟩
  · unfold Msg.ck
    simp only [hl, ckM3_says hes]
  · unfold Msg.tx
    simp only [hl, packs_says hes]

end Go.Proofs.Ytfnnbfgfmbiabab

/-
  What Get reads from bytes, put again, is those bytes.
-/
namespace Go.Proofs.Ytfnnbfgfmbiabab
open Go.RowKit Go.Shelf

theorem rdN_ok {l : List UInt8} {p e n p' : Nat} (h : rdN l (p, e) = (n, (p', 0))) : e = 0 := by
  by_cases he : e = 0
  · exact he
  · unfold rdN pk at h; simp [he] at h
theorem rdT_ok {l : List UInt8} {p e p' : Nat} {n : Bool} (h : rdT l (p, e) = (n, (p', 0))) : e = 0 := by
  by_cases he : e = 0
  · exact he
  · unfold rdT boolAt pk at h; simp [he] at h
theorem rdB_ok {l t : List UInt8} {most : Int} {p e p' : Nat} (h : rdB l most (p, e) = (t, (p', 0))) : e = 0 := by
  by_cases he : e = 0
  · exact he
  · unfold rdB takeAt pk at h; simp [he] at h
theorem done_out {l : List UInt8} {p e : Nat} (h : doneE l p e = 0) : e = 0 ∧ l.drop p = [] := by
  unfold doneE at h
  split at h
  · simp at h
  · rename_i hn
    exact ⟨h, List.drop_eq_nil_of_le (by omega)⟩

theorem rdN_canon {l : List UInt8} {p n p' : Nat} (h : rdN l (p, 0) = (n, (p', 0))) : l.drop p = numB n ++ l.drop p' := by
  have h0 : (intAt l (p : Int)).2.2 = 0 := by
    unfold rdN pk at h; simp at h; exact h.2.2
  obtain ⟨a, k, m, e1, e2, -, -, -, -, hnum, -⟩ := intAt_fronts l p h0
  obtain rfl : p = a := by omega
  unfold rdN pk at h
  simp only [if_true, e2, Prod.mk.injEq] at h
  obtain ⟨rfl, rfl, -⟩ := h
  rw [hnum, ← List.drop_drop, List.take_append_drop]
theorem rdT_canon {l : List UInt8} {p p' : Nat} {n : Bool} (h : rdT l (p, 0) = (n, (p', 0))) : l.drop p = numB (bN n) ++ l.drop p' := by
  unfold rdT boolAt at h
  by_cases h1 : 1 < (pk l p 0).1
  · simp [h1] at h
  · simp only [h1, if_false, Prod.mk.injEq] at h
    obtain ⟨hn, hp, he⟩ := h
    have hr : rdN l (p, 0) = ((pk l p 0).1, (p', 0)) := by unfold rdN; simp only [hp, he]
    have := rdN_canon hr
    rw [this]
    congr 1
    congr 1
    rw [← hn]
    unfold bN
    by_cases h2 : (pk l p 0).1 = 1
    · simp [h2]
    · simp [h2]; omega
theorem rdB_canon {l t : List UInt8} {most : Int} {p p' : Nat} (h : rdB l most (p, 0) = (t, (p', 0))) : l.drop p = (numB t.length ++ t) ++ l.drop p' := by
  unfold rdB takeAt at h
  simp only at h
  by_cases h1 : (pk l p 0).2.2 = 0
  · rw [if_neg (by simp [h1])] at h
    by_cases h2 : max most 0 < ((pk l p 0).1 : Int)
    · rw [if_pos h2] at h; simp at h
    · rw [if_neg h2] at h
      by_cases h3 : l.length - (p + (pk l p 0).2.1) < (pk l p 0).1
      · rw [if_pos h3] at h; simp at h
      · rw [if_neg h3] at h
        simp only [Prod.mk.injEq] at h
        obtain ⟨ht, hp, -⟩ := h
        have hr : rdN l (p, 0) = ((pk l p 0).1, (p + (pk l p 0).2.1, 0)) := by unfold rdN; simp only [h1]
        have hc := rdN_canon hr
        have hl : t.length = (pk l p 0).1 := by rw [← ht]; simp; omega
        rw [hc, hl, ← hp, List.append_assoc]
        congr 1
        have e := List.take_append_drop (pk l p 0).1 (l.drop (p + (pk l p 0).2.1))
        rw [List.drop_drop, ht] at e
        exact e.symm
  · rw [if_pos h1] at h; simp at h; exact absurd h.2.2 h1

theorem snap_canon {t : List UInt8} (h : geSnap t = 0) : t = txSnap ((goSnap t).1 : Int) ((goSnap t).2.1 : Int) (goSnap t).2.2 := by
  have hg : goSnap t = (rdSnap t).1 := by unfold goSnap; rw [if_pos h]
  rw [hg]
  unfold geSnap at h
  by_cases hd : doneE t (rdSnap t).2.1 (rdSnap t).2.2 = 0
  · obtain ⟨n1, a1, e1, H1⟩ : ∃ n1 a1 e1, rdN t (0, 0) = (n1, (a1, e1)) := ⟨_, _, _, rfl⟩
    obtain ⟨n2, a2, e2, H2⟩ : ∃ n2 a2 e2, rdN t (a1, e1) = (n2, (a2, e2)) := ⟨_, _, _, rfl⟩
    obtain ⟨n3, a3, e3, H3⟩ : ∃ n3 a3 e3, rdB t 524288 (a2, e2) = (n3, (a3, e3)) := ⟨_, _, _, rfl⟩
    unfold rdSnap at hd ⊢
    simp only [H1, H2, H3] at hd ⊢
    obtain ⟨rfl, hend⟩ := done_out hd
    obtain rfl := rdB_ok H3
    obtain rfl := rdN_ok H2
    have c1 := rdN_canon H1
    have c2 := rdN_canon H2
    have c3 := rdB_canon H3
    rw [List.drop_zero, c2, c3, hend] at c1
    refine c1.trans ?_
    unfold txSnap
    simp
  · rw [if_neg hd] at h; exact absurd h hd
theorem entry_canon {t : List UInt8} (h : geEntry t = 0) : t = txEntry ((goEntry t).1 : Int) ((goEntry t).2.1 : Int) ((goEntry t).2.2.1 : Int) (goEntry t).2.2.2 := by
  have hg : goEntry t = (rdEntry t).1 := by unfold goEntry; rw [if_pos h]
  rw [hg]
  unfold geEntry at h
  by_cases hd : doneE t (rdEntry t).2.1 (rdEntry t).2.2 = 0
  · obtain ⟨n1, a1, e1, H1⟩ : ∃ n1 a1 e1, rdN t (0, 0) = (n1, (a1, e1)) := ⟨_, _, _, rfl⟩
    obtain ⟨n2, a2, e2, H2⟩ : ∃ n2 a2 e2, rdN t (a1, e1) = (n2, (a2, e2)) := ⟨_, _, _, rfl⟩
    obtain ⟨n3, a3, e3, H3⟩ : ∃ n3 a3 e3, rdN t (a2, e2) = (n3, (a3, e3)) := ⟨_, _, _, rfl⟩
    obtain ⟨n4, a4, e4, H4⟩ : ∃ n4 a4 e4, rdB t 4096 (a3, e3) = (n4, (a4, e4)) := ⟨_, _, _, rfl⟩
    unfold rdEntry at hd ⊢
    simp only [H1, H2, H3, H4] at hd ⊢
    obtain ⟨rfl, hend⟩ := done_out hd
    obtain rfl := rdB_ok H4
    obtain rfl := rdN_ok H3
    obtain rfl := rdN_ok H2
    have c1 := rdN_canon H1
    have c2 := rdN_canon H2
    have c3 := rdN_canon H3
    have c4 := rdB_canon H4
    rw [List.drop_zero, c2, c3, c4, hend] at c1
    refine c1.trans ?_
    unfold txEntry
    simp
  · rw [if_neg hd] at h; exact absurd h hd

theorem es_canon (l : List UInt8) (n : Nat) : ∀ p : Nat, (rdEs l 8192 n (p, 0)).1 = 0 → (rdEs l 8192 n (p, 0)).2.2.2 = 0 ∧ l.drop p = packs (entsOf (rdEs l 8192 n (p, 0)).2.1) ++ l.drop (rdEs l 8192 n (p, 0)).2.2.1 ∧ (rdEs l 8192 n (p, 0)).2.1.length = n := by
  induction n with
  | zero => intro p _; simp [rdEs, entsOf, packs]
  | succ n ih =>
    intro p h
    obtain ⟨t, p1, e1, H1⟩ : ∃ t p1 e1, rdB l 8192 (p, 0) = (t, (p1, e1)) := ⟨_, _, _, rfl⟩
    simp only [rdEs, H1] at h ⊢
    by_cases he : e1 = 0
    · subst he
      rw [if_neg (by simp)] at h ⊢
      by_cases hg : geEntry t = 0
      · rw [if_neg (by simp [hg])] at h ⊢
        obtain ⟨i1, i2, i3⟩ := ih p1 h
        simp only at i1 i2 i3 ⊢
        generalize rdEs l 8192 n (p1, 0) = X at *
        refine ⟨i1, ?_, by simp [i3]⟩
        have c1 := rdB_canon H1
        rw [c1, i2]
        have ht : (Ent.of (goEntry t) none 0).tx = t := by
          have hc := entry_canon hg
          generalize goEntry t = g at hc ⊢
          exact hc.symm
        simp only [entsOf, List.map_cons, packs, List.append_assoc, ht]
      · rw [if_pos hg] at h; exact absurd h hg
    · rw [if_pos he] at h; exact absurd h he

theorem code7 (b : List UInt8) (hb : b.length ≤ 100000000) {p0 fr pa ea to pb eb tm pc ec : Nat} (H0 : Hid (rdN b (0, 0) = (7, (p0, 0)))) (Ha : Hid (rdN b (p0, 0) = (fr, (pa, ea)))) (Hb : Hid (rdN b (pa, ea) = (to, (pb, eb)))) (Hc : Hid (rdN b (pb, eb) = (tm, (pc, ec)))) :
    ∃ (G : Said) (E : Nat), Hid (∀ v M w, Sl M w v b → M ≤ w.heap.size → Calls Try.prog 25 #[.agg #[], v] w (GotM w E G)) ∧ Hid (E = 0 → ∃ m : Msg, m.says = G ∧ m.ck = 0 ∧ m.tx = b) ∧ Hid (G.2.2.1.length ≤ 1000000) := by
  obtain ⟨t, p1, e1, H1⟩ : ∃ t p e, Hid (rdB b 1048576 (pc, ec) = (t, (p, e))) := ⟨_, _, _, rfl⟩
  obtain ⟨GG, hGG⟩ : ∃ GG : Nat × Nat × List UInt8, GG = if e1 ≠ 0 then (0, 0, []) else goSnap t := ⟨_, rfl⟩
  obtain ⟨G0, G1, G2⟩ := GG
  obtain ⟨E7, hE7⟩ : ∃ E7, E7 = if e1 ≠ 0 then e1 else geSnap t := ⟨_, rfl⟩
  obtain ⟨E, hE⟩ : ∃ E, E = if E7 ≠ 0 then E7 else if doneE b p1 e1 = 0 then ckM7 (fr : Int) (to : Int) (tm : Int) 0 0 0 0 0 false 0 (G0 : Int) (G1 : Int) G2.length else doneE b p1 e1 := ⟨_, rfl⟩
  refine ⟨_, E, fun v M w hv hM => (getM7_any b v M w hv hM (by omega) H0 Ha Hb Hc H1 hGG E7 E hE7 hE).mono fun r w' h => gotM_7 h.1 h.2, ?_, ?_⟩
  · intro h0
    subst h0
    have h7 : E7 = 0 := by
      by_cases h7 : E7 = 0
      · exact h7
      · rw [if_pos h7] at hE; omega
    rw [if_neg (by simp [h7])] at hE
    by_cases hd : doneE b p1 e1 = 0
    · rw [if_pos hd] at hE
      refine ⟨⟨7, (fr : Int), (to : Int), (tm : Int), 0, 0, 0, 0, 0, false, none, 0, [], (G0 : Int), (G1 : Int), none, 0, G2⟩, by rw [if_pos rfl]; rfl, hE.symm, ?_⟩
      obtain ⟨rfl, hend⟩ := done_out hd
      rw [if_neg (by simp)] at hE7 hGG
      have hs := snap_canon (hE7.symm.trans h7)
      rw [← hGG] at hs
      simp only at hs
      obtain rfl := rdB_ok H1.out
      obtain rfl := rdN_ok Hc.out
      obtain rfl := rdN_ok Hb.out
      have c0 := rdN_canon H0.out
      have c1 := rdN_canon Ha.out
      have c2 := rdN_canon Hb.out
      have c3 := rdN_canon Hc.out
      have c4 := rdB_canon H1.out
      rw [List.drop_zero, c1, c2, c3, c4, hend] at c0
      refine Eq.trans ?_ c0.symm
      show numB 7 ++ numB (fr : Int).toNat ++ numB (to : Int).toNat ++ numB (tm : Int).toNat ++ (numB (txSnap (G0 : Int) (G1 : Int) G2).length ++ txSnap (G0 : Int) (G1 : Int) G2) = _
      rw [← hs]
      simp
    · rw [if_neg hd] at hE; exact absurd hE.symm hd
  · show List.length (ite (E = 0) _ _ : Said).2.2.1 ≤ 1000000
    split
    · simp
    · simp [zeroM, Msg.says, saysOf]

theorem code3 (b : List UInt8) (hb : b.length ≤ 100000000) {p0 fr pa ea to pb eb tm pc ec : Nat} (H0 : Hid (rdN b (0, 0) = (3, (p0, 0)))) (Ha : Hid (rdN b (p0, 0) = (fr, (pa, ea)))) (Hb : Hid (rdN b (pa, ea) = (to, (pb, eb)))) (Hc : Hid (rdN b (pb, eb) = (tm, (pc, ec)))) :
    ∃ (G : Said) (E : Nat), Hid (∀ v M w, Sl M w v b → M ≤ w.heap.size → Calls Try.prog 25 #[.agg #[], v] w (GotM w E G)) ∧ Hid (E = 0 → ∃ m : Msg, m.says = G ∧ m.ck = 0 ∧ m.tx = b) ∧ Hid (G.2.2.1.length ≤ 1000000) := by
  obtain ⟨n1, p1, e1, H1⟩ : ∃ t p e, Hid (rdN b (pc, ec) = (t, (p, e))) := ⟨_, _, _, rfl⟩
  obtain ⟨n2, p2, e2, H2⟩ : ∃ t p e, Hid (rdN b (p1, e1) = (t, (p, e))) := ⟨_, _, _, rfl⟩
  obtain ⟨n3, p3, e3, H3⟩ : ∃ t p e, Hid (rdN b (p2, e2) = (t, (p, e))) := ⟨_, _, _, rfl⟩
  obtain ⟨n4, p4, e4, H4⟩ : ∃ t p e, Hid (rdN b (p3, e3) = (t, (p, e))) := ⟨_, _, _, rfl⟩
  obtain ⟨E3, hE3⟩ : ∃ E3, E3 = (if e4 ≠ 0 then e4 else if (64 : Int) < (n4 : Int) then 3 else (rdEs b 8192 n4 (p4, e4)).1 : Nat) := ⟨_, rfl⟩
  obtain ⟨E, hE⟩ : ∃ E, E = if E3 ≠ 0 then E3 else if doneE b (rdEs b 8192 n4 (p4, e4)).2.2.1 (rdEs b 8192 n4 (p4, e4)).2.2.2 = 0 then ckM3 (fr : Int) (to : Int) (tm : Int) (n1 : Int) (n2 : Int) (n3 : Int) 0 0 false (entsOf (rdEs b 8192 n4 (p4, e4)).2.1) 0 0 0 else doneE b (rdEs b 8192 n4 (p4, e4)).2.2.1 (rdEs b 8192 n4 (p4, e4)).2.2.2 := ⟨_, rfl⟩
  have h3 : E = 0 → e4 = 0 ∧ n4 ≤ 64 ∧ (rdEs b 8192 n4 (p4, e4)).1 = 0 ∧ E3 = 0 := fun h0 => by
    have h3 : E3 = 0 := by
      by_cases h3 : E3 = 0
      · exact h3
      · rw [if_pos h3] at hE; omega
    have h30 := h3
    rw [hE3] at h3
    by_cases h4 : e4 = 0
    · rw [if_neg (by simp [h4])] at h3
      by_cases h5 : (64 : Int) < (n4 : Int)
      · rw [if_pos h5] at h3; simp at h3
      · rw [if_neg h5] at h3; exact ⟨h4, by omega, h3, h30⟩
    · rw [if_pos h4] at h3; exact absurd h3 h4
  refine ⟨_, E, fun v M w hv hM => (getM3_any b v M w hv hM (by omega) H0 Ha Hb Hc H1 H2 H3 H4 E3 E hE3 hE).mono fun r w' h => gotM_3 h.1 h.2, ?_, ?_⟩
  · intro h0
    obtain ⟨rfl, h64, hes, h30⟩ := h3 h0
    subst h0
    obtain ⟨i1, i2, i3⟩ := es_canon b n4 p4 hes
    rw [if_neg (by simp [h30])] at hE
    generalize rdEs b 8192 n4 (p4, 0) = X at *
    by_cases hd : doneE b X.2.2.1 X.2.2.2 = 0
    · rw [if_pos hd] at hE
      refine ⟨⟨3, (fr : Int), (to : Int), (tm : Int), (n1 : Int), (n2 : Int), (n3 : Int), 0, 0, false, none, 0, entsOf X.2.1, 0, 0, none, 0, []⟩, by rw [if_pos rfl]; simp only [Msg.says, saysOf, entsOf_says], hE.symm, ?_⟩
      obtain ⟨-, hend⟩ := done_out hd
      obtain rfl := rdN_ok H4.out
      obtain rfl := rdN_ok H3.out
      obtain rfl := rdN_ok H2.out
      obtain rfl := rdN_ok H1.out
      obtain rfl := rdN_ok Hc.out
      obtain rfl := rdN_ok Hb.out
      have c0 := rdN_canon H0.out
      have c1 := rdN_canon Ha.out
      have c2 := rdN_canon Hb.out
      have c3 := rdN_canon Hc.out
      have c4 := rdN_canon H1.out
      have c5 := rdN_canon H2.out
      have c6 := rdN_canon H3.out
      have c7 := rdN_canon H4.out
      rw [List.drop_zero, c1, c2, c3, c4, c5, c6, c7, i2, hend] at c0
      refine Eq.trans ?_ c0.symm
      show numB 3 ++ numB (fr : Int).toNat ++ numB (to : Int).toNat ++ numB (tm : Int).toNat ++ (numB (n1 : Int).toNat ++ (numB (n2 : Int).toNat ++ (numB (n3 : Int).toNat ++ (numB (entsOf X.2.1).length ++ packs (entsOf X.2.1))))) = _
      rw [show (entsOf X.2.1).length = n4 by simp [entsOf, i3]]
      simp
    · rw [if_neg hd] at hE; exact absurd hE.symm hd
  · show List.length (ite (E = 0) _ _ : Said).2.2.1 ≤ 1000000
    split
    · rename_i h0
      obtain ⟨rfl, h64, hes, -⟩ := h3 h0
      have := (es_canon b n4 p4 hes).2.2
      simp [saysN]; omega
    · simp [zeroM, Msg.says, saysOf]

/-- Get of any bytes: what it answers; if it answers no error, these bytes are the text of what it answers. -/
theorem get_code (b : List UInt8) (hb : b.length ≤ 100000000) : ∃ (G : Said) (E : Nat), Hid (∀ v M w, Sl M w v b → M ≤ w.heap.size → Calls Try.prog 25 #[.agg #[], v] w (GotM w E G)) ∧ Hid (E = 0 → ∃ m : Msg, m.says = G ∧ m.ck = 0 ∧ m.tx = b) ∧ Hid (G.2.2.1.length ≤ 1000000) := by
  have hz : Hid ((zeroM.says).2.2.1.length ≤ 1000000) := by show (zeroM.says).2.2.1.length ≤ 1000000; simp [zeroM, Msg.says, saysOf]
  obtain ⟨n, p0, e0, H0⟩ : ∃ n p0 e0, Hid (rdN b (0, 0) = (n, (p0, e0))) := ⟨_, _, _, rfl⟩
  by_cases he0 : e0 = 0
  case neg =>
    exact ⟨zeroM.says, e0, fun v M w hv hM => (getErr_any b v M w hv hM (by omega) H0 he0).mono fun r w' h => gotM_zero h.1 h.2, fun h => absurd h he0, hz⟩
  subst he0
  obtain ⟨fr, pa, ea, Ha⟩ : ∃ n p e, Hid (rdN b (p0, 0) = (n, (p, e))) := ⟨_, _, _, rfl⟩
  obtain ⟨to, pb, eb, Hb⟩ : ∃ n p e, Hid (rdN b (pa, ea) = (n, (p, e))) := ⟨_, _, _, rfl⟩
  obtain ⟨tm, pc, ec, Hc⟩ : ∃ n p e, Hid (rdN b (pb, eb) = (n, (p, e))) := ⟨_, _, _, rfl⟩
  rcases kinds (n : Int) with hk | hk | hk | hk | hk | hk | hk | hk
  · exact ⟨zeroM.says, 6, fun v M w hv hM => (getKind_any b v M w hv hM (by omega) H0 rfl hk).mono fun r w' h => gotM_zero h.1 h.2, fun h => absurd h (by decide), hz⟩
  · obtain rfl : n = 1 := by omega
    obtain ⟨n1, p1, e1, H1⟩ : ∃ n p e, Hid (rdN b (pc, ec) = (n, (p, e))) := ⟨_, _, _, rfl⟩
    obtain ⟨n2, p2, e2, H2⟩ : ∃ n p e, Hid (rdN b (p1, e1) = (n, (p, e))) := ⟨_, _, _, rfl⟩
    obtain ⟨E, hE⟩ : ∃ E, E = if doneE b p2 e2 = 0 then ckM1 (fr : Int) (to : Int) (tm : Int) (n1 : Int) (n2 : Int) 0 0 0 false 0 0 0 0 else doneE b p2 e2 := ⟨_, rfl⟩
    refine ⟨if E = 0 then Msg.says ⟨1, (fr : Int), (to : Int), (tm : Int), (n1 : Int), (n2 : Int), 0, 0, 0, false, none, 0, [], 0, 0, none, 0, []⟩ else zeroM.says, E, fun v M w hv hM => (getM1_any b v M w hv hM (by omega) H0 Ha Hb Hc H1 H2 E hE).mono fun r w' h => gotM_of ⟨1, (fr : Int), (to : Int), (tm : Int), (n1 : Int), (n2 : Int), 0, 0, 0, false, none, 0, [], 0, 0, none, 0, []⟩ h.1 ⟨EntsOw.nil _ _, Ow.nil _ _⟩ h.2, ?_, ?_⟩
    · intro h0
      subst h0
      rw [if_pos rfl]
      by_cases hd : doneE b p2 e2 = 0
      · rw [if_pos hd] at hE
        refine ⟨⟨1, (fr : Int), (to : Int), (tm : Int), (n1 : Int), (n2 : Int), 0, 0, 0, false, none, 0, [], 0, 0, none, 0, []⟩, rfl, hE.symm, ?_⟩
        obtain ⟨rfl, hend⟩ := done_out hd
        obtain rfl := rdN_ok H2.out
        obtain rfl := rdN_ok H1.out
        obtain rfl := rdN_ok Hc.out
        obtain rfl := rdN_ok Hb.out
        have c0 := rdN_canon H0.out
        have c1 := rdN_canon Ha.out
        have c2 := rdN_canon Hb.out
        have c3 := rdN_canon Hc.out
        have c4 := rdN_canon H1.out
        have c5 := rdN_canon H2.out
        rw [List.drop_zero, c1, c2, c3, c4, c5, hend] at c0
        refine Eq.trans ?_ c0.symm
        show txM1 (fr : Int) (to : Int) (tm : Int) (n1 : Int) (n2 : Int) = _
        unfold txM1
        simp
      · rw [if_neg hd] at hE; exact absurd hE.symm hd
    · show (if E = 0 then Msg.says ⟨1, (fr : Int), (to : Int), (tm : Int), (n1 : Int), (n2 : Int), 0, 0, 0, false, none, 0, [], 0, 0, none, 0, []⟩ else zeroM.says).2.2.1.length ≤ 1000000
      split
      · simp [Msg.says, saysOf]
      · exact hz.out
  · obtain rfl : n = 2 := by omega
    obtain ⟨n1, p1, e1, H1⟩ : ∃ n p e, Hid (rdT b (pc, ec) = (n, (p, e))) := ⟨_, _, _, rfl⟩
    obtain ⟨E, hE⟩ : ∃ E, E = if doneE b p1 e1 = 0 then ckM2 (fr : Int) (to : Int) (tm : Int) 0 0 0 0 0 n1 0 0 0 0 else doneE b p1 e1 := ⟨_, rfl⟩
    refine ⟨if E = 0 then Msg.says ⟨2, (fr : Int), (to : Int), (tm : Int), 0, 0, 0, 0, 0, n1, none, 0, [], 0, 0, none, 0, []⟩ else zeroM.says, E, fun v M w hv hM => (getM2_any b v M w hv hM (by omega) H0 Ha Hb Hc H1 E hE).mono fun r w' h => gotM_of ⟨2, (fr : Int), (to : Int), (tm : Int), 0, 0, 0, 0, 0, n1, none, 0, [], 0, 0, none, 0, []⟩ h.1 ⟨EntsOw.nil _ _, Ow.nil _ _⟩ h.2, ?_, ?_⟩
    · intro h0
      subst h0
      rw [if_pos rfl]
      by_cases hd : doneE b p1 e1 = 0
      · rw [if_pos hd] at hE
        refine ⟨⟨2, (fr : Int), (to : Int), (tm : Int), 0, 0, 0, 0, 0, n1, none, 0, [], 0, 0, none, 0, []⟩, rfl, hE.symm, ?_⟩
        obtain ⟨rfl, hend⟩ := done_out hd
        obtain rfl := rdT_ok H1.out
        obtain rfl := rdN_ok Hc.out
        obtain rfl := rdN_ok Hb.out
        have c0 := rdN_canon H0.out
        have c1 := rdN_canon Ha.out
        have c2 := rdN_canon Hb.out
        have c3 := rdN_canon Hc.out
        have c4 := rdT_canon H1.out
        rw [List.drop_zero, c1, c2, c3, c4, hend] at c0
        refine Eq.trans ?_ c0.symm
        show txM2 (fr : Int) (to : Int) (tm : Int) n1 = _
        unfold txM2
        simp
      · rw [if_neg hd] at hE; exact absurd hE.symm hd
    · show (if E = 0 then Msg.says ⟨2, (fr : Int), (to : Int), (tm : Int), 0, 0, 0, 0, 0, n1, none, 0, [], 0, 0, none, 0, []⟩ else zeroM.says).2.2.1.length ≤ 1000000
      split
      · simp [Msg.says, saysOf]
      · exact hz.out
  · obtain rfl : n = 3 := by omega
    exact code3 b hb H0 Ha Hb Hc
  · obtain rfl : n = 4 := by omega
    obtain ⟨n1, p1, e1, H1⟩ : ∃ n p e, Hid (rdN b (pc, ec) = (n, (p, e))) := ⟨_, _, _, rfl⟩
    obtain ⟨n2, p2, e2, H2⟩ : ∃ n p e, Hid (rdT b (p1, e1) = (n, (p, e))) := ⟨_, _, _, rfl⟩
    obtain ⟨n3, p3, e3, H3⟩ : ∃ n p e, Hid (rdN b (p2, e2) = (n, (p, e))) := ⟨_, _, _, rfl⟩
    obtain ⟨E, hE⟩ : ∃ E, E = if doneE b p3 e3 = 0 then ckM4 (fr : Int) (to : Int) (tm : Int) (n1 : Int) 0 0 (n3 : Int) 0 n2 0 0 0 0 else doneE b p3 e3 := ⟨_, rfl⟩
    refine ⟨if E = 0 then Msg.says ⟨4, (fr : Int), (to : Int), (tm : Int), (n1 : Int), 0, 0, (n3 : Int), 0, n2, none, 0, [], 0, 0, none, 0, []⟩ else zeroM.says, E, fun v M w hv hM => (getM4_any b v M w hv hM (by omega) H0 Ha Hb Hc H1 H2 H3 E hE).mono fun r w' h => gotM_of ⟨4, (fr : Int), (to : Int), (tm : Int), (n1 : Int), 0, 0, (n3 : Int), 0, n2, none, 0, [], 0, 0, none, 0, []⟩ h.1 ⟨EntsOw.nil _ _, Ow.nil _ _⟩ h.2, ?_, ?_⟩
    · intro h0
      subst h0
      rw [if_pos rfl]
      by_cases hd : doneE b p3 e3 = 0
      · rw [if_pos hd] at hE
        refine ⟨⟨4, (fr : Int), (to : Int), (tm : Int), (n1 : Int), 0, 0, (n3 : Int), 0, n2, none, 0, [], 0, 0, none, 0, []⟩, rfl, hE.symm, ?_⟩
        obtain ⟨rfl, hend⟩ := done_out hd
        obtain rfl := rdN_ok H3.out
        obtain rfl := rdT_ok H2.out
        obtain rfl := rdN_ok H1.out
        obtain rfl := rdN_ok Hc.out
        obtain rfl := rdN_ok Hb.out
        have c0 := rdN_canon H0.out
        have c1 := rdN_canon Ha.out
        have c2 := rdN_canon Hb.out
        have c3 := rdN_canon Hc.out
        have c4 := rdN_canon H1.out
        have c5 := rdT_canon H2.out
        have c6 := rdN_canon H3.out
        rw [List.drop_zero, c1, c2, c3, c4, c5, c6, hend] at c0
        refine Eq.trans ?_ c0.symm
        show txM4 (fr : Int) (to : Int) (tm : Int) (n1 : Int) (n3 : Int) n2 = _
        unfold txM4
        simp
      · rw [if_neg hd] at hE; exact absurd hE.symm hd
    · show (if E = 0 then Msg.says ⟨4, (fr : Int), (to : Int), (tm : Int), (n1 : Int), 0, 0, (n3 : Int), 0, n2, none, 0, [], 0, 0, none, 0, []⟩ else zeroM.says).2.2.1.length ≤ 1000000
      split
      · simp [Msg.says, saysOf]
      · exact hz.out
  · obtain rfl : n = 5 := by omega
    obtain ⟨n1, p1, e1, H1⟩ : ∃ n p e, Hid (rdN b (pc, ec) = (n, (p, e))) := ⟨_, _, _, rfl⟩
    obtain ⟨n2, p2, e2, H2⟩ : ∃ n p e, Hid (rdN b (p1, e1) = (n, (p, e))) := ⟨_, _, _, rfl⟩
    obtain ⟨E, hE⟩ : ∃ E, E = if doneE b p2 e2 = 0 then ckM5 (fr : Int) (to : Int) (tm : Int) 0 0 (n1 : Int) 0 (n2 : Int) false 0 0 0 0 else doneE b p2 e2 := ⟨_, rfl⟩
    refine ⟨if E = 0 then Msg.says ⟨5, (fr : Int), (to : Int), (tm : Int), 0, 0, (n1 : Int), 0, (n2 : Int), false, none, 0, [], 0, 0, none, 0, []⟩ else zeroM.says, E, fun v M w hv hM => (getM5_any b v M w hv hM (by omega) H0 Ha Hb Hc H1 H2 E hE).mono fun r w' h => gotM_of ⟨5, (fr : Int), (to : Int), (tm : Int), 0, 0, (n1 : Int), 0, (n2 : Int), false, none, 0, [], 0, 0, none, 0, []⟩ h.1 ⟨EntsOw.nil _ _, Ow.nil _ _⟩ h.2, ?_, ?_⟩
    · intro h0
      subst h0
      rw [if_pos rfl]
      by_cases hd : doneE b p2 e2 = 0
      · rw [if_pos hd] at hE
        refine ⟨⟨5, (fr : Int), (to : Int), (tm : Int), 0, 0, (n1 : Int), 0, (n2 : Int), false, none, 0, [], 0, 0, none, 0, []⟩, rfl, hE.symm, ?_⟩
        obtain ⟨rfl, hend⟩ := done_out hd
        obtain rfl := rdN_ok H2.out
        obtain rfl := rdN_ok H1.out
        obtain rfl := rdN_ok Hc.out
        obtain rfl := rdN_ok Hb.out
        have c0 := rdN_canon H0.out
        have c1 := rdN_canon Ha.out
        have c2 := rdN_canon Hb.out
        have c3 := rdN_canon Hc.out
        have c4 := rdN_canon H1.out
        have c5 := rdN_canon H2.out
        rw [List.drop_zero, c1, c2, c3, c4, c5, hend] at c0
        refine Eq.trans ?_ c0.symm
        show txM5 (fr : Int) (to : Int) (tm : Int) (n1 : Int) (n2 : Int) = _
        unfold txM5
        simp
      · rw [if_neg hd] at hE; exact absurd hE.symm hd
    · show (if E = 0 then Msg.says ⟨5, (fr : Int), (to : Int), (tm : Int), 0, 0, (n1 : Int), 0, (n2 : Int), false, none, 0, [], 0, 0, none, 0, []⟩ else zeroM.says).2.2.1.length ≤ 1000000
      split
      · simp [Msg.says, saysOf]
      · exact hz.out
  · obtain rfl : n = 6 := by omega
    obtain ⟨n1, p1, e1, H1⟩ : ∃ n p e, Hid (rdN b (pc, ec) = (n, (p, e))) := ⟨_, _, _, rfl⟩
    obtain ⟨E, hE⟩ : ∃ E, E = if doneE b p1 e1 = 0 then ckM6 (fr : Int) (to : Int) (tm : Int) 0 0 0 0 (n1 : Int) false 0 0 0 0 else doneE b p1 e1 := ⟨_, rfl⟩
    refine ⟨if E = 0 then Msg.says ⟨6, (fr : Int), (to : Int), (tm : Int), 0, 0, 0, 0, (n1 : Int), false, none, 0, [], 0, 0, none, 0, []⟩ else zeroM.says, E, fun v M w hv hM => (getM6_any b v M w hv hM (by omega) H0 Ha Hb Hc H1 E hE).mono fun r w' h => gotM_of ⟨6, (fr : Int), (to : Int), (tm : Int), 0, 0, 0, 0, (n1 : Int), false, none, 0, [], 0, 0, none, 0, []⟩ h.1 ⟨EntsOw.nil _ _, Ow.nil _ _⟩ h.2, ?_, ?_⟩
    · intro h0
      subst h0
      rw [if_pos rfl]
      by_cases hd : doneE b p1 e1 = 0
      · rw [if_pos hd] at hE
        refine ⟨⟨6, (fr : Int), (to : Int), (tm : Int), 0, 0, 0, 0, (n1 : Int), false, none, 0, [], 0, 0, none, 0, []⟩, rfl, hE.symm, ?_⟩
        obtain ⟨rfl, hend⟩ := done_out hd
        obtain rfl := rdN_ok H1.out
        obtain rfl := rdN_ok Hc.out
        obtain rfl := rdN_ok Hb.out
        have c0 := rdN_canon H0.out
        have c1 := rdN_canon Ha.out
        have c2 := rdN_canon Hb.out
        have c3 := rdN_canon Hc.out
        have c4 := rdN_canon H1.out
        rw [List.drop_zero, c1, c2, c3, c4, hend] at c0
        refine Eq.trans ?_ c0.symm
        show txM6 (fr : Int) (to : Int) (tm : Int) (n1 : Int) = _
        unfold txM6
        simp
      · rw [if_neg hd] at hE; exact absurd hE.symm hd
    · show (if E = 0 then Msg.says ⟨6, (fr : Int), (to : Int), (tm : Int), 0, 0, 0, 0, (n1 : Int), false, none, 0, [], 0, 0, none, 0, []⟩ else zeroM.says).2.2.1.length ≤ 1000000
      split
      · simp [Msg.says, saysOf]
      · exact hz.out
  · obtain rfl : n = 7 := by omega
    exact code7 b hb H0 Ha Hb Hc
end Go.Proofs.Ytfnnbfgfmbiabab

