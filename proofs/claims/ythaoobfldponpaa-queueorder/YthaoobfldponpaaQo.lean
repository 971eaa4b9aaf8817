/-
  QueueOrder: the walk of the law.
-/
import Derived.Test.YthaoobfldponpaaMv
import Derived.Test.YthaoobfldponpaaOp
namespace Go.Proofs.Ythaoobfldponpaa
open Go.RowKit
set_option linter.unusedVariables false

/-- The numbers from t on. -/
def seqL (t n : Nat) : List Int := (List.range' t n).map (fun x : Nat => (x : Int))
/-- What is in both queues are the numbers from taken to next. -/
def Inv (lp lq : List Int) (nx tk : Nat) : Prop := lq ++ lp = seqL tk (lq.length + lp.length) ∧ nx = tk + (lq.length + lp.length)
theorem Inv.put {lp lq : List Int} {nx tk : Nat} (h : Inv lp lq nx tk) : Inv (lp ++ [(nx : Int)]) lq (nx + 1) tk := by
  obtain ⟨h1, h2⟩ := h
  refine ⟨?_, by simp; omega⟩
  rw [← List.append_assoc, h1, h2]
  simp only [seqL, List.length_append, List.length_singleton, ← Nat.add_assoc]
  rw [List.range'_concat, List.map_append]
  simp
  omega
theorem Inv.take {lp lq : List Int} {x : Int} {nx tk : Nat} (h : Inv lp (x :: lq) nx tk) : x = (tk : Int) ∧ Inv lp lq nx (tk + 1) := by
  obtain ⟨h1, h2⟩ := h
  have e : (x :: lq).length + lp.length = (lq.length + lp.length) + 1 := by simp; omega
  rw [e] at h1 h2
  simp only [seqL, List.range'_succ, List.map_cons, List.cons_append, List.cons.injEq] at h1
  exact ⟨h1.1, h1.2, by omega⟩
theorem Inv.move {lp lq : List Int} {nx tk : Nat} (h : Inv lp lq nx tk) (m : Nat) : Inv (lp.drop m) (lq ++ lp.take m) nx tk := by
  obtain ⟨h1, h2⟩ := h
  have e : (lq ++ lp.take m).length + (lp.drop m).length = lq.length + lp.length := by simp; omega
  refine ⟨?_, by rw [e]; exact h2⟩
  rw [e, List.append_assoc, List.take_append_drop]
  exact h1

theorem drew0 (w : World) : w = w.drewN 0 := rfl

set_option maxRecDepth 100000 in
set_option maxHeartbeats 20000000 in
theorem queueOrder_walk (room : Int) (hr : In64 room) (other : Int) (hr2 : In64 other) (a : Option Addr) (ca : Nat) (l : List Opn) (w : World) (hl : OpsAt w.heap.size w a l) (hll : l.length ≤ 9223372036854775807) :
    Calls Try.prog 6 #[.int .i64 room, .int .i64 other, .slice a l.length ca] w fun e w' => e = .returned (.bool true) ∧ Below w.heap.size w w' := by
  obtain ⟨x0, y0, R1, h1, h2, h3, h4, hR1, hR2, -⟩ := small 64 (by omega) (by omega) room hr
  obtain ⟨x1, y1, R2, k1, k2, k3, k4, hS1, hS2, -⟩ := small 64 (by omega) (by omega) other hr2
  have g1 : room.tmod 64 = x0 := h1
  have g2 : IntKind.i64.wrap (x0 + 64) = x0 + 64 := h2
  have g3 : (x0 + 64).tmod 64 = y0 := h3
  have j1 : other.tmod 64 = x1 := k1
  have j2 : IntKind.i64.wrap (x1 + 64) = x1 + 64 := k2
  have j3 : (x1 + 64).tmod 64 = y1 := k3
  have HL : Hid (OpsAt w.heap.size w a l) := hl
  clear hl h1 h2 h3 hr hr2 k1 k2 k3 hll
  go_enter Try.func6, Try.ntmps6
  go_wp2_with fail
  refine (first_any w).mono ?_
  rintro e w1 ⟨rfl, hB1⟩
  have HB1 : Hid (Below w.heap.size w w1) := hB1
  clear hB1
  by_cases hlen : 400 < l.length
  · have hg : decide ((400 : Int) < (l.length : Int)) = true := by simp; omega
    clear hlen
    go_wp2
    go_ret
    exact ⟨rfl, HB1.out⟩
  have hg : decide ((400 : Int) < (l.length : Int)) = false := by simp; omega
  go_wp2_with fail
  refine (new_any R1 w1 hR1 hR2).mono ?_
  rintro e w2 ⟨rfl, hw2⟩
  have HP2 : Hid (Qu w.heap.size (fun i => i = w1.heap.size) w2 w1.heap.size R1 []) := by rw [hw2]; exact new_qu w.heap.size R1 w1 HB1.out.size hR2
  have HB2 : Hid (Below w.heap.size w w2) := by rw [hw2]; exact HB1.out.alloc HB1.out.size _
  have HZ2 : Hid (w2.heap.size = w1.heap.size + 1) := by show _ = _; rw [hw2]; simp
  clear hw2 HB1
  go_wp2_with fail
  refine (new_any R2 w2 hS1 hS2).mono ?_
  rintro e w3 ⟨rfl, hw3⟩
  have HQ3 : Hid (Qq w.heap.size (fun i => i = w1.heap.size) (fun i => i = w2.heap.size) w3 w1.heap.size R1 w2.heap.size R2 [] []) := by
    rw [hw3]
    exact ⟨HP2.out.below ((Below.refl _ w2).alloc (Nat.le_refl _) _), new_qu w.heap.size R2 w2 HB2.out.size hS2, fun i h1 h2 => by have := HZ2.out; omega⟩
  have HB3 : Hid (Below w.heap.size w w3) := by rw [hw3]; exact HB2.out.alloc HB2.out.size _
  clear hw3 HP2 HB2 HZ2 g1 g2 g3 j1 j2 j3 h4 k4
  generalize w1.heap.size = bp at *
  generalize w2.heap.size = bq at *
  go_wp2
  go_loopw [10, 11, 12] (fun nv tv iv wr => ∃ (i nx tk : Nat) (T T' : Nat → Prop) (lp lq : List Int), nv = .int .i64 (nx : Int) ∧ tv = .int .i64 (tk : Int) ∧ iv = .int .i64 (i : Int) ∧ i ≤ l.length ∧ nx ≤ i + 1 ∧ Qq w.heap.size T T' wr bp R1 bq R2 lp lq ∧ Inv lp lq nx tk ∧ Below w.heap.size w wr) (fun _ _ iv _ => l.length - (intOf iv).toNat)
  case atStart => exact ⟨0, 1, 1, _, _, [], [], rfl, rfl, rfl, Nat.zero_le _, by omega, HQ3.out, ⟨rfl, rfl⟩, HB3.out⟩
  case round =>
    obtain ⟨i, nx, tk, T, T', lp, lq, rfl, rfl, rfl, hi, hnx, hQ, hI, hB⟩ := hrel
    by_cases hnl : l.length ≤ i
    · have hil' : decide ((i : Int) < (l.length : Int)) = false := by simp; omega
      have HB : Hid (Below w.heap.size w wr) := hB
      clear hQ hI hB
      go_wp2
      go_ret
      exact ⟨rfl, HB.out⟩
    have hil : i < l.length := by omega
    have hil' : (i : Int) < (l.length : Int) := by omega
    have HQ : Hid (Qq w.heap.size T T' wr bp R1 bq R2 lp lq) := hQ
    have HB : Hid (Below w.heap.size w wr) := hB
    have HI : Hid (Inv lp lq nx tk) := hI
    clear hQ hI hB HQ3 HB3
    generalize wr = wp at *
    obtain ⟨b0, o0, rfl, hb0, ho0⟩ := HL.out.at hil
    have HO : Hid (OpAt w b0 (o0 + i * 3) (l.getD i nilOp)) := ho0
    generalize l.getD i nilOp = op at *
    obtain ⟨kd0, n0, ln0⟩ := op
    clear ho0
    obtain ⟨⟨e0, e1, -⟩, -⟩ := HO.out.below hb0 HB.out
    simp only at e0 e1
    by_cases hkd : kd0 = 0
    · subst hkd
      go_wp2_with fail
      refine (room_any HQ.out.p).mono ?_
      rintro e w3 ⟨rfl, q3, hw3⟩
      have HQ3 : Hid (Qq w.heap.size T T' w3 bp R1 bq R2 lp lq) := by rw [hw3]; exact HQ.out.drew q3
      have HB3 : Hid (Below w.heap.size w w3) := by rw [hw3]; exact HB.out.trans ((Out.drew (X := fun _ => False) wp q3).below HB.out.size (fun _ h => h.elim))
      clear hw3 HQ HB e0 e1
      go_wp2_with fail
      refine (put_any HQ3.out.p HB3.out.size (nx : Int)).mono ?_
      rintro e wz ⟨rfl, t4⟩
      have HQQ0 : Hid _ := HQ3.out.one t4
      have HBZ : Hid (Below w.heap.size w wz) := HB3.out.trans (t4.bel HB3.out.size)
      clear t4
      by_cases hlt : lp.length < R1
      · have hd1 : decide (lp.length < R1) = true := by simpa using hlt
        have hd2 : 0 < R1 - lp.length := by omega
        have HQQ : Hid (Qq w.heap.size (grew T w3 wz) T' wz bp R1 bq R2 (lp ++ [(nx : Int)]) lq) := by have := HQQ0.out; unfold putL at this; rw [if_pos hlt] at this; exact this
        have HINV : Hid (Inv (lp ++ [(nx : Int)]) lq (nx + 1) tk) := HI.out.put
        have HNB : Hid (nx + 1 ≤ i + 1 + 1) := by show _ ≤ _; omega
        have hwn : IntKind.i64.wrap ((nx : Int) + 1) = ((nx + 1 : Nat) : Int) := by rw [IntKind.wrap_i64]; omega
        rw [hd1]
        clear HQQ0 HQ3 HB3 hlt hd1 HI
        generalize lp ++ [(nx : Int)] = lp2 at *
        have hP := HQQ.out.p.len
        have hQ := HQQ.out.q.len
        have HLP : Hid (∀ q, Calls Try.prog 27 #[.pointer (some ⟨bp, 0, none⟩)] (wz.drewN q) fun e w' => e = .returned (.int .i64 (lp2.length : Int)) ∧ w' = wz.drewN q) := fun q => len_any (HQQ.out.drew q).p
        have HLQ : Hid (∀ q, Calls Try.prog 27 #[.pointer (some ⟨bq, 0, none⟩)] (wz.drewN q) fun e w' => e = .returned (.int .i64 (lq.length : Int)) ∧ w' = wz.drewN q) := fun q => len_any (HQQ.out.drew q).q
        have HRP : Hid (∀ q, Calls Try.prog 24 #[.pointer (some ⟨bp, 0, none⟩)] (wz.drewN q) fun e w' => e = .returned (.int .i64 ((R1 - lp2.length : Nat) : Int)) ∧ ∃ n, w' = (wz.drewN q).drewN n) := fun q => room_any (HQQ.out.drew q).p
        have HRQ : Hid (∀ q, Calls Try.prog 24 #[.pointer (some ⟨bq, 0, none⟩)] (wz.drewN q) fun e w' => e = .returned (.int .i64 ((R2 - lq.length : Nat) : Int)) ∧ ∃ n, w' = (wz.drewN q).drewN n) := fun q => room_any (HQQ.out.drew q).q
        have hw1 : IntKind.i64.wrap ((lp2.length : Int) + ((R1 - lp2.length : Nat) : Int)) = (R1 : Int) := by rw [IntKind.wrap_i64]; omega
        have hw2 : IntKind.i64.wrap ((lq.length : Int) + ((R2 - lq.length : Nat) : Int)) = (R2 : Int) := by rw [IntKind.wrap_i64]; omega
        have HNX := HINV.out.2
        obtain ⟨D, hw3, hw4⟩ : ∃ D : Nat, IntKind.i64.wrap ((lp2.length : Int) + (lq.length : Int)) = (D : Int) ∧ IntKind.i64.wrap (((nx + 1 : Nat) : Int) - ((tk : Nat) : Int)) = (D : Int) := ⟨lp2.length + lq.length, by rw [IntKind.wrap_i64]; omega, by rw [IntKind.wrap_i64]; omega⟩
        have HNX' : Hid _ := HNX
        clear HNX
        have HFIN : Hid (∀ q, (∃ (i' nx' tk' : Nat) (T1 T1' : Nat → Prop) (lp' lq' : List Int), Value.int .i64 ((nx + 1 : Nat) : Int) = .int .i64 (nx' : Int) ∧ Value.int .i64 ((tk : Nat) : Int) = .int .i64 (tk' : Int) ∧ Value.int .i64 ((i + 1 : Nat) : Int) = .int .i64 (i' : Int) ∧ i' ≤ l.length ∧ nx' ≤ i' + 1 ∧ Qq w.heap.size T1 T1' (wz.drewN q) bp R1 bq R2 lp' lq' ∧ Inv lp' lq' nx' tk' ∧ Below w.heap.size w (wz.drewN q))) := fun q => ⟨i + 1, _, _, _, _, _, _, rfl, rfl, rfl, by omega, HNB.out, HQQ.out.drew q, HINV.out, HBZ.out.trans ((Out.drew (X := fun _ => False) wz q).below HBZ.out.size (fun _ h => h.elim))⟩
        generalize hgx : ((nx + 1 : Nat) : Int) = nxv at *
        generalize hgt : ((tk : Nat) : Int) = tkv at *
        generalize hg1 : R1 - lp2.length = rp at *
        generalize hg2 : R2 - lq.length = rq at *
        generalize hg3 : lp2.length = Lp at *
        generalize hg4 : lq.length = Lq at *
        clear hgx hgt hg1 hg2 hg3 hg4 HQQ HBZ HINV HNX' HNB
        obtain ⟨q0, HQ0⟩ : ∃ q0, Hid (wz = wz.drewN q0) := ⟨0, rfl⟩
        go_wp2_with fail
        rw [HQ0.out]
        refine (HLP.out _).mono ?_
        rintro e wx ⟨rfl, hwx⟩
        subst wx
        go_wp2_with fail
        refine (HLQ.out _).mono ?_
        rintro e wx ⟨rfl, hwx⟩
        subst wx
        go_wp2_with fail
        refine (HLP.out _).mono ?_
        rintro e wx ⟨rfl, hwx⟩
        subst wx
        go_wp2_with fail
        refine (HRP.out _).mono ?_
        rintro e wx ⟨rfl, q1, hwx⟩
        rw [World.drewN_drewN] at hwx
        subst wx
        go_wp2_with fail
        refine (HLQ.out _).mono ?_
        rintro e wx ⟨rfl, hwx⟩
        subst wx
        go_wp2_with fail
        refine (HRQ.out _).mono ?_
        rintro e wx ⟨rfl, q2, hwx⟩
        rw [World.drewN_drewN] at hwx
        subst wx
        go_wp2_with fail
        refine (HLP.out _).mono ?_
        rintro e wx ⟨rfl, hwx⟩
        subst wx
        go_wp2_with fail
        refine (HLQ.out _).mono ?_
        rintro e wx ⟨rfl, hwx⟩
        subst wx
        go_wp2
        exact ⟨HFIN.out _, by simp [intOf]; omega⟩
      · have hd1 : decide (lp.length < R1) = false := by simpa using hlt
        have hd2 : R1 - lp.length = 0 := by omega
        have HQQ : Hid (Qq w.heap.size (grew T w3 wz) T' wz bp R1 bq R2 lp lq) := by have := HQQ0.out; unfold putL at this; rw [if_neg hlt] at this; exact this
        have HINV : Hid (Inv lp lq nx tk) := HI.out
        have HNB : Hid (nx ≤ i + 1 + 1) := by show _ ≤ _; omega
        rw [hd1, hd2]
        clear HQQ0 HQ3 HB3 hlt hd1 HI hd2
        have hP := HQQ.out.p.len
        have hQ := HQQ.out.q.len
        have HLP : Hid (∀ q, Calls Try.prog 27 #[.pointer (some ⟨bp, 0, none⟩)] (wz.drewN q) fun e w' => e = .returned (.int .i64 (lp.length : Int)) ∧ w' = wz.drewN q) := fun q => len_any (HQQ.out.drew q).p
        have HLQ : Hid (∀ q, Calls Try.prog 27 #[.pointer (some ⟨bq, 0, none⟩)] (wz.drewN q) fun e w' => e = .returned (.int .i64 (lq.length : Int)) ∧ w' = wz.drewN q) := fun q => len_any (HQQ.out.drew q).q
        have HRP : Hid (∀ q, Calls Try.prog 24 #[.pointer (some ⟨bp, 0, none⟩)] (wz.drewN q) fun e w' => e = .returned (.int .i64 ((R1 - lp.length : Nat) : Int)) ∧ ∃ n, w' = (wz.drewN q).drewN n) := fun q => room_any (HQQ.out.drew q).p
        have HRQ : Hid (∀ q, Calls Try.prog 24 #[.pointer (some ⟨bq, 0, none⟩)] (wz.drewN q) fun e w' => e = .returned (.int .i64 ((R2 - lq.length : Nat) : Int)) ∧ ∃ n, w' = (wz.drewN q).drewN n) := fun q => room_any (HQQ.out.drew q).q
        have hw1 : IntKind.i64.wrap ((lp.length : Int) + ((R1 - lp.length : Nat) : Int)) = (R1 : Int) := by rw [IntKind.wrap_i64]; omega
        have hw2 : IntKind.i64.wrap ((lq.length : Int) + ((R2 - lq.length : Nat) : Int)) = (R2 : Int) := by rw [IntKind.wrap_i64]; omega
        have HNX := HINV.out.2
        obtain ⟨D, hw3, hw4⟩ : ∃ D : Nat, IntKind.i64.wrap ((lp.length : Int) + (lq.length : Int)) = (D : Int) ∧ IntKind.i64.wrap (((nx : Nat) : Int) - ((tk : Nat) : Int)) = (D : Int) := ⟨lp.length + lq.length, by rw [IntKind.wrap_i64]; omega, by rw [IntKind.wrap_i64]; omega⟩
        have HNX' : Hid _ := HNX
        clear HNX
        have HFIN : Hid (∀ q, (∃ (i' nx' tk' : Nat) (T1 T1' : Nat → Prop) (lp' lq' : List Int), Value.int .i64 ((nx : Nat) : Int) = .int .i64 (nx' : Int) ∧ Value.int .i64 ((tk : Nat) : Int) = .int .i64 (tk' : Int) ∧ Value.int .i64 ((i + 1 : Nat) : Int) = .int .i64 (i' : Int) ∧ i' ≤ l.length ∧ nx' ≤ i' + 1 ∧ Qq w.heap.size T1 T1' (wz.drewN q) bp R1 bq R2 lp' lq' ∧ Inv lp' lq' nx' tk' ∧ Below w.heap.size w (wz.drewN q))) := fun q => ⟨i + 1, _, _, _, _, _, _, rfl, rfl, rfl, by omega, HNB.out, HQQ.out.drew q, HINV.out, HBZ.out.trans ((Out.drew (X := fun _ => False) wz q).below HBZ.out.size (fun _ h => h.elim))⟩
        generalize hgx : ((nx : Nat) : Int) = nxv at *
        generalize hgt : ((tk : Nat) : Int) = tkv at *
        generalize hg1 : R1 - lp.length = rp at *
        generalize hg2 : R2 - lq.length = rq at *
        generalize hg3 : lp.length = Lp at *
        generalize hg4 : lq.length = Lq at *
        clear hgx hgt hg1 hg2 hg3 hg4 HQQ HBZ HINV HNX' HNB
        obtain ⟨q0, HQ0⟩ : ∃ q0, Hid (wz = wz.drewN q0) := ⟨0, rfl⟩
        go_wp2_with fail
        rw [HQ0.out]
        refine (HLP.out _).mono ?_
        rintro e wx ⟨rfl, hwx⟩
        subst wx
        go_wp2_with fail
        refine (HLQ.out _).mono ?_
        rintro e wx ⟨rfl, hwx⟩
        subst wx
        go_wp2_with fail
        refine (HLP.out _).mono ?_
        rintro e wx ⟨rfl, hwx⟩
        subst wx
        go_wp2_with fail
        refine (HRP.out _).mono ?_
        rintro e wx ⟨rfl, q1, hwx⟩
        rw [World.drewN_drewN] at hwx
        subst wx
        go_wp2_with fail
        refine (HLQ.out _).mono ?_
        rintro e wx ⟨rfl, hwx⟩
        subst wx
        go_wp2_with fail
        refine (HRQ.out _).mono ?_
        rintro e wx ⟨rfl, q2, hwx⟩
        rw [World.drewN_drewN] at hwx
        subst wx
        go_wp2_with fail
        refine (HLP.out _).mono ?_
        rintro e wx ⟨rfl, hwx⟩
        subst wx
        go_wp2_with fail
        refine (HLQ.out _).mono ?_
        rintro e wx ⟨rfl, hwx⟩
        subst wx
        go_wp2
        exact ⟨HFIN.out _, by simp [intOf]; omega⟩
    · have hkd1 : (kd0 == 0) = false := by simpa using hkd
      by_cases hkd' : kd0 = 1
      · subst hkd'
        go_wp2_with fail
        refine (take_any HQ.out.q HB.out.size).mono ?_
        rintro e wz ⟨rfl, t4⟩
        have HQQ0 : Hid (Qq w.heap.size T (grew T' wp wz) wz bp R1 bq R2 lp lq.tail) := HQ.out.two t4
        have HBZ : Hid (Below w.heap.size w wz) := HB.out.trans (t4.bel HB.out.size)
        clear t4 HQ HB e0 e1 hkd
        cases lq with
        | nil =>
          have HQQ : Hid (Qq w.heap.size T (grew T' wp wz) wz bp R1 bq R2 lp []) := HQQ0.out
          have HINV : Hid (Inv lp [] nx tk) := HI.out
          have HNB : Hid (nx ≤ i + 1 + 1) := by show _ ≤ _; omega
          clear HQQ0 HI
          simp only [List.headD_nil, List.isEmpty_nil, Bool.not_true]
          generalize hE : ([] : List Int) = lq2 at HQQ HINV
          clear hE
          have hP := HQQ.out.p.len
          have hQ := HQQ.out.q.len
          have HLP : Hid (∀ q, Calls Try.prog 27 #[.pointer (some ⟨bp, 0, none⟩)] (wz.drewN q) fun e w' => e = .returned (.int .i64 (lp.length : Int)) ∧ w' = wz.drewN q) := fun q => len_any (HQQ.out.drew q).p
          have HLQ : Hid (∀ q, Calls Try.prog 27 #[.pointer (some ⟨bq, 0, none⟩)] (wz.drewN q) fun e w' => e = .returned (.int .i64 (lq2.length : Int)) ∧ w' = wz.drewN q) := fun q => len_any (HQQ.out.drew q).q
          have HRP : Hid (∀ q, Calls Try.prog 24 #[.pointer (some ⟨bp, 0, none⟩)] (wz.drewN q) fun e w' => e = .returned (.int .i64 ((R1 - lp.length : Nat) : Int)) ∧ ∃ n, w' = (wz.drewN q).drewN n) := fun q => room_any (HQQ.out.drew q).p
          have HRQ : Hid (∀ q, Calls Try.prog 24 #[.pointer (some ⟨bq, 0, none⟩)] (wz.drewN q) fun e w' => e = .returned (.int .i64 ((R2 - lq2.length : Nat) : Int)) ∧ ∃ n, w' = (wz.drewN q).drewN n) := fun q => room_any (HQQ.out.drew q).q
          have hw1 : IntKind.i64.wrap ((lp.length : Int) + ((R1 - lp.length : Nat) : Int)) = (R1 : Int) := by rw [IntKind.wrap_i64]; omega
          have hw2 : IntKind.i64.wrap ((lq2.length : Int) + ((R2 - lq2.length : Nat) : Int)) = (R2 : Int) := by rw [IntKind.wrap_i64]; omega
          have HNX := HINV.out.2
          obtain ⟨D, hw3, hw4⟩ : ∃ D : Nat, IntKind.i64.wrap ((lp.length : Int) + (lq2.length : Int)) = (D : Int) ∧ IntKind.i64.wrap (((nx : Nat) : Int) - ((tk : Nat) : Int)) = (D : Int) := ⟨lp.length + lq2.length, by rw [IntKind.wrap_i64]; omega, by rw [IntKind.wrap_i64]; omega⟩
          have HNX' : Hid _ := HNX
          clear HNX
          have HFIN : Hid (∀ q, (∃ (i' nx' tk' : Nat) (T1 T1' : Nat → Prop) (lp' lq' : List Int), Value.int .i64 ((nx : Nat) : Int) = .int .i64 (nx' : Int) ∧ Value.int .i64 ((tk : Nat) : Int) = .int .i64 (tk' : Int) ∧ Value.int .i64 ((i + 1 : Nat) : Int) = .int .i64 (i' : Int) ∧ i' ≤ l.length ∧ nx' ≤ i' + 1 ∧ Qq w.heap.size T1 T1' (wz.drewN q) bp R1 bq R2 lp' lq' ∧ Inv lp' lq' nx' tk' ∧ Below w.heap.size w (wz.drewN q))) := fun q => ⟨i + 1, _, _, _, _, _, _, rfl, rfl, rfl, by omega, HNB.out, HQQ.out.drew q, HINV.out, HBZ.out.trans ((Out.drew (X := fun _ => False) wz q).below HBZ.out.size (fun _ h => h.elim))⟩
          generalize hgx : ((nx : Nat) : Int) = nxv at *
          generalize hgt : ((tk : Nat) : Int) = tkv at *
          generalize hg1 : R1 - lp.length = rp at *
          generalize hg2 : R2 - lq2.length = rq at *
          generalize hg3 : lp.length = Lp at *
          generalize hg4 : lq2.length = Lq at *
          clear hgx hgt hg1 hg2 hg3 hg4 HQQ HBZ HINV HNX' HNB
          obtain ⟨q0, HQ0⟩ : ∃ q0, Hid (wz = wz.drewN q0) := ⟨0, rfl⟩
          go_wp2_with fail
          rw [HQ0.out]
          refine (HLP.out _).mono ?_
          rintro e wx ⟨rfl, hwx⟩
          subst wx
          go_wp2_with fail
          refine (HLQ.out _).mono ?_
          rintro e wx ⟨rfl, hwx⟩
          subst wx
          go_wp2_with fail
          refine (HLP.out _).mono ?_
          rintro e wx ⟨rfl, hwx⟩
          subst wx
          go_wp2_with fail
          refine (HRP.out _).mono ?_
          rintro e wx ⟨rfl, q1, hwx⟩
          rw [World.drewN_drewN] at hwx
          subst wx
          go_wp2_with fail
          refine (HLQ.out _).mono ?_
          rintro e wx ⟨rfl, hwx⟩
          subst wx
          go_wp2_with fail
          refine (HRQ.out _).mono ?_
          rintro e wx ⟨rfl, q2, hwx⟩
          rw [World.drewN_drewN] at hwx
          subst wx
          go_wp2_with fail
          refine (HLP.out _).mono ?_
          rintro e wx ⟨rfl, hwx⟩
          subst wx
          go_wp2_with fail
          refine (HLQ.out _).mono ?_
          rintro e wx ⟨rfl, hwx⟩
          subst wx
          go_wp2
          exact ⟨HFIN.out _, by simp [intOf]; omega⟩
        | cons x t =>
          have HQQ : Hid (Qq w.heap.size T (grew T' wp wz) wz bp R1 bq R2 lp t) := HQQ0.out
          obtain ⟨hx, hinv⟩ := HI.out.take
          have HINV : Hid (Inv lp t nx (tk + 1)) := hinv
          have HNB : Hid (nx ≤ i + 1 + 1) := by show _ ≤ _; omega
          subst hx
          have hwn : IntKind.i64.wrap ((tk : Int) + 1) = ((tk + 1 : Nat) : Int) := by
            have := hinv.2
            rw [IntKind.wrap_i64]; omega
          clear HQQ0 HI hinv
          simp only [List.headD_cons, List.isEmpty_cons, Bool.not_false]
          have hP := HQQ.out.p.len
          have hQ := HQQ.out.q.len
          have HLP : Hid (∀ q, Calls Try.prog 27 #[.pointer (some ⟨bp, 0, none⟩)] (wz.drewN q) fun e w' => e = .returned (.int .i64 (lp.length : Int)) ∧ w' = wz.drewN q) := fun q => len_any (HQQ.out.drew q).p
          have HLQ : Hid (∀ q, Calls Try.prog 27 #[.pointer (some ⟨bq, 0, none⟩)] (wz.drewN q) fun e w' => e = .returned (.int .i64 (t.length : Int)) ∧ w' = wz.drewN q) := fun q => len_any (HQQ.out.drew q).q
          have HRP : Hid (∀ q, Calls Try.prog 24 #[.pointer (some ⟨bp, 0, none⟩)] (wz.drewN q) fun e w' => e = .returned (.int .i64 ((R1 - lp.length : Nat) : Int)) ∧ ∃ n, w' = (wz.drewN q).drewN n) := fun q => room_any (HQQ.out.drew q).p
          have HRQ : Hid (∀ q, Calls Try.prog 24 #[.pointer (some ⟨bq, 0, none⟩)] (wz.drewN q) fun e w' => e = .returned (.int .i64 ((R2 - t.length : Nat) : Int)) ∧ ∃ n, w' = (wz.drewN q).drewN n) := fun q => room_any (HQQ.out.drew q).q
          have hw1 : IntKind.i64.wrap ((lp.length : Int) + ((R1 - lp.length : Nat) : Int)) = (R1 : Int) := by rw [IntKind.wrap_i64]; omega
          have hw2 : IntKind.i64.wrap ((t.length : Int) + ((R2 - t.length : Nat) : Int)) = (R2 : Int) := by rw [IntKind.wrap_i64]; omega
          have HNX := HINV.out.2
          obtain ⟨D, hw3, hw4⟩ : ∃ D : Nat, IntKind.i64.wrap ((lp.length : Int) + (t.length : Int)) = (D : Int) ∧ IntKind.i64.wrap (((nx : Nat) : Int) - ((tk + 1 : Nat) : Int)) = (D : Int) := ⟨lp.length + t.length, by rw [IntKind.wrap_i64]; omega, by rw [IntKind.wrap_i64]; omega⟩
          have HNX' : Hid _ := HNX
          clear HNX
          have HFIN : Hid (∀ q, (∃ (i' nx' tk' : Nat) (T1 T1' : Nat → Prop) (lp' lq' : List Int), Value.int .i64 ((nx : Nat) : Int) = .int .i64 (nx' : Int) ∧ Value.int .i64 ((tk + 1 : Nat) : Int) = .int .i64 (tk' : Int) ∧ Value.int .i64 ((i + 1 : Nat) : Int) = .int .i64 (i' : Int) ∧ i' ≤ l.length ∧ nx' ≤ i' + 1 ∧ Qq w.heap.size T1 T1' (wz.drewN q) bp R1 bq R2 lp' lq' ∧ Inv lp' lq' nx' tk' ∧ Below w.heap.size w (wz.drewN q))) := fun q => ⟨i + 1, _, _, _, _, _, _, rfl, rfl, rfl, by omega, HNB.out, HQQ.out.drew q, HINV.out, HBZ.out.trans ((Out.drew (X := fun _ => False) wz q).below HBZ.out.size (fun _ h => h.elim))⟩
          generalize hgx : ((nx : Nat) : Int) = nxv at *
          generalize hgt : ((tk + 1 : Nat) : Int) = tkv at *
          generalize hg1 : R1 - lp.length = rp at *
          generalize hg2 : R2 - t.length = rq at *
          generalize hg3 : lp.length = Lp at *
          generalize hg4 : t.length = Lq at *
          clear hgx hgt hg1 hg2 hg3 hg4 HQQ HBZ HINV HNX' HNB
          obtain ⟨q0, HQ0⟩ : ∃ q0, Hid (wz = wz.drewN q0) := ⟨0, rfl⟩
          go_wp2_with fail
          rw [HQ0.out]
          refine (HLP.out _).mono ?_
          rintro e wx ⟨rfl, hwx⟩
          subst wx
          go_wp2_with fail
          refine (HLQ.out _).mono ?_
          rintro e wx ⟨rfl, hwx⟩
          subst wx
          go_wp2_with fail
          refine (HLP.out _).mono ?_
          rintro e wx ⟨rfl, hwx⟩
          subst wx
          go_wp2_with fail
          refine (HRP.out _).mono ?_
          rintro e wx ⟨rfl, q1, hwx⟩
          rw [World.drewN_drewN] at hwx
          subst wx
          go_wp2_with fail
          refine (HLQ.out _).mono ?_
          rintro e wx ⟨rfl, hwx⟩
          subst wx
          go_wp2_with fail
          refine (HRQ.out _).mono ?_
          rintro e wx ⟨rfl, q2, hwx⟩
          rw [World.drewN_drewN] at hwx
          subst wx
          go_wp2_with fail
          refine (HLP.out _).mono ?_
          rintro e wx ⟨rfl, hwx⟩
          subst wx
          go_wp2_with fail
          refine (HLQ.out _).mono ?_
          rintro e wx ⟨rfl, hwx⟩
          subst wx
          go_wp2
          exact ⟨HFIN.out _, by simp [intOf]; omega⟩
      · have hkd2 : (kd0 == 1) = false := by simpa using hkd'
        clear hkd hkd'
        have hP0 := HQ.out.p.len
        have hQ0 := HQ.out.q.len
        go_wp2_with fail
        refine (len_any HQ.out.p).mono ?_
        rintro e wx ⟨rfl, hwx⟩
        subst wx
        go_wp2_with fail
        refine (len_any HQ.out.q).mono ?_
        rintro e wx ⟨rfl, hwx⟩
        subst wx
        go_wp2_with fail
        refine (move_any HQ.out HB.out.size n0).mono ?_
        rintro e wz ⟨rfl, S1, S1', hq4, hB4⟩
        have HBZ : Hid (Below w.heap.size w wz) := HB.out.trans hB4
        obtain ⟨M, HM⟩ : ∃ M, Hid (mvN R2 lp lq n0 = M) := ⟨_, rfl⟩
        rw [HM.out] at hq4 ⊢
        have hML : M ≤ lp.length := by rw [← HM.out]; unfold mvN; omega
        have hMn : ((M : Nat) : Int) ≤ max n0 0 := by rw [← HM.out]; unfold mvN; omega
        have HQQ : Hid (Qq w.heap.size S1 S1' wz bp R1 bq R2 (lp.drop M) (lq ++ lp.take M)) := hq4
        have HINV : Hid (Inv (lp.drop M) (lq ++ lp.take M) nx tk) := HI.out.move M
        have HNB : Hid (nx ≤ i + 1 + 1) := by show _ ≤ _; omega
        obtain ⟨⟨u0, u1, -⟩, -⟩ := HO.out.below hb0 HBZ.out
        simp only at u0 u1
        have hmx : decide (max n0 0 < (M : Int)) = false := by simp; omega
        have hsum : ((lp.drop M).length : Int) + ((lq ++ lp.take M).length : Int) = (lp.length : Int) + (lq.length : Int) := by simp; omega
        have hv2 : ((((lp.drop M).length : Int) + ((lq ++ lp.take M).length : Int)) != ((lp.length : Int) + (lq.length : Int))) = false := by rw [hsum]; simp
        have hv3 : IntKind.i64.wrap (((lp.drop M).length : Int) + ((lq ++ lp.take M).length : Int)) = ((lp.drop M).length : Int) + ((lq ++ lp.take M).length : Int) := by rw [IntKind.wrap_i64, hsum]; omega
        clear hsum
        have HLP0 : Hid (Calls Try.prog 27 #[.pointer (some ⟨bp, 0, none⟩)] wz fun e w' => e = .returned (.int .i64 ((lp.drop M).length : Int)) ∧ w' = wz) := len_any hq4.p
        have HLQ0 : Hid (Calls Try.prog 27 #[.pointer (some ⟨bq, 0, none⟩)] wz fun e w' => e = .returned (.int .i64 ((lq ++ lp.take M).length : Int)) ∧ w' = wz) := len_any hq4.q
        clear hq4 hB4 HQ HB e0 e1 HI HM
        generalize lp.length = Lp0 at *
        generalize lq.length = Lq0 at *
        generalize lp.drop M = lp2 at *
        generalize lq ++ lp.take M = lq2 at *
        clear hML hP0 hQ0
        go_wp2_with fail
        refine HLP0.out.mono ?_
        rintro e wx ⟨rfl, hwx⟩
        subst wx
        go_wp2_with fail
        refine HLQ0.out.mono ?_
        rintro e wx ⟨rfl, hwx⟩
        subst wx
        clear HLP0 HLQ0
        go_wp2_with fail
        clear hv2 hv3 hmx hMn u0 u1
        have hP := HQQ.out.p.len
        have hQ := HQQ.out.q.len
        have HLP : Hid (∀ q, Calls Try.prog 27 #[.pointer (some ⟨bp, 0, none⟩)] (wz.drewN q) fun e w' => e = .returned (.int .i64 (lp2.length : Int)) ∧ w' = wz.drewN q) := fun q => len_any (HQQ.out.drew q).p
        have HLQ : Hid (∀ q, Calls Try.prog 27 #[.pointer (some ⟨bq, 0, none⟩)] (wz.drewN q) fun e w' => e = .returned (.int .i64 (lq2.length : Int)) ∧ w' = wz.drewN q) := fun q => len_any (HQQ.out.drew q).q
        have HRP : Hid (∀ q, Calls Try.prog 24 #[.pointer (some ⟨bp, 0, none⟩)] (wz.drewN q) fun e w' => e = .returned (.int .i64 ((R1 - lp2.length : Nat) : Int)) ∧ ∃ n, w' = (wz.drewN q).drewN n) := fun q => room_any (HQQ.out.drew q).p
        have HRQ : Hid (∀ q, Calls Try.prog 24 #[.pointer (some ⟨bq, 0, none⟩)] (wz.drewN q) fun e w' => e = .returned (.int .i64 ((R2 - lq2.length : Nat) : Int)) ∧ ∃ n, w' = (wz.drewN q).drewN n) := fun q => room_any (HQQ.out.drew q).q
        have hw1 : IntKind.i64.wrap ((lp2.length : Int) + ((R1 - lp2.length : Nat) : Int)) = (R1 : Int) := by rw [IntKind.wrap_i64]; omega
        have hw2 : IntKind.i64.wrap ((lq2.length : Int) + ((R2 - lq2.length : Nat) : Int)) = (R2 : Int) := by rw [IntKind.wrap_i64]; omega
        have HNX := HINV.out.2
        obtain ⟨D, hw3, hw4⟩ : ∃ D : Nat, IntKind.i64.wrap ((lp2.length : Int) + (lq2.length : Int)) = (D : Int) ∧ IntKind.i64.wrap (((nx : Nat) : Int) - ((tk : Nat) : Int)) = (D : Int) := ⟨lp2.length + lq2.length, by rw [IntKind.wrap_i64]; omega, by rw [IntKind.wrap_i64]; omega⟩
        have HNX' : Hid _ := HNX
        clear HNX
        have HFIN : Hid (∀ q, (∃ (i' nx' tk' : Nat) (T1 T1' : Nat → Prop) (lp' lq' : List Int), Value.int .i64 ((nx : Nat) : Int) = .int .i64 (nx' : Int) ∧ Value.int .i64 ((tk : Nat) : Int) = .int .i64 (tk' : Int) ∧ Value.int .i64 ((i + 1 : Nat) : Int) = .int .i64 (i' : Int) ∧ i' ≤ l.length ∧ nx' ≤ i' + 1 ∧ Qq w.heap.size T1 T1' (wz.drewN q) bp R1 bq R2 lp' lq' ∧ Inv lp' lq' nx' tk' ∧ Below w.heap.size w (wz.drewN q))) := fun q => ⟨i + 1, _, _, _, _, _, _, rfl, rfl, rfl, by omega, HNB.out, HQQ.out.drew q, HINV.out, HBZ.out.trans ((Out.drew (X := fun _ => False) wz q).below HBZ.out.size (fun _ h => h.elim))⟩
        generalize hgx : ((nx : Nat) : Int) = nxv at *
        generalize hgt : ((tk : Nat) : Int) = tkv at *
        generalize hg1 : R1 - lp2.length = rp at *
        generalize hg2 : R2 - lq2.length = rq at *
        generalize hg3 : lp2.length = Lp at *
        generalize hg4 : lq2.length = Lq at *
        clear hgx hgt hg1 hg2 hg3 hg4 HQQ HBZ HINV HNX' HNB
        obtain ⟨q0, HQ0⟩ : ∃ q0, Hid (wz = wz.drewN q0) := ⟨0, rfl⟩
        rw [HQ0.out]
        refine (HLP.out _).mono ?_
        rintro e wx ⟨rfl, hwx⟩
        subst wx
        go_wp2_with fail
        refine (HLQ.out _).mono ?_
        rintro e wx ⟨rfl, hwx⟩
        subst wx
        go_wp2_with fail
        refine (HLP.out _).mono ?_
        rintro e wx ⟨rfl, hwx⟩
        subst wx
        go_wp2_with fail
        refine (HRP.out _).mono ?_
        rintro e wx ⟨rfl, q1, hwx⟩
        rw [World.drewN_drewN] at hwx
        subst wx
        go_wp2_with fail
        refine (HLQ.out _).mono ?_
        rintro e wx ⟨rfl, hwx⟩
        subst wx
        go_wp2_with fail
        refine (HRQ.out _).mono ?_
        rintro e wx ⟨rfl, q2, hwx⟩
        rw [World.drewN_drewN] at hwx
        subst wx
        go_wp2_with fail
        refine (HLP.out _).mono ?_
        rintro e wx ⟨rfl, hwx⟩
        subst wx
        go_wp2_with fail
        refine (HLQ.out _).mono ?_
        rintro e wx ⟨rfl, hwx⟩
        subst wx
        go_wp2
        exact ⟨HFIN.out _, by simp [intOf]; omega⟩

end Go.Proofs.Ythaoobfldponpaa
