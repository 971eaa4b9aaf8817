/-
  What a batch's records do to a ledger; a calm disk; a wal that nothing failed; a wal that is compacted: plainly.
-/
import Derived.Test.YtnahghldlkjleaaGreatDoorXO
import Derived.Test.YtnahghldlkjleaaGreatDoorXK
import Derived.Test.YtnahghldlkjleaaGreatDoorJDa
import Derived.Test.YtnahghldlkjleaaGreatDoorWN
import Derived.Test.YtnahghldlkjleaaGreatDoorXS
import Derived.Test.YtnahghldlkjleaaGreatDoorCom
namespace Go.Proofs.YtnahghldlkjleaaGreatDoor
open Go.RowKit
set_option linter.unusedVariables false

/-- A ledger whose entries stand in segments that rise, up to one. -/
structure LP.Good (P : LP) (n : Nat) : Prop where
  ok : P.Ok
  srt : P.S.Pairwise (· ≤ ·)
  top : ∀ s ∈ P.S, s ≤ n
theorem LP.Good.up {P : LP} {n m : Nat} (h : P.Good n) (hm : n ≤ m) : P.Good m := ⟨h.ok, h.srt, fun s hs => Nat.le_trans (h.top s hs) hm⟩
theorem LP.Good.front {P : LP} {n : Nat} (h : P.Good n) (k : Nat) : (P.front k).Good n :=
  ⟨h.ok.front k, h.srt.sublist (List.take_sublist _ _), fun s hs => h.top s (List.mem_of_mem_take hs)⟩
theorem LP.Good.anew {P : LP} {n : Nat} (h : P.Good n) {i t : Int} (hi : Rng i) (ht : Rng t) : (P.anew i t).Good n :=
  ⟨h.ok.anew hi ht, by simp [LP.anew], by simp [LP.anew]⟩
theorem LP.Good.room {P : LP} {n : Nat} (h : P.Good n) {i : Int} (hf : P.fits i) (hi : i ≤ 4611686018427387904) : (P.room i).Good n := by
  refine ⟨(LP.room_ok h.ok hf hi).1, ?_, ?_⟩
  · unfold LP.room; split
    · exact (h.front _).srt
    · simp [LP.anew]
  · unfold LP.room; split
    · exact (h.front _).top
    · simp [LP.anew]
theorem take_good {P : LP} {n : Nat} (h : P.Good n) {r : Rd} (hf : r.Fit P) (hr : r.sg = n) (hl : P.E.length < 1000000000) : (P.take r).Good n ∧ (P.take r).E.length ≤ P.E.length + 1 := by
  have hk := hf.kd
  unfold LP.take
  by_cases h0 : r.k = 0
  · rw [if_pos h0]; exact ⟨h, by omega⟩
  rw [if_neg h0]
  by_cases h1 : r.k = 1
  · rw [if_pos h1]; exact ⟨⟨h.ok.state hf.st, h.srt, h.top⟩, by simp [LP.state]⟩
  rw [if_neg h1]
  by_cases h2 : r.k = 2
  · rw [if_pos h2]
    obtain ⟨f1, f2⟩ := hf.ent h2
    have hi := (eCk_ok f1).2.2.2.1
    obtain ⟨r1, r2, r3⟩ := LP.room_ok h.ok (i := eI r.e.says) f2 hi
    have hg := h.room (i := eI r.e.says) f2 hi
    refine ⟨⟨r1.snoc r2 f1 hf.sg (by omega), ?_, ?_⟩, by simp only [LP.enter, LP.snoc, List.length_append, List.length_cons, List.length_nil]; omega⟩
    · show ((P.room _).S ++ [r.sg]).Pairwise _
      rw [List.pairwise_append]
      refine ⟨hg.srt, by simp, fun a ha b hb => ?_⟩
      obtain rfl := List.mem_singleton.1 hb
      rw [hr]; exact hg.top a ha
    · intro s hs
      have hs' : s ∈ (P.room (eI r.e.says)).S ++ [r.sg] := hs
      rcases List.mem_append.1 hs' with hs' | hs'
      · exact hg.top s hs'
      · obtain rfl := List.mem_singleton.1 hs'; omega
  rw [if_neg h2]
  unfold LP.mark
  split
  · exact ⟨h, by omega⟩
  · exact ⟨h.anew hf.mrk.1 hf.mrk.2, by simp [LP.anew]⟩
theorem run_good : ∀ {rs : List Rd} {P : LP} {n : Nat}, P.Good n → FitAll P rs → (∀ r ∈ rs, r.sg = n) → (P.run rs).Good n ∧ (P.run rs).E.length ≤ P.E.length + rs.length
  | [], P, n, h, _, _ => ⟨h, by simp [LP.run]⟩
  | r :: q, P, n, h, hf, hr => by
    obtain ⟨g1, g2⟩ := take_good h hf.1 (hr r (List.mem_cons_self ..)) hf.2.1
    obtain ⟨i1, i2⟩ := run_good (rs := q) g1 hf.2.2 (fun x hx => hr x (List.mem_cons_of_mem _ hx))
    refine ⟨i1, ?_⟩
    show (LP.run (P.take r) q).E.length ≤ _
    rw [List.length_cons]; omega
theorem FitAll.append : ∀ {a b : List Rd} {P : LP}, FitAll P a → FitAll (P.run a) b → FitAll P (a ++ b)
  | [], b, P, _, h => h
  | r :: q, b, P, h1, h2 => ⟨h1.1, h1.2.1, FitAll.append (a := q) h1.2.2 h2⟩
theorem run_append (a b : List Rd) (P : LP) : P.run (a ++ b) = (P.run a).run b := by unfold LP.run; rw [List.foldl_append]
theorem ckState_ok {t v c : Int} (h : Cd.ckState t v c = 0) : Rng t ∧ Rng v ∧ Rng c := by
  unfold Cd.ckState Cd.isIn at h
  unfold Rng
  by_cases h1 : 0 ≤ t ∧ t ≤ 4611686018427387904
  · by_cases h2 : 0 ≤ c ∧ c ≤ 4611686018427387904
    · by_cases h3 : 0 ≤ v ∧ v ≤ 7
      · exact ⟨h1, ⟨h3.1, by omega⟩, h2⟩
      · exfalso
        have : (decide (0 ≤ v) && decide (v ≤ 7)) = false := by simp only [Bool.and_eq_false_iff, decide_eq_false_iff_not]; omega
        simp [h1, h2, this] at h
    · exfalso
      have : (decide (0 ≤ c) && decide (c ≤ 4611686018427387904)) = false := by simp only [Bool.and_eq_false_iff, decide_eq_false_iff_not]; omega
      simp [h1, this] at h
  · exfalso
    have : (decide (0 ≤ t) && decide (t ≤ 4611686018427387904)) = false := by simp only [Bool.and_eq_false_iff, decide_eq_false_iff_not]; omega
    simp [this] at h
theorem firstE_ok : ∀ {l : List En}, firstE l = 0 → ∀ e ∈ l, eCk e = 0
  | [], _, e, he => by simp at he
  | x :: q, h, e, he => by
    unfold firstE at h
    by_cases hx : eCk x = 0
    · rw [if_pos hx] at h
      rcases List.mem_cons.1 he with rfl | he
      · exact hx
      · exact firstE_ok h e he
    · rw [if_neg hx] at h; exact absurd h hx
theorem rng0 : Rng 0 := ⟨by decide, by decide⟩
theorem rng3 : Rng 0 ∧ Rng 0 ∧ Rng 0 := ⟨rng0, rng0, rng0⟩
/-- Entries that are no gaps fit, one behind the other. -/
theorem ents_fit : ∀ (es : List Ent) (P : LP) (n : Nat), P.Good n → n ≤ 99999999 → (∀ e ∈ es, eCk e.says = 0) → gapsL P.bi P.li (es.map Ent.says) = true → P.E.length + es.length < 1000000000 → FitAll P (es.map (rEn n))
  | [], _, _, _, _, _, _, _ => trivial
  | x :: q, P, n, h, hn, hc, hg, hl => by
    simp only [List.map_cons, gapsL, Bool.and_eq_true] at hg
    have hx := hc x (List.mem_cons_self ..)
    by_cases hf : P.fits (eI x.says)
    · rw [wth_fits hf] at hg
      have hF : (rEn n x).Fit P := ⟨by show 2 ≤ 3; omega, rng3, ⟨rng0, rng0⟩, (fun _ => ⟨hx, hf⟩), hn⟩
      simp only [List.length_cons] at hl
      obtain ⟨t1, t2⟩ := take_good h hF rfl (by omega)
      have hi := (eCk_ok hx).2.2.2.1
      obtain ⟨-, r2, -⟩ := LP.room_ok h.ok (i := eI x.says) hf hi
      have e1 : P.take (rEn n x) = P.enter x.says n := rfl
      refine ⟨hF, by omega, ents_fit q _ n t1 hn (fun e he => hc e (List.mem_cons_of_mem _ he)) ?_ (by omega)⟩
      have e2 : (P.take (rEn n x)).bi = (P.room (eI x.says)).bi := rfl
      have e3 : (P.take (rEn n x)).li = eI x.says := by
        rw [e1]
        have : (P.enter x.says n).li = (P.room (eI x.says)).li + 1 := by
          unfold LP.li LP.enter LP.snoc
          simp only [List.length_append, List.length_cons, List.length_nil]
          omega
        rw [this, r2]
      rw [e2, e3]
      exact hg.2
    · rw [wth_gap hf] at hg
      exact absurd hg.1 Bool.false_ne_true
theorem isMk_ok {i t : Int} (h : isMk i t = true) : Rng i ∧ Rng t := by
  unfold isMk at h
  unfold Rng
  simp at h
  omega
theorem has_of {P Q : LP} (h1 : P.bi = Q.bi) (h2 : P.bt = Q.bt) (h3 : P.E = Q.E) (i t : Int) : P.has i t = Q.has i t := by
  unfold LP.has LP.tm LP.li
  rw [h1, h2, h3]

theorem Bt.chk_parts {B : Bt} {P : LP} (h : B.chk P = 0) : (B.has = true → Rng B.t ∧ Rng B.v ∧ Rng B.c) ∧ isMk B.i B.tm = true ∧ (∀ e ∈ B.es, eCk e.says = 0) ∧ gapsL (if P.news B.i B.tm then B.i else P.bi) (if P.news B.i B.tm then B.i else P.li) (B.es.map Ent.says) = true := by
  unfold Bt.chk at h
  split at h
  · rename_i hc; exact absurd h hc.2
  · rename_i hc
    split at h
    · exact absurd h (by decide)
    · rename_i hm
      split at h
      · rename_i he; exact absurd h he
      · rename_i he
        by_cases hg : gapsL (if P.news B.i B.tm then B.i else P.bi) (if P.news B.i B.tm then B.i else P.li) (B.es.map Ent.says) = true
        · refine ⟨fun hb => ckState_ok (Classical.byContradiction fun h0 => hc ⟨hb, h0⟩), by simpa using hm, fun e hx => firstE_ok (Classical.byContradiction fun h0 => he h0) _ (List.mem_map.2 ⟨e, hx, rfl⟩), hg⟩
        · rw [if_neg hg] at h
          exact absurd h (by decide)

theorem chk_fit {B : Bt} {P : LP} {n : Nat} (hg : P.Good n) (hn : n ≤ 99999999) (h : B.chk P = 0) (hl : P.E.length + B.es.length + 3 < 1000000000) :
    FitAll P (B.recs P n B.es) ∧ (∀ r ∈ B.recs P n B.es, r.Num ∧ r.sg = n) := by
  obtain ⟨c1, c2, c3, c4⟩ := Bt.chk_parts h
  have z0 : Rng 0 := ⟨by decide, by decide⟩
  have zz : Rng 0 ∧ Rng 0 ∧ Rng 0 := ⟨z0, z0, z0⟩
  have hst := hg.ok.st
  obtain ⟨m1, m2⟩ := isMk_ok c2
  have hS : ∀ (t v c : Int) (Q : LP), Rng t ∧ Rng v ∧ Rng c → (rSt n t v c).Fit Q := fun t v c Q hr => ⟨by show 1 ≤ 3; omega, hr, ⟨z0, z0⟩, (fun hk => by cases hk), hn⟩
  have hM : ∀ (Q : LP), (rMk n B.i B.tm).Fit Q := fun Q => ⟨Nat.le_refl 3, zz, ⟨m1, m2⟩, (fun hk => by cases hk), hn⟩
  -- the early state
  have f1 : FitAll P (B.r1 P n) ∧ (P.run (B.r1 P n)).bi = P.bi ∧ (P.run (B.r1 P n)).bt = P.bt ∧ (P.run (B.r1 P n)).E = P.E ∧ (∀ r ∈ B.r1 P n, r.sg = n) ∧ ∀ r ∈ B.r1 P n, r.Num := by
    unfold Bt.r1
    by_cases hc : B.c1 P = true
    · rw [if_pos hc]
      have hb : B.has = true := by unfold Bt.c1 at hc; simp at hc; exact hc.1
      obtain ⟨q1, q2, q3⟩ := c1 hb
      refine ⟨⟨hS _ _ _ _ ⟨q1, q2, hst.2.2⟩, by omega, trivial⟩, rfl, rfl, rfl, fun r hr => ?_, fun r hr => ?_⟩
      · obtain rfl := List.mem_singleton.1 hr; rfl
      · obtain rfl := List.mem_singleton.1 hr
        exact ⟨by show 1 ≤ 3; omega, hn, ⟨q1, q2, hst.2.2⟩, ⟨z0, z0⟩, fun hk => by cases hk⟩
    · rw [if_neg hc]
      exact ⟨trivial, rfl, rfl, rfl, by simp, by simp⟩
  obtain ⟨f1, b1, t1, e1, s1, n1⟩ := f1
  obtain ⟨g1, l1⟩ := run_good hg f1 s1
  obtain ⟨P1, hP1⟩ : ∃ P1, P.run (B.r1 P n) = P1 := ⟨_, rfl⟩
  rw [hP1] at b1 t1 e1 g1
  have hnews : P1.news B.i B.tm = P.news B.i B.tm := by unfold LP.news; rw [has_of b1 t1 e1]
  -- the mark
  have f2 : FitAll P1 (B.r2 P n) ∧ (P1.run (B.r2 P n)).bi = (if P.news B.i B.tm then B.i else P.bi) ∧ (P1.run (B.r2 P n)).li = (if P.news B.i B.tm then B.i else P.li) ∧ (∀ r ∈ B.r2 P n, r.sg = n) ∧ (∀ r ∈ B.r2 P n, r.Num) ∧ (P1.run (B.r2 P n)).E.length ≤ P.E.length := by
    unfold Bt.r2
    by_cases hc : P.news B.i B.tm = true
    · rw [if_pos hc, if_pos hc, if_pos hc]
      have hh : P1.has B.i B.tm = false := by rw [← hnews] at hc; unfold LP.news at hc; simp at hc; exact hc.2
      have em : P1.run [rMk n B.i B.tm] = P1.anew B.i B.tm := by
        show P1.take (rMk n B.i B.tm) = _
        show P1.mark B.i B.tm = _
        unfold LP.mark
        rw [if_neg (by rw [hh]; decide)]
      rw [em]
      refine ⟨⟨hM _, by rw [e1]; omega, trivial⟩, rfl, by unfold LP.li LP.anew; simp, fun r hr => ?_, fun r hr => ?_, by simp [LP.anew]⟩
      · obtain rfl := List.mem_singleton.1 hr; rfl
      · obtain rfl := List.mem_singleton.1 hr
        exact ⟨Nat.le_refl 3, hn, zz, ⟨m1, m2⟩, fun hk => by cases hk⟩
    · rw [if_neg hc, if_neg hc, if_neg hc]
      exact ⟨trivial, b1, by show P1.bi + (P1.E.length : Int) = P.bi + (P.E.length : Int); rw [b1, e1], by simp, by simp, by show P1.E.length ≤ _; rw [e1]; omega⟩
  obtain ⟨f2, b2, i2, s2, n2, l2⟩ := f2
  obtain ⟨g2, -⟩ := run_good g1 f2 s2
  obtain ⟨P2, hP2⟩ : ∃ P2, P1.run (B.r2 P n) = P2 := ⟨_, rfl⟩
  rw [hP2] at b2 i2 g2 l2
  -- the entries
  have f3 : FitAll P2 (B.es.map (rEn n)) := ents_fit B.es P2 n g2 hn c3 (by rw [b2, i2]; exact c4) (by omega)
  have s3 : ∀ r ∈ B.es.map (rEn n), r.sg = n := fun r hr => by
    obtain ⟨e, -, rfl⟩ := List.mem_map.1 hr; rfl
  have n3 : ∀ r ∈ B.es.map (rEn n), r.Num := fun r hr => by
    obtain ⟨e, he, rfl⟩ := List.mem_map.1 hr
    exact ⟨by show 2 ≤ 3; omega, hn, zz, ⟨z0, z0⟩, fun _ => c3 e he⟩
  obtain ⟨g3, l3⟩ := run_good g2 f3 s3
  rw [List.length_map] at l3
  -- the last state
  have f4 : ∀ Q : LP, Q.E.length < 1000000000 → FitAll Q (B.r4 P n) ∧ (∀ r ∈ B.r4 P n, r.sg = n) ∧ ∀ r ∈ B.r4 P n, r.Num := fun Q hQ => by
    unfold Bt.r4
    by_cases hc : B.c2 P = true
    · rw [if_pos hc]
      have hb : B.has = true := by unfold Bt.c2 at hc; simp at hc; exact hc.1
      refine ⟨⟨hS _ _ _ _ (c1 hb), hQ, trivial⟩, fun r hr => ?_, fun r hr => ?_⟩
      · obtain rfl := List.mem_singleton.1 hr; rfl
      · obtain rfl := List.mem_singleton.1 hr
        exact ⟨by show 1 ≤ 3; omega, hn, c1 hb, ⟨z0, z0⟩, fun hk => by cases hk⟩
    · rw [if_neg hc]; exact ⟨trivial, by simp, by simp⟩
  obtain ⟨f4, s4, n4⟩ := f4 (P2.run (B.es.map (rEn n))) (by omega)
  unfold Bt.recs
  refine ⟨?_, fun r hr => ?_⟩
  · refine FitAll.append (FitAll.append (FitAll.append f1 (by rw [hP1]; exact f2)) ?_) ?_
    · rw [run_append, hP1, hP2]; exact f3
    · rw [run_append, run_append, hP1, hP2]; exact f4
  · rw [List.mem_append, List.mem_append, List.mem_append] at hr
    rcases hr with ((hr | hr) | hr) | hr
    · exact ⟨n1 r hr, s1 r hr⟩
    · exact ⟨n2 r hr, s2 r hr⟩
    · exact ⟨n3 r hr, s3 r hr⟩
    · exact ⟨n4 r hr, s4 r hr⟩

/-- A record's bytes, beside its data. -/
theorem Rd.tx_small {r : Rd} : r.tx.length + 8 ≤ 80 + r.e.d.length := by
  have b0 := Cd.numB_len r.sg
  have b1 := Cd.numB_len r.t.toNat
  have b2 := Cd.numB_len r.v.toNat
  have b3 := Cd.numB_len r.c.toNat
  have b4 := Cd.numB_len r.i.toNat
  have b5 := Cd.numB_len r.tm.toNat
  have k0 := Cd.numB_len 0
  have k1 := Cd.numB_len 1
  have k2 := Cd.numB_len 2
  have k3 := Cd.numB_len 3
  have e0 := Cd.numB_len (txE r.e.says).length
  have c1 := Cd.numB_len (eT r.e.says).toNat
  have c2 := Cd.numB_len (eI r.e.says).toNat
  have c3 := Cd.numB_len (eK r.e.says).toNat
  have c4 := Cd.numB_len (eD r.e.says).length
  have hE : (txE r.e.says).length ≤ 40 + r.e.d.length := by
    unfold txE Cd.txEntry
    have : (eD r.e.says).length = r.e.d.length := rfl
    simp only [List.length_append]
    omega
  unfold Rd.tx
  split
  · simp only [List.length_append]; omega
  split
  · simp only [List.length_append]; omega
  split
  · simp only [List.length_append]; omega
  · simp only [List.length_append]; omega
/-- What entries weigh. -/
def wtE (es : List Ent) : Nat := (es.map fun e => e.d.length + 1).sum
theorem txsB_app (a b : List Rd) : txsB (a ++ b) = txsB a ++ txsB b := by
  unfold txsB; rw [List.map_append]; unfold Fr.joinB; rw [List.map_append, List.flatten_append]
theorem txsB_cons (r : Rd) (q : List Rd) : (txsB (r :: q)).length = r.tx.length + 8 + (txsB q).length := by
  unfold txsB Fr.joinB
  simp only [List.map_cons, List.flatten_cons, List.length_append, Fr.frameB_len]; omega
theorem txsB_one (r : Rd) (h : r.e.d = []) : (txsB [r]).length ≤ 80 := by
  have h1 := @Rd.tx_small r
  rw [h] at h1
  rw [txsB_cons]
  simp only [txsB, Fr.joinB, List.map_nil, List.flatten_nil, List.length_nil] at *
  omega
theorem txsB_ents (n : Nat) : ∀ es : List Ent, (txsB (es.map (rEn n))).length ≤ 80 * wtE es
  | [] => by simp [txsB, Fr.joinB]
  | e :: q => by
    have h1 := @Rd.tx_small (rEn n e)
    have h2 := txsB_ents n q
    have h3 : wtE (e :: q) = e.d.length + 1 + wtE q := by simp [wtE]
    have h4 : (rEn n e).e.d.length = e.d.length := rfl
    rw [h4] at h1
    rw [List.map_cons, txsB_cons, h3]
    omega
theorem recs_len (B : Bt) (P : LP) (n : Nat) : (txsB (B.recs P n B.es)).length ≤ 240 + 80 * wtE B.es ∧ (B.recs P n B.es).length ≤ B.es.length + 3 := by
  have h3 := txsB_ents n B.es
  have a1 : (txsB (B.r1 P n)).length ≤ 80 ∧ (B.r1 P n).length ≤ 1 := by
    unfold Bt.r1; split
    · exact ⟨txsB_one _ rfl, by simp⟩
    · simp [txsB, Fr.joinB]
  have a2 : (txsB (B.r2 P n)).length ≤ 80 ∧ (B.r2 P n).length ≤ 1 := by
    unfold Bt.r2; split
    · exact ⟨txsB_one _ rfl, by simp⟩
    · simp [txsB, Fr.joinB]
  have a4 : (txsB (B.r4 P n)).length ≤ 80 ∧ (B.r4 P n).length ≤ 1 := by
    unfold Bt.r4; split
    · exact ⟨txsB_one _ rfl, by simp⟩
    · simp [txsB, Fr.joinB]
  unfold Bt.recs
  rw [txsB_app, txsB_app, txsB_app]
  simp only [List.length_append, List.length_map]
  omega
theorem wtE_len (es : List Ent) : es.length ≤ wtE es := by
  induction es with
  | nil => simp
  | cons e q ih =>
    have h3 : wtE (e :: q) = e.d.length + 1 + wtE q := by simp [wtE]
    rw [h3, List.length_cons]; omega
end Go.Proofs.YtnahghldlkjleaaGreatDoor
namespace Go.Proofs.YtnahghldlkjleaaGreatDoor
open Go.RowKit
set_option linter.unusedVariables false

theorem lookP_nm {nm : List UInt8} {fs : List PF} {f : PF} (h : lookP nm fs = some f) : f ∈ fs ∧ f.nm = nm := by
  unfold lookP at h
  exact ⟨List.mem_of_find?_eq_some h, by simpa using List.find?_some h⟩
theorem lookP_none {nm : List UInt8} {fs : List PF} (h : lookP nm fs = none) {f : PF} (hf : f ∈ fs) : f.nm ≠ nm := by
  unfold lookP at h
  have := List.find?_eq_none.1 h f hf
  simpa using this
theorem lookP_map {nm : List UInt8} {fs : List PF} {g : PF → PF} (hg : ∀ f, (g f).nm = f.nm) : lookP nm (fs.map g) = (lookP nm fs).map g := by
  unfold lookP
  rw [List.find?_map]
  congr 1
  congr 1
  funext f
  simp [hg]
theorem mem_del {x : List UInt8} {fs : List PF} {g : PF} (h : g ∈ delP x fs) : g.nm ≠ x := by
  have := (List.mem_filter.1 h).2
  simpa using this
theorem lookP_del {nm x : List UInt8} {fs : List PF} : lookP nm (delP x fs) = if nm = x then none else lookP nm fs := by
  unfold lookP delP
  induction fs with
  | nil => simp
  | cons f r ih =>
    by_cases hx : f.nm = x
    · rw [List.filter_cons_of_neg (by simp [hx])]
      rw [ih]
      by_cases hn : nm = x
      · rw [if_pos hn, if_pos hn]
      · rw [if_neg hn, if_neg hn, List.find?_cons_of_neg (by simp [hx]; exact fun e => hn e.symm)]
    · rw [List.filter_cons_of_pos (by simp [hx])]
      by_cases hf : f.nm = nm
      · rw [List.find?_cons_of_pos (by simp [hf]), List.find?_cons_of_pos (by simp [hf]), if_neg (fun e => hx (hf.trans e))]
      · rw [List.find?_cons_of_neg (by simp [hf]), List.find?_cons_of_neg (by simp [hf]), ih]
theorem lookP_ins {nm : List UInt8} {f : PF} {fs : List PF} (h : ∀ g ∈ fs, g.nm ≠ f.nm) : lookP nm (insP f fs) = if f.nm = nm then some f else lookP nm fs := by
  unfold lookP
  induction fs with
  | nil =>
    unfold insP
    by_cases hf : f.nm = nm
    · rw [if_pos hf, List.find?_cons_of_pos (by simp [hf])]
    · rw [if_neg hf, List.find?_cons_of_neg (by simp [hf])]
  | cons y q ih =>
    have ih' := ih (fun g hg => h g (List.mem_cons_of_mem _ hg))
    have hy := h y (List.mem_cons_self ..)
    unfold insP
    split
    · by_cases hf : f.nm = nm
      · rw [if_pos hf, List.find?_cons_of_pos (by simp [hf])]
      · rw [if_neg hf, List.find?_cons_of_neg (by simp [hf])]
    · by_cases hyn : y.nm = nm
      · rw [List.find?_cons_of_pos (by simp [hyn]), List.find?_cons_of_pos (by simp [hyn]), if_neg (fun e => hy (hyn.trans e.symm))]
      · rw [List.find?_cons_of_neg (by simp [hyn]), List.find?_cons_of_neg (by simp [hyn]), ih']
theorem ins_len (f : PF) : ∀ l, (insP f l).length = l.length + 1
  | [] => rfl
  | y :: q => by
    unfold insP
    split
    · rfl
    · rw [List.length_cons, ins_len f q]; rfl
theorem mem_ins {f g : PF} : ∀ {l}, g ∈ insP f l → g = f ∨ g ∈ l
  | [], h => by simpa [insP] using h
  | y :: q, h => by
    unfold insP at h
    split at h
    · simpa using h
    · rcases List.mem_cons.1 h with e | e
      · exact .inr (by rw [e]; exact List.mem_cons_self ..)
      · rcases mem_ins e with e | e
        · exact .inl e
        · exact .inr (List.mem_cons_of_mem _ e)
theorem ins_sum (f : PF) : ∀ l, sumP (insP f l) = f.dat.length + sumP l
  | [] => by simp [insP, sumP]
  | y :: q => by
    unfold insP
    split
    · simp [sumP]
    · have := ins_sum f q
      simp only [sumP, List.map_cons, List.sum_cons] at *
      omega
theorem isNm_nm (n : Nat) : isNm (nmL n) = true := by
  unfold isNm
  rw [nmL_len]
  have h : (nmL n).all (fun x => ofNm x.toNat) = true := by
    unfold nmL
    rw [List.all_append]
    have h1 := low_dg 8 n
    rw [Bool.and_eq_true]
    refine ⟨by decide, ?_⟩
    rw [List.all_eq_true] at h1 ⊢
    intro c hc
    have := h1 c hc
    unfold isDg at this
    unfold ofNm
    simp at this ⊢
    omega
  rw [h]; rfl
/-- What a file holds. -/
def datP (p : PD) (nm : List UInt8) : Option (List UInt8) := (lookP nm p.fs).map PF.dat
/-- A calm disk whose names are apart. -/
structure Calm (p : PD) : Prop where
  arm : p.arm = 0
  dn : p.dn = false
  nd : (p.fs.map PF.nm).Nodup
theorem fail_eq {p : PD} (h : p.arm = 0) : p.fail = p := by unfold PD.fail; rw [if_pos h]
theorem Calm.fell {p : PD} (h : Calm p) : p.fell = false := by unfold PD.fell; rw [h.arm]; rfl
theorem dat_some {p : PD} {nm : List UInt8} : (datP p nm).isSome = (lookP nm p.fs).isSome := by unfold datP; simp
theorem dat_map {p : PD} {q : PD} {g : PF → PF} (hq : q.fs = p.fs.map g) (hn : ∀ f, (g f).nm = f.nm) (hd : ∀ f, (g f).dat = f.dat) (x : List UInt8) : datP q x = datP p x := by
  unfold datP
  rw [hq, lookP_map hn, Option.map_map]
  congr 1
  funext f
  exact hd f
theorem syncP_nm (nm : List UInt8) (f : PF) : (syncP nm f).nm = f.nm ∧ (syncP nm f).dat = f.dat := by unfold syncP; split <;> exact ⟨rfl, rfl⟩
theorem appP_nm (nm b : List UInt8) (f : PF) : (appP nm b f).nm = f.nm := by unfold appP; split <;> rfl
theorem map_nm {fs : List PF} {g : PF → PF} (hn : ∀ f, (g f).nm = f.nm) : (fs.map g).map PF.nm = fs.map PF.nm := by
  rw [List.map_map]; exact List.map_congr_left fun f _ => hn f

structure Did (p q : PD) (x : Nat) (n : Nat) (F : List UInt8 → Option (List UInt8)) : Prop where
  ok : x = 0
  calm : Calm q
  dat : ∀ y, datP q y = F y
  len : q.fs.length = n
theorem sync_did {p : PD} (h : Calm p) {nm : List UInt8} (hs : (datP p nm).isSome = true) : Did p (doSync p nm).2 (doSync p nm).1 p.fs.length (datP p) ∧ sumP (doSync p nm).2.fs = sumP p.fs := by
  have e : doSync p nm = (0, { p with fs := p.fs.map (syncP nm) }) := by
    unfold doSync
    rw [dat_some] at hs
    rw [if_neg (by rw [h.dn]; decide), if_neg (by rw [hs]; decide), if_neg (by rw [h.fell]; decide), fail_eq h.arm]
  rw [e]
  refine ⟨⟨rfl, ⟨h.arm, h.dn, ?_⟩, fun y => dat_map rfl (fun f => (syncP_nm nm f).1) (fun f => (syncP_nm nm f).2) y, by simp⟩, ?_⟩
  · show ((p.fs.map (syncP nm)).map PF.nm).Nodup
    rw [map_nm (fun f => (syncP_nm nm f).1)]; exact h.nd
  · show sumP (p.fs.map (syncP nm)) = _
    unfold sumP
    rw [List.map_map]
    congr 1
    exact List.map_congr_left fun f _ => by show (syncP nm f).dat.length = _; rw [(syncP_nm nm f).2]
theorem nd_ins {f : PF} : ∀ {l : List PF}, (l.map PF.nm).Nodup → (∀ g ∈ l, g.nm ≠ f.nm) → ((insP f l).map PF.nm).Nodup
  | [], _, _ => by simp [insP]
  | y :: q, h, hf => by
    have h1 : y.nm ∉ q.map PF.nm ∧ (q.map PF.nm).Nodup := by simpa using h
    unfold insP
    split
    · rw [List.map_cons, List.nodup_cons]
      refine ⟨?_, h⟩
      rintro hm
      obtain ⟨g, hg, e⟩ := List.mem_map.1 hm
      exact hf g hg e
    · rw [List.map_cons, List.nodup_cons]
      refine ⟨?_, nd_ins h1.2 (fun g hg => hf g (List.mem_cons_of_mem _ hg))⟩
      rintro hm
      obtain ⟨g, hg, e⟩ := List.mem_map.1 hm
      rcases mem_ins hg with rfl | hg
      · exact hf y (List.mem_cons_self ..) e.symm
      · exact h1.1 (List.mem_map.2 ⟨g, hg, e⟩)
theorem dat_none {p : PD} {nm : List UInt8} (h : datP p nm = none) : lookP nm p.fs = none := by
  unfold datP at h; simpa using h
theorem del_none {nm : List UInt8} {fs : List PF} (h : lookP nm fs = none) : delP nm fs = fs := by
  unfold delP
  rw [List.filter_eq_self]
  intro f hf
  have := lookP_none h hf
  simpa using this
theorem create_did {p : PD} (h : Calm p) {nm : List UInt8} (hn : isNm nm = true) (h0 : datP p nm = none) (hf : p.fs.length < 256) :
    Did p (doCreate p nm).2 (doCreate p nm).1 (p.fs.length + 1) (fun y => if y = nm then some [] else datP p y) ∧ sumP (doCreate p nm).2.fs = sumP p.fs := by
  have hl := dat_none h0
  have e : doCreate p nm = (0, { p with fs := insP ⟨nm, [], 0, false⟩ p.fs }) := by
    unfold doCreate
    rw [if_neg (by rw [h.dn]; decide), if_neg (by rw [hn]; decide), if_neg (by rw [hl]; decide), if_neg (by omega), if_neg (by rw [h.fell]; decide), fail_eq h.arm, del_none hl]
  have hne : ∀ g ∈ p.fs, g.nm ≠ nm := fun g hg => lookP_none hl hg
  rw [e]
  refine ⟨⟨rfl, ⟨h.arm, h.dn, nd_ins h.nd hne⟩, fun y => ?_, ins_len _ _⟩, ?_⟩
  · unfold datP
    simp only
    rw [lookP_ins hne]
    by_cases hy : y = nm
    · rw [if_pos hy, if_pos hy.symm]; rfl
    · rw [if_neg hy, if_neg (fun e => hy e.symm)]
  · show sumP (insP _ _) = _
    rw [ins_sum]; simp
theorem app_sum (nm b : List UInt8) : ∀ (l : List PF), (l.map PF.nm).Nodup → sumP (l.map (appP nm b)) ≤ sumP l + b.length ∧ (nm ∉ l.map PF.nm → sumP (l.map (appP nm b)) = sumP l)
  | [], _ => by simp [sumP]
  | f :: q, h => by
    have h1 : f.nm ∉ q.map PF.nm ∧ (q.map PF.nm).Nodup := by simpa using h
    obtain ⟨i1, i2⟩ := app_sum nm b q h1.2
    have e1 : sumP ((f :: q).map (appP nm b)) = (appP nm b f).dat.length + sumP (q.map (appP nm b)) := by simp [sumP]
    have e2 : sumP (f :: q) = f.dat.length + sumP q := by simp [sumP]
    rw [e1, e2]
    by_cases hf : f.nm = nm
    · have e3 : (appP nm b f).dat.length = f.dat.length + b.length := by unfold appP; rw [if_pos (by simpa using hf)]; simp
      rw [hf] at h1
      rw [e3, i2 h1.1]
      exact ⟨by omega, fun hn => absurd (by simp [hf]) hn⟩
    · have e3 : (appP nm b f).dat.length = f.dat.length := by unfold appP; rw [if_neg (by simpa using hf)]
      rw [e3]
      refine ⟨by omega, fun hn => ?_⟩
      rw [i2 (fun hm => hn (List.mem_cons_of_mem _ hm))]
theorem append_did {p : PD} (h : Calm p) {nm b : List UInt8} (hs : (datP p nm).isSome = true) (hl : b.length + sumP p.fs ≤ 16777216) :
    Did p (doAppend p nm b).2 (doAppend p nm b).1 p.fs.length (fun y => if y = nm then (datP p nm).map (· ++ b) else datP p y) ∧ sumP (doAppend p nm b).2.fs ≤ sumP p.fs + b.length := by
  have e : doAppend p nm b = (0, { p with fs := p.fs.map (appP nm b) }) := by
    unfold doAppend
    rw [dat_some] at hs
    rw [if_neg (by rw [h.dn]; decide), if_neg (by rw [hs]; decide), if_neg (by omega), if_neg (by rw [h.fell]; decide), fail_eq h.arm]
  rw [e]
  refine ⟨⟨rfl, ⟨h.arm, h.dn, ?_⟩, fun y => ?_, by simp⟩, (app_sum nm b p.fs h.nd).1⟩
  · show ((p.fs.map (appP nm b)).map PF.nm).Nodup
    rw [map_nm (appP_nm nm b)]; exact h.nd
  · unfold datP
    simp only
    rw [lookP_map (appP_nm nm b)]
    by_cases hy : y = nm
    · rw [if_pos hy, hy, Option.map_map, Option.map_map]
      cases hq : lookP nm p.fs with
      | none => rfl
      | some f =>
        have hf := (lookP_nm hq).2
        show some (appP nm b f).dat = some (f.dat ++ b)
        unfold appP
        rw [if_pos (by simpa using hf)]
    · rw [if_neg hy, Option.map_map]
      cases hq : lookP y p.fs with
      | none => rfl
      | some f =>
        have hf := (lookP_nm hq).2
        show some (appP nm b f).dat = some f.dat
        unfold appP
        rw [if_neg (by rw [hf]; simpa using hy)]
theorem del_lt {x : List UInt8} {fs : List PF} (hn : (fs.map PF.nm).Nodup) (h : (lookP x fs).isSome = true) : (delP x fs).length + 1 = fs.length := by
  induction fs with
  | nil => simp [lookP] at h
  | cons f q ih =>
    have h1 : f.nm ∉ q.map PF.nm ∧ (q.map PF.nm).Nodup := by simpa using hn
    by_cases hf : f.nm = x
    · have e : delP x (f :: q) = q := by
        unfold delP
        rw [List.filter_cons_of_neg (by simp [hf]), List.filter_eq_self]
        intro g hg
        have : g.nm ≠ x := fun e => h1.1 (by rw [hf, ← e]; exact List.mem_map.2 ⟨g, hg, rfl⟩)
        simpa using this
      rw [e]; rfl
    · have e : delP x (f :: q) = f :: delP x q := by
        unfold delP
        rw [List.filter_cons_of_pos (by simp [hf])]
      have h2 : lookP x (f :: q) = lookP x q := by unfold lookP; rw [List.find?_cons_of_neg (by simp [hf])]
      rw [h2] at h
      rw [e, List.length_cons, ih h1.2 h]; rfl
theorem del_sum (x : List UInt8) : ∀ (l : List PF), sumP (delP x l) ≤ sumP l
  | [] => by simp [delP, sumP]
  | f :: q => by
    have := del_sum x q
    unfold delP at this ⊢
    by_cases hf : f.nm = x
    · rw [List.filter_cons_of_neg (by simp [hf])]
      simp only [sumP, List.map_cons, List.sum_cons] at *; omega
    · rw [List.filter_cons_of_pos (by simp [hf])]
      simp only [sumP, List.map_cons, List.sum_cons] at *; omega
theorem remove_did {p : PD} (h : Calm p) {nm : List UInt8} (hs : (datP p nm).isSome = true) :
    Did p (doRemove p nm).2 (doRemove p nm).1 (p.fs.length - 1) (fun y => if y = nm then none else datP p y) ∧ sumP (doRemove p nm).2.fs ≤ sumP p.fs := by
  rw [dat_some] at hs
  have e : doRemove p nm = (0, { p with fs := delP nm p.fs }) := by
    unfold doRemove
    rw [if_neg (by rw [h.dn]; decide), if_neg (by rw [hs]; decide), if_neg (by rw [h.fell]; decide), fail_eq h.arm]
  rw [e]
  refine ⟨⟨rfl, ⟨h.arm, h.dn, ?_⟩, fun y => ?_, ?_⟩, del_sum _ _⟩
  · exact List.Nodup.sublist (List.Sublist.map _ List.filter_sublist) h.nd
  · unfold datP
    simp only
    rw [lookP_del]
    split
    · rfl
    · rfl
  · have := del_lt h.nd hs
    show (delP nm p.fs).length = _
    omega
theorem nm_inj {a b : Nat} (ha : a ≤ 99999999) (hb : b ≤ 99999999) (h : nmL a = nmL b) : a = b := by
  rw [← num_nm ha, ← num_nm hb, h]
end Go.Proofs.YtnahghldlkjleaaGreatDoor
namespace Go.Proofs.YtnahghldlkjleaaGreatDoor
open Go.RowKit
set_option linter.unusedVariables false

/-- The records of a segment lie in its file. -/
def Holds (p : PD) (s : Sg) (rs : List Rd) : Prop := datP p (nmL s.n) = some (txsB rs) ∧ (txsB rs).length = s.b ∧ rs ≠ [] ∧ ∀ r ∈ rs, r.Num
structure WI (X : WS) (H : List (List Rd)) (T o : Nat) (F : List UInt8 → Option (List UInt8)) : Prop where
  br : X.br = false
  calm : Calm X.p
  ne : X.sg ≠ []
  hl : H.length = X.sg.length
  nums : ∃ a, 1 ≤ a ∧ X.sg.map Sg.n = List.range' a X.sg.length
  top : X.last.n ≤ 99999999
  dat : ∀ i (hi : i < X.sg.length) (hi' : i < H.length), Holds X.p X.sg[i] H[i]
  oth : ∀ n, 1 ≤ n → n ≤ 99999999 → n ∉ X.sg.map Sg.n → datP X.p (nmL n) = none
  far : ∀ y, numL y = 0 → datP X.p y = F y
  cnt : X.p.fs.length ≤ X.sg.length + o
  sum : sumP X.p.fs ≤ T
  sb : ∀ s ∈ X.sg, s.b ≤ T
  good : X.J.Good X.last.n

theorem WI.last_eq {X : WS} {H T o F} (h : WI X H T o F) : ∃ a, 1 ≤ a ∧ X.sg.map Sg.n = List.range' a X.sg.length ∧ X.last.n + 1 = a + X.sg.length := by
  obtain ⟨a, ha, hm⟩ := h.nums
  refine ⟨a, ha, hm, ?_⟩
  have hp := List.length_pos_iff.2 h.ne
  obtain ⟨n, hn⟩ : ∃ n, X.sg.length = n + 1 := ⟨X.sg.length - 1, by omega⟩
  have e : X.last = X.sg[n]'(by omega) := last_at hn
  have e2 : (X.sg.map Sg.n)[n]? = some (X.sg[n]'(by omega)).n := by rw [List.getElem?_map, List.getElem?_eq_getElem (by omega)]; rfl
  rw [hm, List.getElem?_range' (by omega)] at e2
  rw [e]
  have := Option.some.inj e2
  omega
theorem WI.num_at {X : WS} {H T o F} (h : WI X H T o F) {i : Nat} (hi : i < X.sg.length) : (X.sg[i]).n + X.sg.length = X.last.n + 1 + i ∧ 1 ≤ (X.sg[i]).n := by
  obtain ⟨a, ha, hm, hl⟩ := h.last_eq
  have e2 : (X.sg.map Sg.n)[i]? = some (X.sg[i]).n := by rw [List.getElem?_map, List.getElem?_eq_getElem hi]; rfl
  rw [hm, List.getElem?_range' (by omega)] at e2
  have := Option.some.inj e2
  omega
theorem WI.num_mem {X : WS} {H T o F} (h : WI X H T o F) {s : Sg} (hs : s ∈ X.sg) : s.n ≤ X.last.n ∧ 1 ≤ s.n := by
  obtain ⟨i, hi, rfl⟩ := List.getElem_of_mem hs
  have := h.num_at hi
  omega
theorem WI.last_mem {X : WS} {H T o F} (h : WI X H T o F) : X.last ∈ X.sg := by
  rw [WS.sg_eq h.ne]; simp
theorem WI.dat_last {X : WS} {H T o F} (h : WI X H T o F) : (datP X.p (nmL X.last.n)).isSome = true := by
  obtain ⟨i, hi, e⟩ := List.getElem_of_mem h.last_mem
  have := (h.dat i hi (by rw [h.hl]; exact hi)).1
  rw [e] at this
  rw [this]; rfl
theorem Holds.of {p q : PD} {s : Sg} {rs : List Rd} (h : Holds p s rs) (hd : datP q (nmL s.n) = datP p (nmL s.n)) : Holds q s rs := ⟨hd.trans h.1, h.2⟩
theorem head_numB {J : LP} {n : Nat} (h : J.Ok) (hn : n ≤ 99999999) : (J.head n).Num :=
  ⟨Nat.zero_le 3, hn, h.st, ⟨h.lim, by
    show Rng J.lt
    unfold LP.lt LP.tm
    split
    · exact h.t0
    · rename_i hne
      have hlen : J.li = J.bi + (J.E.length : Int) := rfl
      have hp : 0 < J.E.length := by
        rcases Nat.eq_zero_or_pos J.E.length with h0 | h0
        · exact absurd (by rw [hlen, h0]; omega) hne
        · exact h0
      rw [show (J.li - J.bi - 1).toNat = J.E.length - 1 by omega]
      exact h.tms (by omega)⟩, fun hk => by cases hk⟩

def WS.hroll (X : WS) (H : List (List Rd)) : List (List Rd) := if X.full ≤ X.last.b then H ++ [[X.J.head (X.last.n + 1)]] else H
def addH (H : List (List Rd)) (rs : List Rd) : List (List Rd) := if rs = [] then H else H.dropLast ++ [H.getLastD [] ++ rs]
def WS.hput (X : WS) (H : List (List Rd)) (B : Bt) : List (List Rd) := addH (X.hroll H) (X.rolled.recs B)

/-- The disk behind a segment that is begun. -/
theorem begun_disk {p : PD} (h : Calm p) {l m : Nat} {J : LP} (hl : (datP p (nmL l)).isSome = true) (hm : datP p (nmL m) = none) (hc : p.fs.length < 256) (hT : sumP p.fs + 80 ≤ 16777216) :
    ∃ p1 p2 p3 p4, doSync p (nmL l) = (0, p1) ∧ doCreate p1 (nmL m) = (0, p2) ∧ doAppend p2 (nmL m) (txsB [J.head m]) = (0, p3) ∧ doSync p3 (nmL m) = (0, p4) ∧ Calm p4 ∧ (∀ y, datP p4 y = if y = nmL m then some (txsB [J.head m]) else datP p y) ∧ p4.fs.length = p.fs.length + 1 ∧ sumP p4.fs ≤ sumP p.fs + 80 := by
  have hh := txsB_one (J.head m) rfl
  obtain ⟨⟨a1, a2, a3, a4⟩, a5⟩ := sync_did h hl
  obtain ⟨p1, hp1⟩ : ∃ p1, (doSync p (nmL l)).2 = p1 := ⟨_, rfl⟩
  rw [hp1] at a2 a3 a4 a5
  obtain ⟨⟨b1, b2, b3, b4⟩, b5⟩ := create_did a2 (isNm_nm m) (by rw [a3]; exact hm) (by rw [a4]; exact hc)
  obtain ⟨p2, hp2⟩ : ∃ p2, (doCreate p1 (nmL m)).2 = p2 := ⟨_, rfl⟩
  rw [hp2] at b2 b3 b4 b5
  have hm2 : datP p2 (nmL m) = some [] := by rw [b3]; simp
  obtain ⟨⟨c1, c2, c3, c4⟩, c5⟩ := append_did b2 (nm := nmL m) (b := txsB [J.head m]) (by rw [hm2]; rfl) (by rw [b5, a5]; omega)
  obtain ⟨p3, hp3⟩ : ∃ p3, (doAppend p2 (nmL m) (txsB [J.head m])).2 = p3 := ⟨_, rfl⟩
  rw [hp3] at c2 c3 c4 c5
  have hm3 : datP p3 (nmL m) = some (txsB [J.head m]) := by rw [c3, if_pos rfl, hm2]; rfl
  obtain ⟨⟨d1, d2, d3, d4⟩, d5⟩ := sync_did c2 (nm := nmL m) (by rw [hm3]; rfl)
  obtain ⟨p4, hp4⟩ : ∃ p4, (doSync p3 (nmL m)).2 = p4 := ⟨_, rfl⟩
  rw [hp4] at d2 d3 d4 d5
  refine ⟨p1, p2, p3, p4, Prod.ext a1 hp1, Prod.ext b1 hp2, Prod.ext c1 hp3, Prod.ext d1 hp4, d2, fun y => ?_, by rw [d4, c4, b4, a4], by rw [d5]; omega⟩
  rw [d3, c3]
  by_cases hy : y = nmL m
  · rw [if_pos hy, if_pos hy, hm2]; rfl
  · rw [if_neg hy, if_neg hy, b3, a3]
    simp [hy]

theorem roll_wi {X : WS} {H T o F} (h : WI X H T o F) (ht : X.last.n + 1 ≤ 99999999) (hc : X.sg.length + o < 256) (hT : T + 80 ≤ 16777216) :
    X.RollOk ∧ WI X.rolled (X.hroll H) (T + 80) o F ∧ X.rolled.sg.length ≤ X.sg.length + 1 ∧ X.rolled.last.n ≤ X.last.n + 1 ∧ X.rolled.J = X.J ∧ X.rolled.full = X.full := by
  by_cases hr : X.full ≤ X.last.b
  · obtain ⟨a, ha, hm, hl⟩ := h.last_eq
    have hnone : datP X.p (nmL (X.last.n + 1)) = none := h.oth _ (by omega) ht (by
      rw [hm, List.mem_range'_1]; omega)
    obtain ⟨p1, p2, p3, p4, e1, e2, e3, e4, c4, d4, l4, s4⟩ := begun_disk (J := X.J) h.calm h.dat_last hnone (by have := h.cnt; omega) (by have := h.sum; omega)
    have hh := txsB_one (X.J.head (X.last.n + 1)) rfl
    have eR : X.rolled = { p := p4, full := X.full, sg := X.sg ++ [⟨X.last.n + 1, (txsB [X.J.head (X.last.n + 1)]).length⟩], J := X.J, br := X.br } := by
      unfold WS.rolled
      rw [if_pos hr, e1]
      dsimp only
      rw [e2]
      dsimp only
      rw [e3]
      dsimp only
      rw [e4]
      simp [WS.begun, WS.headed, WS.grow, WS.last]
    have eH : X.hroll H = H ++ [[X.J.head (X.last.n + 1)]] := by unfold WS.hroll; rw [if_pos hr]
    have eL : X.rolled.last = ⟨X.last.n + 1, (txsB [X.J.head (X.last.n + 1)]).length⟩ := by rw [eR]; simp [WS.last]
    refine ⟨fun _ => ?_, ?_, by rw [eR]; simp, by rw [eL]; exact Nat.le_refl _, by rw [eR], by rw [eR]⟩
    · rw [e1]
      dsimp only
      rw [e2]
      dsimp only
      rw [e3]
      dsimp only
      rw [e4]
      exact ⟨rfl, rfl, rfl, rfl, ht⟩
    · have hnn : ∀ i (hi : i < X.sg.length), nmL (X.sg[i]).n ≠ nmL (X.last.n + 1) := fun i hi e => by
        have h1 := h.num_at hi
        have := nm_inj (by omega) ht e
        omega
      rw [eH]
      refine ⟨by rw [eR]; exact h.br, by rw [eR]; exact c4, by rw [eR]; simp, by rw [eR]; simp [h.hl], ⟨a, ha, ?_⟩, by rw [eL]; exact ht, ?_, ?_, ?_, ?_, ?_, ?_, ?_⟩
      · rw [eR]
        dsimp only
        rw [List.map_append, hm, List.length_append, List.length_singleton, List.range'_1_concat, List.map_cons, List.map_nil]
        congr 2
      · rw [eR]
        dsimp only
        intro i hi hi'
        by_cases hlt : i < X.sg.length
        · rw [List.getElem_append_left hlt, List.getElem_append_left (by rw [h.hl]; exact hlt)]
          exact (h.dat i hlt _).of (by rw [d4, if_neg (hnn i hlt)])
        · have hie : i = X.sg.length := by simp at hi; omega
          subst hie
          rw [List.getElem_concat_length rfl, List.getElem_append_right (by rw [h.hl]; exact Nat.le_refl _)]
          simp only [h.hl, Nat.sub_self, List.getElem_cons_zero]
          refine ⟨by rw [d4, if_pos rfl], rfl, by simp, fun r hr => ?_⟩
          obtain rfl := List.mem_singleton.1 hr
          exact head_numB h.good.ok ht
      · rw [eR]
        dsimp only
        intro n n1 n2 hn
        rw [List.map_append, List.mem_append] at hn
        rw [d4, if_neg (fun e => hn (.inr (by simp [nm_inj n2 ht e])))]
        exact h.oth n n1 n2 (fun e => hn (.inl e))
      · rw [eR]
        intro y hy
        show datP p4 y = _
        rw [d4, if_neg (fun e => by rw [e, num_nm ht] at hy; omega)]
        exact h.far y hy
      · rw [eR]
        show p4.fs.length ≤ (X.sg ++ [_]).length + o
        have := h.cnt
        simp; omega
      · rw [eR]
        show sumP p4.fs ≤ _
        have := h.sum
        omega
      · rw [eR]
        intro s hs
        rcases List.mem_append.1 hs with hs | hs
        · have := h.sb s hs; omega
        · obtain rfl := List.mem_singleton.1 hs
          show (txsB _).length ≤ _
          omega
      · rw [eL]
        have : X.rolled.J = X.J := by rw [eR]
        rw [this]
        exact h.good.up (Nat.le_succ _)
  · have eR : X.rolled = X := by unfold WS.rolled; rw [if_neg hr]
    have eH : X.hroll H = H := by unfold WS.hroll; rw [if_neg hr]
    rw [eR, eH]
    refine ⟨fun h9 => absurd h9 hr, ⟨h.br, h.calm, h.ne, h.hl, h.nums, h.top, h.dat, h.oth, h.far, h.cnt, Nat.le_trans h.sum (Nat.le_add_right _ _), fun s hs => Nat.le_trans (h.sb s hs) (Nat.le_add_right _ _), h.good⟩, Nat.le_succ _, Nat.le_succ _, rfl, rfl⟩

theorem wrote_wi {X : WS} {H T o F} (h : WI X H T o F) {rs : List Rd} (hn : ∀ r ∈ rs, r.Num ∧ r.sg = X.last.n) (hf : FitAll X.J rs) {t : Nat} (ht : (txsB rs).length ≤ t) (hT : T + t ≤ 16777216) :
    (rs ≠ [] → (doAppend X.p (nmL X.last.n) (txsB rs)).1 = 0) ∧ WI (X.wrote rs) (addH H rs) (T + t) o F ∧ (X.wrote rs).sg.length = X.sg.length ∧ (X.wrote rs).last.n = X.last.n ∧ (X.wrote rs).J = X.J.run rs ∧ (X.wrote rs).full = X.full := by
  by_cases hr : rs = []
  · have eW : X.wrote rs = X := by unfold WS.wrote; rw [if_pos hr]
    have eH : addH H rs = H := by unfold addH; rw [if_pos hr]
    rw [eW, eH]
    refine ⟨fun h9 => absurd hr h9, ⟨h.br, h.calm, h.ne, h.hl, h.nums, h.top, h.dat, h.oth, h.far, h.cnt, Nat.le_trans h.sum (Nat.le_add_right _ _), fun s hs => Nat.le_trans (h.sb s hs) (Nat.le_add_right _ _), h.good⟩, rfl, rfl, by rw [hr]; rfl, rfl⟩
  · obtain ⟨⟨a1, a2, a3, a4⟩, a5⟩ := append_did h.calm (b := txsB rs) h.dat_last (by have := h.sum; omega)
    obtain ⟨p', hp'⟩ : ∃ p', (doAppend X.p (nmL X.last.n) (txsB rs)).2 = p' := ⟨_, rfl⟩
    rw [hp'] at a2 a3 a4 a5
    obtain ⟨ys, s, hys⟩ : ∃ ys s, X.sg = ys ++ [s] := ⟨_, _, WS.sg_eq h.ne⟩
    have hls : X.last = s := by unfold WS.last; rw [hys]; simp
    have hHl := h.hl
    rw [hys] at hHl
    have hHne : H ≠ [] := by intro e; rw [e] at hHl; simp at hHl
    obtain ⟨Hs, h0, hH⟩ : ∃ Hs h0, H = Hs ++ [h0] := ⟨H.dropLast, H.getLast hHne, (List.dropLast_concat_getLast hHne).symm⟩
    have hHsl : Hs.length = ys.length := by rw [hH] at hHl; simpa using hHl
    have eW : X.wrote rs = { p := p', full := X.full, sg := ys ++ [⟨s.n, s.b + (txsB rs).length⟩], J := X.J.run rs, br := X.br } := by
      unfold WS.wrote
      rw [if_neg hr, hp']
      simp [WS.grow, WS.last, hys]
    have eH : addH H rs = Hs ++ [h0 ++ rs] := by unfold addH; rw [if_neg hr, hH]; simp
    have eL : (X.wrote rs).last = ⟨s.n, s.b + (txsB rs).length⟩ := by rw [eW]; simp [WS.last]
    have hmap : (X.wrote rs).sg.map Sg.n = X.sg.map Sg.n := by rw [eW, hys]; simp
    have hlen : (X.wrote rs).sg.length = X.sg.length := by rw [eW, hys]; simp
    have hlast : X.last.n = s.n := by rw [hls]
    have hsd := h.dat ys.length (by rw [hys]; simp) (by rw [hHl]; simp)
    have hse : X.sg[ys.length]'(by rw [hys]; simp) = s := by simp [hys]
    have hhe : H[ys.length]'(by rw [hHl]; simp) = h0 := by simp [hH, ← hHsl]
    rw [hse, hhe] at hsd
    obtain ⟨q1, q2, q3, q4⟩ := hsd
    have htop := h.top
    rw [hlast] at htop
    refine ⟨fun _ => a1, ?_, hlen, by rw [eL, hls], by rw [eW], by rw [eW]⟩
    rw [eH]
    refine ⟨by rw [eW]; exact h.br, by rw [eW]; exact a2, by rw [eW]; simp, by rw [hlen, hys]; simp [hHsl], ?_, by rw [eL]; exact htop, ?_, ?_, ?_, ?_, ?_, ?_, ?_⟩
    · obtain ⟨a, ha, hm⟩ := h.nums
      exact ⟨a, ha, by rw [hmap, hlen]; exact hm⟩
    · rw [eW]
      dsimp only
      intro i hi hi'
      by_cases hlt : i < ys.length
      · have hi2 : i < X.sg.length := by rw [hys]; simp; omega
        have hi3 : i < H.length := by rw [h.hl]; exact hi2
        have hd := h.dat i hi2 hi3
        have e1 : X.sg[i] = ys[i] := by simp [hys, hlt]
        have e2 : H[i] = Hs[i]'(by omega) := by simp [hH, List.getElem_append_left (show i < Hs.length by omega)]
        rw [List.getElem_append_left hlt, List.getElem_append_left (by omega)]
        have hnum := h.num_at hi2
        rw [e1] at hnum
        rw [e1, e2] at hd
        refine hd.of ?_
        rw [a3, if_neg (fun e => ?_)]
        have := nm_inj (by rw [hys] at hnum; simp at hnum; omega) (by omega) e
        rw [hys] at hnum
        simp at hnum
        omega
      · have hie : i = ys.length := by simp at hi; omega
        subst hie
        rw [List.getElem_concat_length rfl, List.getElem_append_right (by omega)]
        simp only [hHsl, Nat.sub_self, List.getElem_cons_zero]
        refine ⟨?_, by rw [txsB_app, List.length_append, q2], by simp [q3], fun r hr => ?_⟩
        · show datP p' (nmL s.n) = _
          rw [a3, hlast, if_pos rfl, q1, txsB_app]; rfl
        · rcases List.mem_append.1 hr with hr | hr
          · exact q4 r hr
          · exact (hn r hr).1
    · intro n n1 n2 hnn
      rw [hmap] at hnn
      rw [eW]
      show datP p' (nmL n) = _
      rw [a3, if_neg (fun e => hnn ?_)]
      · exact h.oth n n1 n2 hnn
      · rw [nm_inj n2 (by omega) e]
        exact List.mem_map.2 ⟨_, h.last_mem, rfl⟩
    · intro y hy
      rw [eW]
      show datP p' y = _
      rw [a3, if_neg (fun e => ?_)]
      · exact h.far y hy
      · have h1 := h.num_mem h.last_mem
        rw [e, num_nm (by omega)] at hy
        omega
    · rw [hlen, eW]
      show p'.fs.length ≤ _
      rw [a4]; exact h.cnt
    · rw [eW]
      show sumP p'.fs ≤ _
      have := h.sum
      omega
    · rw [eW]
      intro x hx
      rcases List.mem_append.1 hx with hx | hx
      · have := h.sb x (by rw [hys]; simp [hx]); omega
      · obtain rfl := List.mem_singleton.1 hx
        have := h.sb s (by rw [hys]; simp)
        show s.b + _ ≤ _
        omega
    · rw [eL]
      have e9 : (X.wrote rs).J = X.J.run rs := by rw [eW]
      rw [e9]
      have := (run_good h.good hf (fun r hr => (hn r hr).2)).1
      rw [hlast] at this
      exact this

theorem put_wi {X : WS} {H T o F} (h : WI X H T o F) {B : Bt} (hck : B.chk X.J = 0) (ht : X.last.n + 1 ≤ 99999999) (hc : X.sg.length + o < 256) (hT : T + (320 + 80 * wtE B.es) ≤ 16777216) (hlen : B.es.length ≤ 200) (hcp : B.es.length ≤ B.cp ∧ B.cp ≤ maxLen) (hE : X.J.E.length ≤ 100000000) :
    PutOk X B ∧ WI (X.put B) (X.hput H B) (T + (320 + 80 * wtE B.es)) o F ∧ (X.put B).sg.length ≤ X.sg.length + 1 ∧ (X.put B).last.n ≤ X.last.n + 1 ∧ (X.put B).J = X.J.run (X.rolled.recs B) ∧ (X.put B).full = X.full ∧ (X.put B).J.E.length ≤ X.J.E.length + B.es.length + 3 := by
  obtain ⟨r1, r2, r3, r4, r5, r6⟩ := roll_wi h ht hc (by omega)
  have hg : X.rolled.J.Good X.rolled.last.n := r2.good
  have hck2 : B.chk X.rolled.J = 0 := by rw [r5]; exact hck
  obtain ⟨f1, f2⟩ := chk_fit (n := X.rolled.last.n) hg (by omega) hck2 (by rw [r5]; omega)
  obtain ⟨l1, l2⟩ := recs_len B X.rolled.J X.rolled.last.n
  obtain ⟨w1, w2, w3, w4, w5, w6⟩ := wrote_wi r2 (rs := X.rolled.recs B) f2 f1 (t := 240 + 80 * wtE B.es) l1 (by omega)
  obtain ⟨c1, c2, c3, c4⟩ := Bt.chk_parts hck
  refine ⟨⟨h.ne, by omega, h.top, by have := h.sb _ h.last_mem; omega, hcp, fun e he => (eCk_ok (c3 e he)).2.2.2.2, by omega, r1, f1, fun r hr => (f2 r hr).1, w1⟩, ?_, by show (X.rolled.wrote _).sg.length ≤ _; rw [w3]; exact r3, by show (X.rolled.wrote _).last.n ≤ _; rw [w4]; exact r4, by show (X.rolled.wrote _).J = _; rw [w5, r5], by show (X.rolled.wrote _).full = _; rw [w6, r6], ?_⟩
  · show WI (X.rolled.wrote _) _ _ _ _
    rw [show T + (320 + 80 * wtE B.es) = T + 80 + (240 + 80 * wtE B.es) by omega]
    exact w2
  · show (X.rolled.wrote _).J.E.length ≤ _
    rw [w5]
    have h9 := (run_good hg f1 (fun r hr => (f2 r hr).2)).2
    have e9 : (X.rolled.recs B).length ≤ B.es.length + 3 := l2
    have e8 : (X.rolled.J.run (X.rolled.recs B)).E.length ≤ X.rolled.J.E.length + (X.rolled.recs B).length := h9
    rw [r5] at e8 ⊢
    omega
theorem WI.mark {X : WS} {H T o F} (h : WI X H T o F) : { X with br := false } = X := by
  have := h.br
  cases X; simp_all
end Go.Proofs.YtnahghldlkjleaaGreatDoor
namespace Go.Proofs.YtnahghldlkjleaaGreatDoor
open Go.RowKit
set_option linter.unusedVariables false

theorem freeL_ix (J : LP) (ix : Int) : ∀ (l : List Sg) (i g : Nat), (g = 0 ∨ eI (J.E.getD (g - 1) nilEn) ≤ ix) → ((freeL J ix l i g).2 = 0 ∨ eI (J.E.getD ((freeL J ix l i g).2 - 1) nilEn) ≤ ix)
  | [], i, g, h => h
  | s :: q, i, g, h => by
    unfold freeL
    split
    · exact h
    · rename_i hc
      refine freeL_ix J ix q (i + 1) (J.upTo s.n) ?_
      by_cases h0 : J.upTo s.n = 0
      · exact .inl h0
      · right
        have : ¬ ix < eI (J.E.getD (J.upTo s.n - 1) nilEn) := fun hx => hc ⟨by omega, hx⟩
        omega
theorem LP.Good.forget {P : LP} {n : Nat} (h : P.Good n) {g : Nat} (hg : g ≤ P.E.length) : (P.forget g).Good n := by
  obtain ⟨-, -, h3, -⟩ := LP.forget_bi h.ok hg
  exact ⟨h.ok.forget hg, by rw [h3]; exact h.srt.sublist (List.drop_sublist _ _), fun s hs => by rw [h3] at hs; exact h.top s (List.mem_of_mem_drop hs)⟩
theorem WI.num_ne {X : WS} {H T o F} (h : WI X H T o F) {i j : Nat} (hi : i < X.sg.length) (hj : j < X.sg.length) (hij : i ≠ j) : nmL (X.sg[i]).n ≠ nmL (X.sg[j]).n := fun e => by
  have h1 := h.num_at hi
  have h2 := h.num_at hj
  have := h.top
  have := nm_inj (by omega) (by omega) e
  omega
theorem mem_take {α : Type} {l : List α} {j : Nat} {x : α} : x ∈ l.take j ↔ ∃ i, ∃ (hi : i < l.length), i < j ∧ l[i] = x := by
  constructor
  · intro hx
    obtain ⟨i, hi, e⟩ := List.getElem_of_mem hx
    rw [List.length_take] at hi
    rw [List.getElem_take] at e
    exact ⟨i, by omega, by omega, e⟩
  · rintro ⟨i, hi, hj, rfl⟩
    have : i < (l.take j).length := by rw [List.length_take]; omega
    rw [← List.getElem_take (h := this)]
    exact List.getElem_mem this

theorem rem_did {X : WS} {H T o F} (h : WI X H T o F) {p : PD} (hp : Calm p) (hd : ∀ y, datP p y = datP X.p y) : ∀ j, j ≤ X.sg.length → Calm (remL p (X.sg.take j)) ∧ (∀ y, (∃ i, ∃ (hi : i < X.sg.length), i < j ∧ y = nmL (X.sg[i]).n) → datP (remL p (X.sg.take j)) y = none) ∧ (∀ y, (∀ i (hi : i < X.sg.length), i < j → y ≠ nmL (X.sg[i]).n) → datP (remL p (X.sg.take j)) y = datP p y) ∧
    (remL p (X.sg.take j)).fs.length = p.fs.length - j ∧ sumP (remL p (X.sg.take j)).fs ≤ sumP p.fs ∧ ∀ i (hi : i < X.sg.length), i < j → (doRemove (remL p (X.sg.take i)) (nmL (X.sg[i]).n)).1 = 0 := by
  intro j
  induction j with
  | zero => intro _; exact ⟨hp, fun y ⟨i, hi, h0, _⟩ => by omega, fun y _ => rfl, rfl, Nat.le_refl _, fun i hi h0 => by omega⟩
  | succ j ih =>
    intro hj
    obtain ⟨i1, i2, i3, i4, i5, i6⟩ := ih (by omega)
    have hjl : j < X.sg.length := by omega
    have hsome : (datP (remL p (X.sg.take j)) (nmL (X.sg[j]).n)).isSome = true := by
      rw [i3 _ (fun i hi hij => h.num_ne hjl hi (by omega)), hd]
      have := (h.dat j hjl (by rw [h.hl]; exact hjl)).1
      rw [this]; rfl
    obtain ⟨⟨a1, a2, a3, a4⟩, a5⟩ := remove_did i1 hsome
    rw [remL_snoc p hjl]
    refine ⟨a2, ?_, ?_, by rw [a4, i4]; omega, by omega, ?_⟩
    · rintro y ⟨i, hi, hij, rfl⟩
      rw [a3]
      by_cases he : i = j
      · subst he; rw [if_pos rfl]
      · split
        · rfl
        · exact i2 _ ⟨i, hi, by omega, rfl⟩
    · intro y hy
      rw [a3, if_neg (hy j hjl (by omega))]
      exact i3 y (fun i hi hij => hy i hi (by omega))
    · intro i hi hij
      by_cases he : i = j
      · subst he; exact a1
      · exact i6 i hi (by omega)

theorem compact_wi {X : WS} {H T o F} (h : WI X H T o F) {r g : Nat} (hr : r < X.sg.length) (hg : g ≤ X.J.E.length) :
    ∃ p1, doSync X.p (nmL X.last.n) = (0, p1) ∧ (∀ i (hi : i < X.sg.length), i < r → (doRemove (remL p1 (X.sg.take i)) (nmL (X.sg[i]).n)).1 = 0) ∧ WI (X.compact p1 r g) (H.drop r) T o F ∧ (X.compact p1 r g).last = X.last := by
  obtain ⟨⟨a1, a2, a3, a4⟩, a5⟩ := sync_did h.calm h.dat_last
  obtain ⟨p1, hp1⟩ : ∃ p1, (doSync X.p (nmL X.last.n)).2 = p1 := ⟨_, rfl⟩
  rw [hp1] at a2 a3 a4 a5
  obtain ⟨b1, b2, b3, b4, b5, b6⟩ := rem_did h a2 a3 r (by omega)
  have hlast : (X.compact p1 r g).last = X.last := by
    show (X.sg.drop r).getLastD sg0 = X.sg.getLastD sg0
    rw [List.getLastD_eq_getLast?, List.getLastD_eq_getLast?, List.getLast?_drop]
    rw [if_neg (by omega)]
  refine ⟨p1, Prod.ext a1 hp1, b6, ⟨h.br, b1, ?_, ?_, ?_, by rw [hlast]; exact h.top, ?_, ?_, ?_, ?_, ?_, ?_, by rw [hlast]; exact h.good.forget hg⟩, hlast⟩
  · show X.sg.drop r ≠ []
    intro e
    have := congrArg List.length e
    simp at this
    omega
  · show (H.drop r).length = (X.sg.drop r).length
    rw [List.length_drop, List.length_drop, h.hl]
  · obtain ⟨a, ha, hm⟩ := h.nums
    refine ⟨a + r, by omega, ?_⟩
    show (X.sg.drop r).map Sg.n = List.range' (a + r) (X.sg.drop r).length
    rw [List.map_drop, hm, List.length_drop]
    apply List.ext_getElem
    · simp
    · intro i h1 h2
      simp
  · show ∀ i (hi : i < (X.sg.drop r).length) (hi' : i < (H.drop r).length), Holds (remL p1 (X.sg.take r)) (X.sg.drop r)[i] (H.drop r)[i]
    intro i hi hi'
    rw [List.getElem_drop, List.getElem_drop]
    rw [List.length_drop] at hi hi'
    refine (h.dat (r + i) (by omega) (by omega)).of ?_
    rw [b3 _ (fun k hk hkr => h.num_ne (by omega) hk (by omega)), a3]
  · intro n n1 n2 hn
    show datP (remL p1 (X.sg.take r)) (nmL n) = none
    have hn' : n ∉ (X.sg.drop r).map Sg.n := hn
    by_cases hm : n ∈ X.sg.map Sg.n
    · obtain ⟨s, hs, e⟩ := List.mem_map.1 hm
      obtain ⟨i, hi, e2⟩ := List.getElem_of_mem hs
      by_cases hir : i < r
      · exact b2 _ ⟨i, hi, hir, by rw [e2, e]⟩
      · exfalso
        apply hn'
        refine List.mem_map.2 ⟨s, ?_, e⟩
        rw [← e2]
        have h9 : i - r < (X.sg.drop r).length := by rw [List.length_drop]; omega
        have h8 : (X.sg.drop r)[i - r] = X.sg[i] := by rw [List.getElem_drop]; congr 1; omega
        rw [← h8]
        exact List.getElem_mem h9
    · rw [b3, a3]
      · exact h.oth n n1 n2 hm
      · intro i hi hir e
        have := h.num_at hi
        have := h.top
        have := nm_inj n2 (by omega) e
        exact hm (List.mem_map.2 ⟨_, List.getElem_mem hi, this.symm⟩)
  · intro y hy
    show datP (remL p1 (X.sg.take r)) y = F y
    rw [b3, a3]
    · exact h.far y hy
    · intro i hi hir e
      have := h.num_at hi
      have := h.top
      rw [e, num_nm (by omega)] at hy
      omega
  · show (remL p1 (X.sg.take r)).fs.length ≤ (X.sg.drop r).length + o
    have := h.cnt
    rw [b4, a4, List.length_drop]; omega
  · show sumP (remL p1 (X.sg.take r)).fs ≤ T
    have := h.sum
    omega
  · intro s hs
    exact h.sb s (List.mem_of_mem_drop hs)
theorem WI.mono {X : WS} {H T o F} (h : WI X H T o F) {T' : Nat} (hT : T ≤ T') : WI X H T' o F :=
  ⟨h.br, h.calm, h.ne, h.hl, h.nums, h.top, h.dat, h.oth, h.far, h.cnt, Nat.le_trans h.sum hT, fun s hs => Nat.le_trans (h.sb s hs) hT, h.good⟩
end Go.Proofs.YtnahghldlkjleaaGreatDoor
