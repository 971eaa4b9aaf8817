/-
  The document's log: what is written into it; Commit, Apply, Sync, Hand, Next, Entries, Hint.
-/
import Derived.Test.YteekpfgjpdopmaaRg
import Derived.Test.YteekpfgjpdopmaaMv
import Derived.Test.YteekpfgjpdopmaaAo
import Derived.Test.YteekpfgjpdopmaaAd
import Derived.Test.YteekpfgjpdopmaaCo
import Derived.Test.YteekpfgjpdopmaaNx
import Derived.Test.YteekpfgjpdopmaaHn
import Derived.Test.YteekpfgjpdopmaaSt
import Derived.Test.YteekpfgjpdopmaaEn
import Derived.Test.YteekpfgjpdopmaaHi
namespace Go.Proofs.Yteekpfgjpdopmaa
open Go.RowKit
set_option linter.unusedVariables false

/-- The document's log in memory, whatever it holds. -/
structure Rw (N : Nat) (S : Nat → Prop) (w : World) (b : Nat) (P : PL) : Prop where
  at_ : ∃ v es, w.heap[b]? = some (.cells #[.int .i64 P.bi, .int .i64 P.bt, v, .int .i64 P.h, .int .i64 P.s, .int .i64 P.c, .int .i64 P.g, .int .i64 P.a] 82 (0, 0)) ∧ EntsOw 0 w v es ∧ es.map Ent.says = P.E ∧ (∀ g, v.ownBlock = some g → S g) ∧ (∀ e ∈ es, ∀ g, e.x.ownBlock = some g → S g)
  Sb : S b
  inn : ∀ i, S i → i < w.heap.size
  fr : ∀ i, S i → N ≤ i
theorem Rg.rw {N : Nat} {S : Nat → Prop} {w : World} {b : Nat} {P : PL} (h : Rg N S w b P) : Rw N S w b P := ⟨h.at_, h.Sb, h.inn, h.fr⟩
theorem Rw.rg {N : Nat} {S : Nat → Prop} {w : World} {b : Nat} {P : PL} (h : Rw N S w b P) (ok : P.Ok) : Rg N S w b P := ⟨h.at_, ok, h.Sb, h.inn, h.fr⟩
theorem Rw.below {N : Nat} {S : Nat → Prop} {w w' : World} {b : Nat} {P : PL} (h : Rw N S w b P) (hB : Below w.heap.size w w') : Rw N S w' b P := by
  obtain ⟨v, es, hv, ho, hs, h1, h2⟩ := h.at_
  exact ⟨⟨v, es, (hB.block b (h.inn _ h.Sb)).trans hv, ho.below hB, hs, h1, h2⟩, h.Sb, fun i hi => Nat.lt_of_lt_of_le (h.inn i hi) hB.size, h.fr⟩

/-- One field is written. -/
theorem Rw.store {N : Nat} {S : Nat → Prop} {w : World} {b : Nat} {P Q : PL} (h : Rw N S w b P) (o : Nat) (u : Value) (hE : Q.E = P.E)
    (hc : ∀ v : Value, (#[.int .i64 P.bi, .int .i64 P.bt, v, .int .i64 P.h, .int .i64 P.s, .int .i64 P.c, .int .i64 P.g, .int .i64 P.a] : Array Value).setIfInBounds o u = #[.int .i64 Q.bi, .int .i64 Q.bt, v, .int .i64 Q.h, .int .i64 Q.s, .int .i64 Q.c, .int .i64 Q.g, .int .i64 Q.a]) :
    Rw N S (w.setCell ⟨b, o, none⟩ u) b Q ∧ Out S w (w.setCell ⟨b, o, none⟩ u) := by
  obtain ⟨v, es, hb, ho, hs, h1, h2⟩ := h.at_
  have hO : Out (fun i => i = b) w (w.setCell ⟨b, o, none⟩ u) := (Out.refl (fun i => i = b) w).put rfl
  have hOS : Out S w (w.setCell ⟨b, o, none⟩ u) := hO.mono (fun i hi => by rw [hi]; exact h.Sb)
  refine ⟨⟨⟨v, es, ?_, ?_, by rw [hE]; exact hs, h1, h2⟩, h.Sb, fun i hi => Nat.lt_of_lt_of_le (h.inn i hi) hOS.size, h.fr⟩, hOS⟩
  · rw [heap_set hb o u, hc v]
  · exact ho.out hO (by rintro g hg rfl; exact ho.not_at hb (by decide) hg) (by rintro e he g hg rfl; exact (ho.dat e he).not_at hb (by decide) hg)
/-- The entries are written. -/
theorem Rw.ents {N : Nat} {S : Nat → Prop} {w w1 : World} {b : Nat} {P Q : PL} (h : Rw N S w b P) (hN : N ≤ w.heap.size) (hB : Below w.heap.size w w1) {u : Value} {fs : List Ent} (hF : EntsOw w.heap.size w1 u fs) (hE : fs.map Ent.says = Q.E)
    (hq : Q.bi = P.bi ∧ Q.bt = P.bt ∧ Q.h = P.h ∧ Q.s = P.s ∧ Q.c = P.c ∧ Q.g = P.g ∧ Q.a = P.a) :
    Rw N (grew S w w1) (w1.setCell ⟨b, 2, none⟩ u) b Q ∧ Out S w (w1.setCell ⟨b, 2, none⟩ u) := by
  obtain ⟨v, es, hb, ho, hs, h1, h2⟩ := h.at_
  have hbw := h.inn _ h.Sb
  have hb1 := (hB.block b hbw).trans hb
  have hO : Out (fun i => i = b) w1 (w1.setCell ⟨b, 2, none⟩ u) := (Out.refl (fun i => i = b) w1).put rfl
  have hOS : Out S w (w1.setCell ⟨b, 2, none⟩ u) := (Out.of_below hB).trans hO (fun i hi _ => by rw [hi]; exact h.Sb)
  have hz : (w1.setCell ⟨b, 2, none⟩ u).heap.size = w1.heap.size := size_set _ _ _
  refine ⟨⟨⟨u, fs, ?_, ?_, hE, ?_, ?_⟩, .inl h.Sb, fun i hi => ?_, fun i hi => ?_⟩, hOS⟩
  · rw [heap_set hb1 2 u]
    obtain ⟨q1, q2, q3, q4, q5, q6, q7⟩ := hq
    rw [q1, q2, q3, q4, q5, q6, q7]
    rfl
  · refine (hF.base (Nat.zero_le _)).out hO ?_ ?_
    · rintro g hg rfl; have := (hF.lt hg).1; omega
    · rintro e he g hg rfl; have := ((hF.dat e he).lt hg).1; omega
  · intro g hg; have := hF.lt hg; exact .inr ⟨this.1, this.2⟩
  · intro e he g hg; have := (hF.dat e he).lt hg; exact .inr ⟨this.1, this.2⟩
  · rw [hz]; rcases hi with hi | hi
    · exact Nat.lt_of_lt_of_le (h.inn i hi) hB.size
    · exact hi.2
  · rcases hi with hi | hi
    · exact h.fr i hi
    · omega

/-- Behind a call the log is P, in the same blocks; nothing else has turned. -/
structure RK (N : Nat) (S : Nat → Prop) (w w' : World) (b : Nat) (P : PL) : Prop where
  q : Rg N S w' b P
  out : Out S w w'
theorem RK.post {N : Nat} {S : Nat → Prop} {w w1 w' : World} {b : Nat} {P : PL} (h : RK N S w w1 b P) (hB : Below w1.heap.size w1 w') : RK N S w w' b P :=
  ⟨h.q.below hB, h.out.trans (Out.of_below hB) (fun i hi _ => hi)⟩
theorem RK.pre {N : Nat} {S : Nat → Prop} {w w1 w' : World} {b : Nat} {P : PL} (h : RK N S w1 w' b P) (hB : Below w.heap.size w w1) : RK N S w w' b P :=
  ⟨h.q, (Out.of_below hB).trans h.out (fun i hi _ => hi)⟩
theorem RK.th {N : Nat} {S : Nat → Prop} {w w' : World} {b : Nat} {P : PL} (h : RK N S w w' b P) (hN : N ≤ w.heap.size) : RTh N S w w' b P := by
  obtain ⟨v, es, hv, ho, hs, h1, h2⟩ := h.q.at_
  exact ⟨⟨⟨v, es, hv, ho, hs, fun g hg => .inl (h1 g hg), fun e he g hg => .inl (h2 e he g hg)⟩, h.q.ok, .inl h.q.Sb, fun i hi => hi.elim (fun h' => h.q.inn i h') (fun h' => h'.2), fun i hi => hi.elim (fun h' => h.q.fr i h') (fun h' => by omega)⟩, h.out⟩
theorem Rg.rk {N : Nat} {S : Nat → Prop} {w w' : World} {b : Nat} {P : PL} (h : Rg N S w b P) (hB : Below w.heap.size w w') : RK N S w w' b P := ⟨h.below hB, Out.of_below hB⟩
/-- One mark is written. -/
theorem Rg.mark {N : Nat} {S : Nat → Prop} {w w1 : World} {b : Nat} {P Q : PL} (h : Rg N S w b P) (hB : Below w.heap.size w w1) (o : Nat) (u : Value) (hE : Q.E = P.E) (ok : Q.Ok)
    (hc : ∀ v : Value, (#[.int .i64 P.bi, .int .i64 P.bt, v, .int .i64 P.h, .int .i64 P.s, .int .i64 P.c, .int .i64 P.g, .int .i64 P.a] : Array Value).setIfInBounds o u = #[.int .i64 Q.bi, .int .i64 Q.bt, v, .int .i64 Q.h, .int .i64 Q.s, .int .i64 Q.c, .int .i64 Q.g, .int .i64 Q.a]) :
    RK N S w (w1.setCell ⟨b, o, none⟩ u) b Q := by
  have := (h.below hB).rw.store (Q := Q) o u hE hc
  exact ⟨this.1.rg ok, (Out.of_below hB).trans this.2 (fun i hi _ => hi)⟩
/-- The cells, behind what only reads. -/
theorem Rg.cs {N : Nat} {S : Nat → Prop} {w : World} {b : Nat} {P : PL} (h : Rg N S w b P) : ∃ va vc, ∀ w1, Below w.heap.size w w1 → (w1.cell? ⟨b, 0, none⟩ = some (.int .i64 P.bi) ∧ w1.cell? ⟨b, 1, none⟩ = some (.int .i64 P.bt) ∧ w1.cell? ⟨b, 2, none⟩ = some (.slice va P.E.length vc) ∧ w1.cell? ⟨b, 3, none⟩ = some (.int .i64 P.h) ∧ w1.cell? ⟨b, 4, none⟩ = some (.int .i64 P.s) ∧ w1.cell? ⟨b, 5, none⟩ = some (.int .i64 P.c) ∧ w1.cell? ⟨b, 6, none⟩ = some (.int .i64 P.g) ∧ w1.cell? ⟨b, 7, none⟩ = some (.int .i64 P.a)) ∧ (∀ o, w1.frozen? ⟨b, o, none⟩ = false) ∧ b < w1.heap.size := by
  obtain ⟨va, vc, es, hb, -⟩ := h.cells
  refine ⟨va, vc, fun w1 hB => ?_⟩
  have hb1 := (hB.block b (h.inn _ h.Sb)).trans hb
  obtain ⟨c, f⟩ := cells8 hb1
  exact ⟨c, f, (Array.getElem?_eq_some_iff.1 hb1).1⟩

set_option maxRecDepth 100000 in
set_option maxHeartbeats 1000000 in
/-- Commit. -/
theorem RCommit_any {N : Nat} {S : Nat → Prop} {w : World} {b : Nat} {P : PL} (h : Rg N S w b P) (i : Int) :
    Calls Try.prog 47 #[.pointer (some ⟨b, 0, none⟩), .int .i64 i] w fun e w' => e = .returned (.bool (decide (P.c < min i P.li))) ∧ RK N S w w' b (coP P i) := by
  obtain ⟨va, vc, hcs⟩ := h.cs
  have HL : Hid (Calls _ _ _ _ _) := RLast_any h
  have HCS : Hid _ := hcs
  have HK : Hid (∀ w1 x, Below w.heap.size w w1 → x = min i P.li → P.c < x → RK N S w (w1.setCell ⟨b, 5, none⟩ (.int .i64 x)) b (coP P i)) := fun w1 x hB hx hlt => by
    have e : max P.c (min i P.li) = x := by omega
    exact h.mark hB 5 _ rfl (coP_ok h.ok i) (fun v => by unfold coP PL.mk'; rw [e]; rfl)
  have HN : Hid (∀ w1, Below w.heap.size w w1 → ¬ P.c < min i P.li → RK N S w w1 b (coP P i)) := fun w1 hB hlt => by
    have e : coP P i = P := by unfold coP PL.mk'; rw [show max P.c (min i P.li) = P.c by omega]
    rw [e]; exact h.rk hB
  clear h hcs
  generalize P.li = li at *
  by_cases hm : li < i
  · have e : min i li = li := by omega
    rw [e] at HK HN ⊢
    by_cases hc : P.c < li
    · have hd : decide (P.c < li) = true := by simpa using hc
      rw [hd]
      go_enter Try.func47, Try.ntmps47
      go_wp2_with (go_at_call 21; refine HL.out.mono ?_; rintro e w1 ⟨rfl, hB1⟩; obtain ⟨⟨k0, k1, k2, k3, k4, k5, k6, k7⟩, kf, kb⟩ := HCS.out w1 hB1)
      go_ret
      exact ⟨rfl, HK.out _ _ hB1 rfl hc⟩
    · have hd : decide (P.c < li) = false := by simpa using hc
      rw [hd]
      go_enter Try.func47, Try.ntmps47
      go_wp2_with (go_at_call 21; refine HL.out.mono ?_; rintro e w1 ⟨rfl, hB1⟩; obtain ⟨⟨k0, k1, k2, k3, k4, k5, k6, k7⟩, kf, kb⟩ := HCS.out w1 hB1)
      go_ret
      exact ⟨rfl, HN.out _ hB1 hc⟩
  · have e : min i li = i := by omega
    rw [e] at HK HN ⊢
    by_cases hc : P.c < i
    · have hd : decide (P.c < i) = true := by simpa using hc
      rw [hd]
      go_enter Try.func47, Try.ntmps47
      go_wp2_with (go_at_call 21; refine HL.out.mono ?_; rintro e w1 ⟨rfl, hB1⟩; obtain ⟨⟨k0, k1, k2, k3, k4, k5, k6, k7⟩, kf, kb⟩ := HCS.out w1 hB1)
      go_ret
      exact ⟨rfl, HK.out _ _ hB1 rfl hc⟩
    · have hd : decide (P.c < i) = false := by simpa using hc
      rw [hd]
      go_enter Try.func47, Try.ntmps47
      go_wp2_with (go_at_call 21; refine HL.out.mono ?_; rintro e w1 ⟨rfl, hB1⟩; obtain ⟨⟨k0, k1, k2, k3, k4, k5, k6, k7⟩, kf, kb⟩ := HCS.out w1 hB1)
      go_ret
      exact ⟨rfl, HN.out _ hB1 hc⟩

set_option maxRecDepth 100000 in
set_option maxHeartbeats 1000000 in
/-- Apply. -/
theorem RApply_any {N : Nat} {S : Nat → Prop} {w : World} {b : Nat} {P : PL} (h : Rg N S w b P) (i : Int) :
    Calls Try.prog 53 #[.pointer (some ⟨b, 0, none⟩), .int .i64 i] w fun e w' => e = .returned (.bool (decide (P.a < i ∧ i ≤ P.g))) ∧ RK N S w w' b (adP P i) := by
  obtain ⟨va, vc, hcs⟩ := h.cs
  obtain ⟨⟨k0, k1, k2, k3, k4, k5, k6, k7⟩, kf, kb⟩ := hcs w (Below.refl _ _)
  by_cases hy : P.a < i ∧ i ≤ P.g
  · have HK : Hid (RK N S w (w.setCell ⟨b, 7, none⟩ (.int .i64 i)) b (adP P i)) := h.mark (Below.refl _ _) 7 _ (by unfold adP; rw [if_pos hy]; rfl) (adP_ok h.ok i) (fun v => by unfold adP PL.mk'; rw [if_pos hy]; rfl)
    have hd : decide (P.a < i ∧ i ≤ P.g) = true := by simpa using hy
    rw [hd]
    obtain ⟨h1, h2⟩ := hy
    clear h hcs hd
    go_enter Try.func53, Try.ntmps53
    go_wp2
    go_ret
    exact ⟨rfl, HK.out⟩
  · have HK : Hid (RK N S w w b (adP P i)) := by show RK _ _ _ _ _ _; unfold adP; rw [if_neg hy]; exact h.rk (Below.refl _ _)
    have hd : decide (P.a < i ∧ i ≤ P.g) = false := by simpa using hy
    rw [hd]
    clear h hcs hd
    by_cases h1 : P.a < i
    · have h2 : P.g < i := by omega
      clear hy
      go_enter Try.func53, Try.ntmps53
      go_wp2
      go_ret
      exact ⟨rfl, HK.out⟩
    · clear hy
      go_enter Try.func53, Try.ntmps53
      go_wp2
      go_ret
      exact ⟨rfl, HK.out⟩

set_option maxRecDepth 100000 in
set_option maxHeartbeats 1000000 in
/-- Sync. -/
theorem RSync_any {N : Nat} {S : Nat → Prop} {w : World} {b : Nat} {P : PL} (h : Rg N S w b P) (i t : Int) :
    Calls Try.prog 52 #[.pointer (some ⟨b, 0, none⟩), .int .i64 i, .int .i64 t] w fun e w' => e = .returned (.bool (decide (P.s < i ∧ i ≤ P.h ∧ P.has i t = true))) ∧ RK N S w w' b (stP P i t) := by
  obtain ⟨va, vc, hcs⟩ := h.cs
  obtain ⟨⟨k0, k1, k2, k3, k4, k5, k6, k7⟩, kf, kb⟩ := hcs w (Below.refl _ _)
  have HH : Hid (Calls _ _ _ _ _) := RHas_any h i t
  have HCS : Hid _ := hcs
  have HK : Hid (∀ w1, Below w.heap.size w w1 → P.s < i ∧ i ≤ P.h ∧ P.has i t = true → RK N S w (w1.setCell ⟨b, 4, none⟩ (.int .i64 i)) b (stP P i t)) := fun w1 hB hy =>
    h.mark hB 4 _ (by unfold stP; rw [if_pos hy]; rfl) (stP_ok h.ok i t) (fun v => by unfold stP PL.mk'; rw [if_pos hy]; rfl)
  have HN : Hid (∀ w1, Below w.heap.size w w1 → ¬ (P.s < i ∧ i ≤ P.h ∧ P.has i t = true) → RK N S w w1 b (stP P i t)) := fun w1 hB hy => by unfold stP; rw [if_neg hy]; exact h.rk hB
  clear h hcs
  by_cases h1 : P.s < i
  · by_cases h2 : P.h < i
    · have hy : ¬ (P.s < i ∧ i ≤ P.h ∧ P.has i t = true) := by omega
      have hd : decide (P.s < i ∧ i ≤ P.h ∧ P.has i t = true) = false := by simpa using hy
      rw [hd]
      have HR : Hid (RK N S w w b (stP P i t)) := HN.out w (Below.refl _ _) hy
      clear hy hd HK HN HCS
      go_enter Try.func52, Try.ntmps52
      go_wp2
      go_ret
      exact ⟨rfl, HR.out⟩
    · cases hb : P.has i t with
      | true =>
        have hy : P.s < i ∧ i ≤ P.h ∧ P.has i t = true := ⟨h1, by omega, hb⟩
        have hd : decide (P.s < i ∧ i ≤ P.h ∧ true = true) = true := by rw [decide_eq_true_eq]; exact ⟨h1, by omega, rfl⟩
        rw [hd]
        rw [hb] at HH
        have HR : Hid (∀ w1, Below w.heap.size w w1 → RK N S w (w1.setCell ⟨b, 4, none⟩ (.int .i64 i)) b (stP P i t)) := fun w1 hB => HK.out w1 hB hy
        clear hy hd HK HN hb
        go_enter Try.func52, Try.ntmps52
        go_wp2_with (go_at_call 60; refine HH.out.mono ?_; rintro e w1 ⟨rfl, hB1⟩; obtain ⟨⟨q0, q1, q2, q3, q4, q5, q6, q7⟩, qf, qb⟩ := HCS.out w1 hB1)
        go_ret
        exact ⟨rfl, HR.out _ hB1⟩
      | false =>
        have hy : ¬ (P.s < i ∧ i ≤ P.h ∧ P.has i t = true) := by rw [hb]; simp
        have hd : decide (P.s < i ∧ i ≤ P.h ∧ false = true) = false := by simp
        rw [hd]
        rw [hb] at HH
        have HR : Hid (∀ w1, Below w.heap.size w w1 → RK N S w w1 b (stP P i t)) := fun w1 hB => HN.out w1 hB hy
        clear hy hd HK HN hb
        go_enter Try.func52, Try.ntmps52
        go_wp2_with (go_at_call 60; refine HH.out.mono ?_; rintro e w1 ⟨rfl, hB1⟩; obtain ⟨⟨q0, q1, q2, q3, q4, q5, q6, q7⟩, qf, qb⟩ := HCS.out w1 hB1)
        go_ret
        exact ⟨rfl, HR.out _ hB1⟩
  · have hy : ¬ (P.s < i ∧ i ≤ P.h ∧ P.has i t = true) := by omega
    have hd : decide (P.s < i ∧ i ≤ P.h ∧ P.has i t = true) = false := by simpa using hy
    rw [hd]
    have HR : Hid (RK N S w w b (stP P i t)) := HN.out w (Below.refl _ _) hy
    clear hy hd HK HN HCS
    go_enter Try.func52, Try.ntmps52
    go_wp2
    go_ret
    exact ⟨rfl, HR.out⟩
end Go.Proofs.Yteekpfgjpdopmaa
