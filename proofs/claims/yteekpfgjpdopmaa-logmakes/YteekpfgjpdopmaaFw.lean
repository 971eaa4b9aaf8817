/-
  Operations in memory; few.
-/
import Derived.Test.YteekpfgjpdopmaaCk
namespace Go.Proofs.Yteekpfgjpdopmaa
open Go.RowKit
set_option linter.unusedVariables false

/-- An operation. -/
structure Opn where
  kd : Int
  n : Int
  tm : Int
  m : Int
  ea : Option Addr
  ec : Nat
  es : List Ent
  ba : Option Addr
  bc : Nat
  bd : List UInt8
def nilOpn : Opn := ⟨0, 0, 0, 0, none, 0, [], none, 0, []⟩
def OpAt (N : Nat) (W : World) (b o : Nat) (x : Opn) : Prop :=
  (W.cell? ⟨b, o, none⟩ = some (.int .i64 x.kd) ∧ W.cell? ⟨b, o + 1, none⟩ = some (.int .i64 x.n) ∧ W.cell? ⟨b, o + 2, none⟩ = some (.int .i64 x.tm) ∧ W.cell? ⟨b, o + 3, none⟩ = some (.int .i64 x.m) ∧ W.cell? ⟨b, o + 4, none⟩ = some (.slice x.ea x.es.length x.ec) ∧ W.cell? ⟨b, o + 5, none⟩ = some (.slice x.ba x.bd.length x.bc)) ∧ EntsAt N W x.ea x.es ∧ Sl N W (.slice x.ba x.bd.length x.bc) x.bd ∧ x.es.length ≤ x.ec ∧ x.ec ≤ maxLen
def OpsAt (N : Nat) (W : World) (a : Option Addr) (l : List Opn) : Prop :=
  l = [] ∨ ∃ b off, a = some ⟨b, off, none⟩ ∧ b < N ∧ ∀ i, i < l.length → OpAt N W b (off + i * 6) (l.getD i nilOpn)
theorem OpAt.below {N : Nat} {w w' : World} {b o : Nat} {x : Opn} (h : OpAt N w b o x) (hb : b < N) (hB : Below N w w') : OpAt N w' b o x := by
  obtain ⟨⟨h0, h1, h2, h3, h4, h5⟩, e1, e2, r⟩ := h
  exact ⟨⟨(hB.cell (p := ⟨b, o, none⟩) hb).trans h0, (hB.cell (p := ⟨b, o + 1, none⟩) hb).trans h1, (hB.cell (p := ⟨b, o + 2, none⟩) hb).trans h2, (hB.cell (p := ⟨b, o + 3, none⟩) hb).trans h3, (hB.cell (p := ⟨b, o + 4, none⟩) hb).trans h4, (hB.cell (p := ⟨b, o + 5, none⟩) hb).trans h5⟩, e1.below hB, e2.below hB, r⟩
theorem OpsAt.at {N : Nat} {w : World} {a : Option Addr} {l : List Opn} (h : OpsAt N w a l) {i : Nat} (hi : i < l.length) : ∃ b off, a = some ⟨b, off, none⟩ ∧ b < N ∧ OpAt N w b (off + i * 6) (l.getD i nilOpn) := by
  rcases h with rfl | ⟨b, off, ha, hb, h⟩
  · simp at hi
  · exact ⟨b, off, ha, hb, h i hi⟩
theorem OpsAt.below {N : Nat} {w w' : World} {a : Option Addr} {l : List Opn} (h : OpsAt N w a l) (hB : Below N w w') : OpsAt N w' a l := by
  rcases h with h | ⟨b, off, ha, hb, h⟩
  · exact .inl h
  · exact .inr ⟨b, off, ha, hb, fun i hi => (h i hi).below hb hB⟩

/-- What few tells. -/
def Few (l : List Opn) (t : Bool) : Prop := t = true → l.length ≤ 300 ∧ ∀ k, k < l.length → (l.getD k nilOpn).es.length ≤ 64

/-- few's answer. -/
def FewR (l : List Opn) (w : World) (e : Ending) (w' : World) : Prop := ∃ t, e = .returned (.bool t) ∧ Few l t ∧ w' = w

set_option maxRecDepth 100000 in
set_option maxHeartbeats 4000000 in
theorem few_any (a : Option Addr) (c : Nat) (l : List Opn) (N : Nat) (w : World) (h : OpsAt N w a l) (hN : N ≤ w.heap.size) (hl : l.length ≤ 9223372036854775807) :
    Calls Try.prog 10 #[.slice a l.length c] w fun e w' => FewR l w e w' := by
  have HO : Hid (OpsAt N w a l) := h
  clear h
  go_enter Try.func10, Try.ntmps10
  go_wp2_with fail
  go_loopw [3, 4] (fun nv iv wr => ∃ (n : Int) (k : Nat), nv = .int .i64 n ∧ iv = .int .i64 (k : Int) ∧ k ≤ l.length ∧ k ≤ 300 ∧ 0 ≤ n ∧ n ≤ 40000 ∧ (∀ j, j < k → (l.getD j nilOpn).es.length ≤ 64) ∧ wr = w) (fun _ iv _ => l.length - (intOf iv).toNat)
  case atStart => exact ⟨0, 0, rfl, rfl, Nat.zero_le _, by omega, by omega, by omega, fun j hj => by omega, rfl⟩
  case round =>
    obtain ⟨n, k, rfl, rfl, hk, hk3, hn0, hn4, hj, hwr⟩ := hrel
    subst hwr
    have HJ : Hid (∀ j, j < k → (l.getD j nilOpn).es.length ≤ 64) := hj
    clear hj
    by_cases hlt : k < l.length
    · by_cases h3 : k < 300
      · obtain ⟨b, off, hea, hb, he⟩ := HO.out.at hlt
        subst hea
        have HK1 : Hid ((l.getD k nilOpn).es.length ≤ 64 → ∀ j, j < k + 1 → (l.getD j nilOpn).es.length ≤ 64) := fun he j hj => by
          by_cases e : j = k
          · subst e; exact he
          · exact HJ.out j (by omega)
        have HNO : Hid (¬ (l.getD k nilOpn).es.length ≤ 64 → Few l false) := fun _ h => by cases h
        generalize l.getD k nilOpn = x at *
        obtain ⟨kd, xn, tm, m, ea, ec, es, ba, bc, bd⟩ := x
        obtain ⟨⟨c0, c1, c2, c3, c4, c5⟩, hE, hS, -, -⟩ := he
        simp only at c4 c5 hE hS HK1 HNO
        have HEE : Hid (EntsAt N wr ea es) := hE
        have i0 : (0 : Int) ≤ (k : Int) := by omega
        have i1 : (k : Int) < (l.length : Int) := by omega
        have hbw : b < wr.heap.size := by omega
        clear hE hS c0 c1 c2 c3
        by_cases h64 : 64 < es.length
        · have h64' : (64 : Int) < (es.length : Int) := by omega
          have HF := HNO.out (by omega)
          have HFF : Hid (Few l false) := HF
          clear HF HK1 HNO
          by_cases hb2 : (bd.length : Int) ≤ 20000
          · go_wp2
            go_ret
            exact ⟨false, rfl, HFF.out, rfl⟩
          · have hb2' : (20000 : Int) < (bd.length : Int) := by omega
            clear hb2
            go_wp2
            go_ret
            exact ⟨false, rfl, HFF.out, rfl⟩
        · have h64' : (es.length : Int) ≤ 64 := by omega
          have HK2 : Hid (∀ j, j < k + 1 → (l.getD j nilOpn).es.length ≤ 64) := HK1.out (by omega)
          clear HK1 HNO HJ
          obtain ⟨Y, hY, hcase⟩ : ∃ Y : Int, 0 ≤ Y ∧ Y ≤ 20000 ∧ (((bd.length : Int) ≤ 20000 ∧ Y = (bd.length : Int)) ∨ ((20000 : Int) < (bd.length : Int) ∧ Y = 20000)) := ⟨min (bd.length : Int) 20000, by omega, by omega, by omega⟩
          obtain ⟨hY2, hcase⟩ := hcase
          rcases hcase with ⟨a1, a2⟩ | ⟨a1, a2⟩
          · subst a2
            generalize wr = wq at *
            go_wp2_with fail
            go_loopw [3, 5] (fun nv iv wr => ∃ (n2 : Int) (j : Nat), nv = .int .i64 n2 ∧ iv = .int .i64 (j : Int) ∧ j ≤ es.length ∧ 0 ≤ n2 ∧ n2 ≤ 60000 + 20000 * (j : Int) ∧ wr = wq) (fun _ iv _ => es.length - (intOf iv).toNat)
            case atStart => exact ⟨_, 0, rfl, rfl, Nat.zero_le _, by omega, by omega, rfl⟩
            case round =>
              obtain ⟨n2, j, rfl, rfl, hj, hm0, hm1, hwr⟩ := hrel
              subst hwr
              by_cases hjl : j < es.length
              · obtain ⟨b2, o2, hea, hb2, he2⟩ := HEE.out.at hjl
                subst hea
                generalize es.getD j nilEnt = e at *
                obtain ⟨et, ei, ek, eaa, ecc, ed⟩ := e
                obtain ⟨-, -, -, d3, -⟩ := he2
                unfold Ent.x at d3
                simp only at d3
                have j0 : (0 : Int) ≤ (j : Int) := by omega
                have j1 : (j : Int) < (es.length : Int) := by omega
                have hb2w : b2 < wr.heap.size := by omega
                by_cases hdl : (ed.length : Int) ≤ 20000
                · go_wp2
                  exact ⟨⟨_, j + 1, rfl, by go_num, by omega, by omega, by omega, by first | rfl | trivial⟩, by simp [intOf]; omega⟩
                · have hdl' : (20000 : Int) < (ed.length : Int) := by omega
                  clear hdl
                  go_wp2
                  exact ⟨⟨_, j + 1, rfl, by go_num, by omega, by omega, by omega, by first | rfl | trivial⟩, by simp [intOf]; omega⟩
              · have hje : (es.length : Int) ≤ (j : Int) := by omega
                by_cases hnn : n2 ≤ 40000
                · go_wp2
                  exact ⟨⟨_, k + 1, rfl, by go_num, by omega, by omega, by omega, by omega, HK2.out, by first | rfl | trivial⟩, by simp [intOf]; omega⟩
                · have hnn' : (40000 : Int) < n2 := by omega
                  clear hnn
                  go_wp2
                  exact ⟨⟨_, k + 1, rfl, by go_num, by omega, by omega, by omega, by omega, HK2.out, by first | rfl | trivial⟩, by simp [intOf]; omega⟩
          · subst a2
            generalize wr = wq at *
            go_wp2_with fail
            go_loopw [3, 5] (fun nv iv wr => ∃ (n2 : Int) (j : Nat), nv = .int .i64 n2 ∧ iv = .int .i64 (j : Int) ∧ j ≤ es.length ∧ 0 ≤ n2 ∧ n2 ≤ 60000 + 20000 * (j : Int) ∧ wr = wq) (fun _ iv _ => es.length - (intOf iv).toNat)
            case atStart => exact ⟨_, 0, rfl, rfl, Nat.zero_le _, by omega, by omega, rfl⟩
            case round =>
              obtain ⟨n2, j, rfl, rfl, hj, hm0, hm1, hwr⟩ := hrel
              subst hwr
              by_cases hjl : j < es.length
              · obtain ⟨b2, o2, hea, hb2, he2⟩ := HEE.out.at hjl
                subst hea
                generalize es.getD j nilEnt = e at *
                obtain ⟨et, ei, ek, eaa, ecc, ed⟩ := e
                obtain ⟨-, -, -, d3, -⟩ := he2
                unfold Ent.x at d3
                simp only at d3
                have j0 : (0 : Int) ≤ (j : Int) := by omega
                have j1 : (j : Int) < (es.length : Int) := by omega
                have hb2w : b2 < wr.heap.size := by omega
                by_cases hdl : (ed.length : Int) ≤ 20000
                · go_wp2
                  exact ⟨⟨_, j + 1, rfl, by go_num, by omega, by omega, by omega, by first | rfl | trivial⟩, by simp [intOf]; omega⟩
                · have hdl' : (20000 : Int) < (ed.length : Int) := by omega
                  clear hdl
                  go_wp2
                  exact ⟨⟨_, j + 1, rfl, by go_num, by omega, by omega, by omega, by first | rfl | trivial⟩, by simp [intOf]; omega⟩
              · have hje : (es.length : Int) ≤ (j : Int) := by omega
                by_cases hnn : n2 ≤ 40000
                · go_wp2
                  exact ⟨⟨_, k + 1, rfl, by go_num, by omega, by omega, by omega, by omega, HK2.out, by first | rfl | trivial⟩, by simp [intOf]; omega⟩
                · have hnn' : (40000 : Int) < n2 := by omega
                  clear hnn
                  go_wp2
                  exact ⟨⟨_, k + 1, rfl, by go_num, by omega, by omega, by omega, by omega, HK2.out, by first | rfl | trivial⟩, by simp [intOf]; omega⟩
      · have h3' : decide ((k : Int) < 300) = false := by simp; omega
        have hk300 : k = 300 := by omega
        have hl3 : (300 : Int) < (l.length : Int) := by omega
        go_wp2
        go_ret
        exact ⟨_, rfl, fun h => by first | (simp at h; done) | (simp at h; omega), rfl⟩
    · have hkl : k = l.length := by omega
      have HFW : Hid (∀ t, Few l t) := fun t _ => ⟨by omega, fun j hj => HJ.out j (by omega)⟩
      have hl3 : (l.length : Int) ≤ 300 := by omega
      go_wp2
      all_goals (go_ret; exact ⟨_, rfl, HFW.out _, rfl⟩)
end Go.Proofs.Yteekpfgjpdopmaa
