/-
  Operations in memory; few.
-/
import Derived.Test.YtefbfjlmhfmiiaaBas
namespace Go.Proofs.Ytefbfjlmhfmiiaa
open Go.RowKit
set_option linter.unusedVariables false

/-- An operation. -/
structure Opn where
  kd : Int
  a : Int
  b : Int
  up : Bool
  da : Option Addr
  dc : Nat
  d : List UInt8
def nilOpn : Opn := ⟨0, 0, 0, false, none, 0, []⟩
def Opn.x (o : Opn) : Value := .slice o.da o.d.length o.dc
def OpAt (N : Nat) (W : World) (b o : Nat) (x : Opn) : Prop :=
  (W.cell? ⟨b, o, none⟩ = some (.int .i64 x.kd) ∧ W.cell? ⟨b, o + 1, none⟩ = some (.int .i64 x.a) ∧ W.cell? ⟨b, o + 2, none⟩ = some (.int .i64 x.b) ∧ W.cell? ⟨b, o + 3, none⟩ = some (.bool x.up) ∧ W.cell? ⟨b, o + 4, none⟩ = some x.x) ∧ Sl N W x.x x.d
def OpsAt (N : Nat) (W : World) (a : Option Addr) (l : List Opn) : Prop :=
  l = [] ∨ ∃ b off, a = some ⟨b, off, none⟩ ∧ b < N ∧ ∀ i, i < l.length → OpAt N W b (off + i * 5) (l.getD i nilOpn)
/-- Of the form's reach. -/
def OpnIn (x : Opn) : Prop := x.b ≤ 9223372036854775807 ∧ x.d.length ≤ 140737488351232
theorem OpAt.below {N : Nat} {w w' : World} {b o : Nat} {x : Opn} (h : OpAt N w b o x) (hb : b < N) (hB : Below N w w') : OpAt N w' b o x := by
  obtain ⟨⟨h0, h1, h2, h3, h4⟩, e2⟩ := h
  exact ⟨⟨(hB.cell (p := ⟨b, o, none⟩) hb).trans h0, (hB.cell (p := ⟨b, o + 1, none⟩) hb).trans h1, (hB.cell (p := ⟨b, o + 2, none⟩) hb).trans h2, (hB.cell (p := ⟨b, o + 3, none⟩) hb).trans h3, (hB.cell (p := ⟨b, o + 4, none⟩) hb).trans h4⟩, e2.below hB⟩
theorem OpsAt.at {N : Nat} {w : World} {a : Option Addr} {l : List Opn} (h : OpsAt N w a l) {i : Nat} (hi : i < l.length) : ∃ b off, a = some ⟨b, off, none⟩ ∧ b < N ∧ OpAt N w b (off + i * 5) (l.getD i nilOpn) := by
  rcases h with rfl | ⟨b, off, ha, hb, h⟩
  · simp at hi
  · exact ⟨b, off, ha, hb, h i hi⟩
theorem OpsAt.below {N : Nat} {w w' : World} {a : Option Addr} {l : List Opn} (h : OpsAt N w a l) (hB : Below N w w') : OpsAt N w' a l := by
  rcases h with h | ⟨b, off, ha, hb, h⟩
  · exact .inl h
  · exact .inr ⟨b, off, ha, hb, fun i hi => (h i hi).below hb hB⟩

/-- few's answer. -/
def FewR (l : List Opn) (w : World) (e : Ending) (w' : World) : Prop := ∃ t, e = .returned (.bool t) ∧ (t = true → l.length ≤ 300) ∧ w' = w

set_option maxRecDepth 100000 in
set_option maxHeartbeats 4000000 in
theorem few_any (a : Option Addr) (c : Nat) (l : List Opn) (N : Nat) (w : World) (h : OpsAt N w a l) (hN : N ≤ w.heap.size) (hl : l.length ≤ 9223372036854775807) :
    Calls Try.prog 8 #[.slice a l.length c] w fun e w' => FewR l w e w' := by
  have HO : Hid (OpsAt N w a l) := h
  clear h
  go_enter Try.func8, Try.ntmps8
  go_wp2_with fail
  go_loopw [3, 4] (fun nv iv wr => ∃ (n : Int) (k : Nat), nv = .int .i64 n ∧ iv = .int .i64 (k : Int) ∧ k ≤ l.length ∧ k ≤ 300 ∧ 0 ≤ n ∧ n ≤ 40000 ∧ wr = w) (fun _ iv _ => l.length - (intOf iv).toNat)
  case atStart => exact ⟨0, 0, rfl, rfl, Nat.zero_le _, by omega, by omega, by omega, rfl⟩
  case round =>
    obtain ⟨n, k, rfl, rfl, hk, hk3, hn0, hn4, hwr⟩ := hrel
    subst hwr
    by_cases hlt : k < l.length
    · by_cases h3 : k < 300
      · obtain ⟨b, off, hea, hb, he⟩ := HO.out.at hlt
        subst hea
        generalize l.getD k nilOpn = x at *
        obtain ⟨kd, xa, xb, up, da, dc, bd⟩ := x
        obtain ⟨⟨c0, c1, c2, c3, c4⟩, hS⟩ := he
        unfold Opn.x at c4
        simp only at c4
        have i0 : (0 : Int) ≤ (k : Int) := by omega
        have i1 : (k : Int) < (l.length : Int) := by omega
        have hbw : b < wr.heap.size := by omega
        clear hS c0 c1 c2 c3
        obtain ⟨Y, hY, hY2, hcase⟩ : ∃ Y : Int, 0 ≤ Y ∧ Y ≤ 20000 ∧ (((bd.length : Int) ≤ 20000 ∧ Y = (bd.length : Int)) ∨ ((20000 : Int) < (bd.length : Int) ∧ Y = 20000)) := ⟨min (bd.length : Int) 20000, by omega, by omega, by omega⟩
        rcases hcase with ⟨a1, a2⟩ | ⟨a1, a2⟩
        · subst a2
          by_cases hnn : n + (bd.length : Int) ≤ 40000
          · go_wp2
            exact ⟨⟨_, k + 1, rfl, by go_num, by omega, by omega, by omega, by omega, by first | rfl | trivial⟩, by simp [intOf]; omega⟩
          · have hnn' : (40000 : Int) < n + (bd.length : Int) := by omega
            clear hnn
            go_wp2
            exact ⟨⟨_, k + 1, rfl, by go_num, by omega, by omega, by omega, by omega, by first | rfl | trivial⟩, by simp [intOf]; omega⟩
        · subst a2
          by_cases hnn : n + 20000 ≤ 40000
          · go_wp2
            exact ⟨⟨_, k + 1, rfl, by go_num, by omega, by omega, by omega, by omega, by first | rfl | trivial⟩, by simp [intOf]; omega⟩
          · have hnn' : (40000 : Int) < n + 20000 := by omega
            clear hnn
            go_wp2
            exact ⟨⟨_, k + 1, rfl, by go_num, by omega, by omega, by omega, by omega, by first | rfl | trivial⟩, by simp [intOf]; omega⟩
      · have h3' : decide ((k : Int) < 300) = false := by simp; omega
        have hk300 : k = 300 := by omega
        have hl3 : (300 : Int) < (l.length : Int) := by omega
        go_wp2
        go_ret
        exact ⟨_, rfl, fun h => by first | (simp at h; done) | (simp at h; omega), rfl⟩
    · have hkl : k = l.length := by omega
      have HFW : Hid (l.length ≤ 300) := by show _ ≤ _; omega
      have hl3 : (l.length : Int) ≤ 300 := by omega
      go_wp2
      all_goals (go_ret; exact ⟨_, rfl, fun _ => HFW.out, rfl⟩)
end Go.Proofs.Ytefbfjlmhfmiiaa
