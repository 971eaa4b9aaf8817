/-
  The document's progress: Sent.
-/
import Derived.Test.YtdgaimiggejleaaRq
namespace Go.Proofs.Ytdgaimiggejleaa
open Go.RowKit
set_option linter.unusedVariables false

theorem RTh.drew {N : Nat} {S : Nat → Prop} {w w2 : World} {c : Nat} {p : PP} (h : RTh N S w w2 c p) (n : Nat) : RTh N S w (w2.drewN n) c p := ⟨h.q.drew n, h.out.trans (Out.drew (X := S) _ n) (fun i hi _ => hi)⟩

set_option maxRecDepth 100000 in
set_option maxHeartbeats 4000000 in
theorem rSent_any {N : Nat} {S : Nat → Prop} {w : World} {c : Nat} {p : PP} (h : RP N S w c p) (hN : N ≤ w.heap.size) (ho : p.Ok) (hi : Iv p) (hlm : p.W.length ≤ 1000) (x : Int) (hx0 : 0 ≤ x) (hx1 : x ≤ 4611686018427387904) :
    Calls Try.prog 27 #[.pointer (some ⟨c, 0, none⟩), .int .i64 x] w fun e w' => e = .returned (.tuple #[]) ∧ RTh N S w w' c (p.sent x) := by
  obtain ⟨a, k, ⟨⟨c0, c1, c2, c3, c4, c5, c6⟩, cf⟩, hb, hq, hs⟩ := h.cells
  have hst : p.st = 0 ∨ p.st = 1 ∨ p.st = 2 := by have := ho.s0; have := ho.s2; omega
  have hw1 : IntKind.i64.wrap (x + 1) = x + 1 := by rw [IntKind.wrap_i64]; omega
  have hS0 : RTh N S w w c p := h.to (Out.refl _ _) hN
  have HS : Hid (∀ n m, RTh N S w ((w.drewN n).drewN m) c p) := fun n m => (hS0.drew n).drew m
  have HS1 : Hid (∀ n, RTh N S w (w.drewN n) c p) := fun n => hS0.drew n
  rcases hst with e | e | e
  · have hp : p.sent x = { p with pa := true } := by simp [PP.sent, e]
    have hW := hi.no (by omega)
    rw [hp]
    have h1 : RTh N S w (w.setCell ⟨c, 3, none⟩ (.bool true)) c { p with pa := true } := h.set (p' := { p with pa := true }) hN hb hq hs (Out.set rfl) (by simpa [rrow] using heap_set hb 3 (.bool true)) rfl
    have HD : Hid (∀ n m, RTh N S w (((w.setCell ⟨c, 3, none⟩ (.bool true)).drewN n).drewN m) c { p with pa := true }) := fun n m => (h1.drew n).drew m
    rw [e] at c2
    rw [hW] at c4
    simp only [List.length_nil] at c4
    clear h hb hq hs ho hi h1 hp hW hS0 HS
    go_enter Try.func27, Try.ntmps27
    go_wp2
    go_quiet (fail)
    go_wp2
    go_quiet (fail)
    go_wp2
    go_returns
    first
      | exact ⟨rfl, HD.out _ _⟩
      | exact ⟨rfl, by have := HD.out _ 0; exact this⟩
  · have hp : p.sent x = p.send x := by simp [PP.sent, e]
    rw [hp]
    rw [e] at c2
    have HAP : Hid (∀ w5, Out (fun _ => False) w w5 → Wo (w5.alloc (.cells #[.int .i64 x] 3)) (.slice a p.W.length k) p.W ∧ (w5.alloc (.cells #[.int .i64 x] 3)).cell? ⟨w5.heap.size, 0, none⟩ = some (.int .i64 x) ∧ ∀ v' w6, Wo w6 v' (p.W ++ [x]) → (w5.alloc (.cells #[.int .i64 x] 3)).grownBy w6 (Value.slice a p.W.length k).ownBlock → (v'.ownBlock = (Value.slice a p.W.length k).ownBlock ∨ v'.ownBlock = some (w5.alloc (.cells #[.int .i64 x] 3)).heap.size) → (∃ a6 k6, v' = .slice a6 (p.W.length + 1) k6) ∧ (w6.cell? ⟨c, 4, none⟩ = some (.slice a p.W.length k) ∧ w6.cell? ⟨c, 1, none⟩ = some (.int .i64 p.n)) ∧ (∀ o, w6.frozen? ⟨c, o, none⟩ = false) ∧ RTh N S w ((w6.setCell ⟨c, 4, none⟩ v').setCell ⟨c, 1, none⟩ (.int .i64 (x + 1))) c { p with W := p.W ++ [x], n := x + 1 }) := fun w5 hO => by
      have hwo5 : Wo w5 (.slice a p.W.length k) p.W := hq.out hO (fun _ _ hf => hf)
      have hOa : Out (fun _ => False) w (w5.alloc (.cells #[.int .i64 x] 3)) := hO.alloc _
      have hnew := heap_alloc_new w5 (.cells #[.int .i64 x] 3)
      refine ⟨hq.out hOa (fun _ _ hf => hf), by simp only [World.cell?, hnew]; rfl, fun v' w6 h1 h2 h3 => ?_⟩
      obtain ⟨a6, k6, e6, -, -⟩ := h1.shape
      have hcS := h.inn _ h.Sc
      have hvc : (Value.slice a p.W.length k).ownBlock ≠ some c := hq.not_at hb (by decide)
      have hc5 : (w5.alloc (.cells #[.int .i64 x] 3)).heap[c]? = some (.cells (rrow p (.slice a p.W.length k)) 51 (0, 0)) := (hOa.block c hcS (fun hf => hf)).trans hb
      have hc6 : w6.heap[c]? = some (.cells (rrow p (.slice a p.W.length k)) 51 (0, 0)) := (h2.block c (Nat.lt_of_lt_of_le hcS hOa.size) (fun e => hvc e.symm)).trans hc5
      have hO6 : Out S w w6 := (hOa.mono (fun _ hf => hf.elim)).trans (Out.grown h2 (X := S) (fun j hj => hs j hj)) (fun i hi _ => hi)
      have hO7 : Out S w ((w6.setCell ⟨c, 4, none⟩ v').setCell ⟨c, 1, none⟩ (.int .i64 (x + 1))) := (hO6.put h.Sc).put h.Sc
      refine ⟨⟨a6, k6, by rw [e6]; simp⟩, ⟨by simp [World.cell?, hc6, rrow], by simp [World.cell?, hc6, rrow]⟩, fun o => by simp [World.frozen?, hc6], ?_⟩
      refine h.turn (p' := { p with W := p.W ++ [x], n := x + 1 }) (v' := v') hN hO7 (by simpa [rrow] using heap_set (heap_set hc6 4 v') 1 (.int .i64 (x + 1))) ?_ ?_
      · exact h1.out (X := fun i => i = c) (Out.put (Out.set rfl) (by rfl)) (fun g hg e => by subst e; exact h1.not_at hc6 (by decide) hg)
      · intro g hg
        rcases h3 with e3 | e3
        · exact .inl (hs g (e3 ▸ hg))
        · rw [e3] at hg
          cases hg
          right
          have := hO.size
          simp
          omega
    have HSN : Hid (p.n ≤ x → addOk p.rm p.W x = true → p.send x = { p with W := p.W ++ [x], n := x + 1 }) := fun h1 h2 => by
      rw [PP.send, if_pos ⟨h1, h2⟩]
      have h3 : above p.W x = true ∧ p.W.length < p.rm := by simpa [addOk] using h2
      have : addL p.rm p.W x = p.W ++ [x] := by simp [addL, putL, h3.1, h3.2]
      rw [this]
    have HNO : Hid (¬ (p.n ≤ x ∧ addOk p.rm p.W x = true) → p.send x = p) := fun h1 => by rw [PP.send, if_neg h1]
    have hw5 : p.W.length + 1 ≤ 1099511627776 := by omega
    by_cases hz : p.W = []
    · have hab : above p.W x = true := by rw [hz]; rfl
      have hl0 : p.W.length = 0 := by rw [hz]; rfl
      have hrm := ho.rm
      have hok : addOk p.rm p.W x = true := by simp [addOk, hab]; omega
      by_cases hnx : p.n ≤ x
      · rw [HSN.out hnx hok]
        have hzz : ((p.W.length : Int) == 0) = true := by simp [hl0]
        have hlr : p.W.length < p.rm := by omega
        have HLZ : Hid (p.W.length = 0) := hl0
        clear h hb hq hs ho hi hp hS0 HNO HSN hab hok hz hl0
        go_enter Try.func27, Try.ntmps27
        go_wp2
        go_quiet (fail)
        go_wp2
        go_quiet (fail)
        go_wp2_with (first | (at_builtin; refine wpList_append_wo rfl _ _ rfl _ p.W x w.heap.size 1 rfl (HAP.out (w.drewN _) (Out.drew w _)).1 rfl (HAP.out (w.drewN _) (Out.drew w _)).2.1 hw5 ?_; intro v' w6 q1 q2 q3; obtain ⟨⟨a6, k6, rfl⟩, ⟨f4, f1⟩, ff, hT⟩ := (HAP.out (w.drewN _) (Out.drew w _)).2.2 v' w6 q1 q2 q3; have HT : Hid (RTh _ _ _ _ _ _) := hT; clear q1 q2 q3 hT) | fail)
        go_returns
        exact ⟨rfl, HT.out⟩
      · rw [HNO.out (fun h => hnx h.1)]
        have hnd : decide (p.n ≤ x) = false := by simpa using hnx
        have hzz : ((p.W.length : Int) == 0) = true := by simp [hl0]
        have hlr : p.W.length < p.rm := by omega
        have HLZ : Hid (p.W.length = 0) := hl0
        clear h hb hq hs ho hi hp hS0 HNO HSN hab hok hz hl0 HAP
        generalize p.W.length = L at *
        go_enter Try.func27, Try.ntmps27
        go_wp2
        go_quiet (fail)
        go_wp2
        go_quiet (fail)
        go_wp2
        go_returns
        first | exact ⟨rfl, HS1.out _⟩ | exact ⟨rfl, HS.out _ _⟩
    · have hpos : 0 < p.W.length := List.length_pos_iff.2 hz
      have hzz : ((p.W.length : Int) == 0) = false := by simp; omega
      obtain ⟨a', cap, hv, -, -, hc⟩ := hq.sl (Nat.le_refl _)
      simp only [Value.slice.injEq] at hv
      obtain ⟨rfl, -, rfl⟩ := hv
      obtain ⟨g, off, rfl, -, hc⟩ := hc.resolve_left hz
      have k0 := hc (p.W.length - 1) (by omega)
      obtain ⟨y, hy⟩ : ∃ y, p.W.getLast? = some y := ⟨p.W.getLast hz, List.getLast?_eq_some_getLast hz⟩
      have hy' : p.W[p.W.length - 1]?.getD 0 = y := by rw [← List.getLast?_eq_getElem?, hy]; rfl
      rw [hy'] at k0
      have hwL : IntKind.i64.wrap ((p.W.length : Int) - 1) = ((p.W.length - 1 : Nat) : Int) := by rw [IntKind.wrap_i64]; omega
      have hlt : p.W.length - 1 < p.W.length := by omega
      have hab : above p.W x = decide (y < x) := by simp [above, hy]
      clear hc hy'
      by_cases hnx : p.n ≤ x
      · by_cases hlr : p.W.length < p.rm
        · by_cases hyx : y < x
          · have hok : addOk p.rm p.W x = true := by simp [addOk, hab, hlr, hyx]
            rw [HSN.out hnx hok]
            clear h hb hq hs ho hi hp hS0 HS1 HNO HSN hab hok hz hy
            generalize p.W.length - 1 = K at *
            go_enter Try.func27, Try.ntmps27
            go_wp2
            go_quiet (fail)
            go_wp2
            go_quiet (fail)
            go_wp2_with (first | (at_builtin; refine wpList_append_wo rfl _ _ rfl _ p.W x w.heap.size 1 rfl (HAP.out (w.drewN _) (Out.drew w _)).1 rfl (HAP.out (w.drewN _) (Out.drew w _)).2.1 hw5 ?_; intro v' w6 q1 q2 q3; obtain ⟨⟨a6, k6, rfl⟩, ⟨f4, f1⟩, ff, hT⟩ := (HAP.out (w.drewN _) (Out.drew w _)).2.2 v' w6 q1 q2 q3; have HT : Hid (RTh _ _ _ _ _ _) := hT; clear q1 q2 q3 hT) | fail)
            go_returns
            exact ⟨rfl, HT.out⟩
          · have hok : ¬ addOk p.rm p.W x = true := by simp [addOk, hab, hyx]
            rw [HNO.out (fun h => hok h.2)]
            clear h hb hq hs ho hi hp hS0 HNO HSN hab hok hz hy HAP
            generalize p.W.length - 1 = K at *
            generalize p.W.length = L at *
            go_enter Try.func27, Try.ntmps27
            go_wp2
            go_quiet (fail)
            go_wp2
            go_quiet (fail)
            go_wp2
            go_returns
            first | exact ⟨rfl, HS1.out _⟩ | exact ⟨rfl, HS.out _ _⟩
        · have hok : ¬ addOk p.rm p.W x = true := by simp [addOk, hlr]
          rw [HNO.out (fun h => hok h.2)]
          clear h hb hq hs ho hi hp hS0 HNO HSN hab hok hz hy HAP
          generalize p.W.length - 1 = K at *
          generalize p.W.length = L at *
          by_cases hyx : y < x
          · go_enter Try.func27, Try.ntmps27
            go_wp2
            go_quiet (fail)
            go_wp2
            go_quiet (fail)
            go_wp2
            go_returns
            first | exact ⟨rfl, HS1.out _⟩ | exact ⟨rfl, HS.out _ _⟩
          · go_enter Try.func27, Try.ntmps27
            go_wp2
            go_quiet (fail)
            go_wp2
            go_quiet (fail)
            go_wp2
            go_returns
            first | exact ⟨rfl, HS1.out _⟩ | exact ⟨rfl, HS.out _ _⟩
      · rw [HNO.out (fun h => hnx h.1)]
        have hnd : decide (p.n ≤ x) = false := by simpa using hnx
        clear h hb hq hs ho hi hp hS0 HNO HSN hab hz hy HAP
        generalize p.W.length - 1 = K at *
        generalize p.W.length = L at *
        by_cases hyx : y < x
        · go_enter Try.func27, Try.ntmps27
          go_wp2
          go_quiet (fail)
          go_wp2
          go_quiet (fail)
          go_wp2
          go_returns
          first | exact ⟨rfl, HS1.out _⟩ | exact ⟨rfl, HS.out _ _⟩
        · go_enter Try.func27, Try.ntmps27
          go_wp2
          go_quiet (fail)
          go_wp2
          go_quiet (fail)
          go_wp2
          go_returns
          first | exact ⟨rfl, HS1.out _⟩ | exact ⟨rfl, HS.out _ _⟩
  · have hp : p.sent x = p := by simp [PP.sent, e]
    have hW := hi.no (by omega)
    rw [hp]
    rw [e] at c2
    rw [hW] at c4
    simp only [List.length_nil] at c4
    clear h hb hq hs ho hi hp hW hS0
    go_enter Try.func27, Try.ntmps27
    go_wp2
    go_quiet (fail)
    go_wp2
    go_quiet (fail)
    go_wp2
    go_returns
    first
      | exact ⟨rfl, HS.out _ _⟩
      | exact ⟨rfl, by have := HS.out _ 0; exact this⟩
end Go.Proofs.Ytdgaimiggejleaa
